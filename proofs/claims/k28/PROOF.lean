import PyProof.Rows.All
import KE.KFromBytes
import KE.KTab
import KE.KIsAll
import KE.KDictOf
import KE.KEqDeep
import KE.KItem
import KE.KUnpackStar
import Wide.FinOn
import Wide.Line
import KE.KSortTup
import PyProof.AttrMissSeq
import OpenK.KOwn
import Open.TreeImp
import OpenK.KMore
import PyProof.InstStoreFacts
import PySem.Challenge.RW_lanepacks_k28_trees
set_option Elab.async false
set_option linter.all false
set_option maxRecDepth 100000
set_option maxHeartbeats 4000000
set_option bootstrap.genMatcherCode false
set_option compiler.extract_closed false
open Option renaming some->b3,none->b4
open Bool renaming true->ba,false->bb
open PySem renaming Value->Ua,Addr->Ub,starEach->Uc,wpAny->Ud,Str->Ue,model->Uf,mainGlobals->Ug,Expr->Uh,assignEach->Ui,World->Uj,Heap->Uk,Obj->Ul,Stmt->Um,foldedSetIterable->Uo,cellsFrom->Up,NameKind->Uq,Scope->Ur,assignInOrder->Us,Sem->Ut,Model->Uu,Tok->Uv
open Option renaming bind_eq_some_iff->Aa,map_eq_some_iff->Ao,bind_some->Ar,isSome_some->Oh,getD_none->Qk,map_some->Rs
open PySem renaming wpAny_bind->Ac,Shared->Ae,wpAny_pure->Ai,Program->Aw,bootBuiltins->Bm,wpAny_holding->Br,Around->Cb,wpAny_mono->Cd,sizeLine_eq->Ce,compareOp->Ct,mem_of_lookup->Cv,wpAny_callSpecial?_slot->Cw,wpAny_newObj_type->Dq,FuncData->Dw,wpAny_field->Eo,wpAny_call_entry->Es,swapsWithSole->Ex,swappedStores->Ey,backTo->Fa,wpAny_Call_Name_kw->Fd,wpAny_seqItems->Fh,wpAny_truthy_bool->Fi,call_meets->Fj,binaryOp->Fq,wpAny_setField_rec->Fs,Builtin->Fu,Spec->Fz,sysModules->Ga,wpAny_passesOwn->Gb,wpAny_standAt->Gg,attributeBase->Gh,wpAny_pyIter_list->Gw,sliceBounds->Hd,keywordEach->He,Keyword->Hf,swapsWith->Hk,wpAny_pyIter_tuple->Hl,behindInMarks->Hn,tupleKind_room_in1->Hq,wpAny_assign_Name->Hx,wpAny_rule->Hz,wpAny_sequenceKey->Ic,bindName->Ik,wpAny_bindName->Il,wpAny_updateSeq_pair->Iz,importedModules->Ji,wpAny_execs_nil->Jn,unpackItems->Jo,letOwnedTupleGo->Jq,codeAny->Jr,wpAny_newFunctionEnv_cells->Kh,codeAny_mono->Ko,wpAny_typeOf->Kq,holding->Kt,recursionLimit->Ku,wpAny_binaryOp_repeat_ref->Kw,wpAny_comprehension_free->La,getItem->Lk,backToKw->Ll,wpAny_onRaise->Lo,wpAny_attempt->Lp,wpAny_eqBool_int->Ly,noFill_tuple_add->Mb,wpAny_pyNext_list_item->Md,DictEntry->Mj,wpAny_pyNext_list_end->Mk,codeAny_call_function->Mm,concat_meets->Mn,call_meetsIn->Mp,codeAny_builtin->Mu,typeIs_int->Mx,ZipApart->My,codeAny_call_builtin->Nd,PyData->Nh,newFunctionEnv->Nk,callerA->Nq,wpAny_letGo->Nu,seq_tuple_add->Oe,evalPart_none->Of,frameOf->Oo,getattributeRaised->Oq,ExceptHandler->Ov,setItem->Pa,BindsTo->Pc,list_append->Pd,valueAt->Pe,wpAny_Call_method->Pf,wpAny_pyIter_enum->Pk,slot_list_setitem->Ps,Params->Py,seqIndex_neg->Qc,typeOf->Qd,entryPlaceOf->Qg,seqSlot_of->Qr,bindArgs->Qv,PassesOwn->Rc,lastMarks->Rf,seqIndex_of->Rg,pushCells->Rl,setField->Rx,Thread->Se,wpAny_Name->Sf,wpAny_call->Sg,call->Sh,newObjAsIs->Si,isInstance->Sj,standAt->Sq,Builtin->Sz,getAttr?->Tc,Within->Ti,stored->Tk
open PySem.Heap renaming get?_push_of_some->Ad,lt_size->Ap,get?_push_size->As,size_push->Ei,get?_update_other->Eu,SameBut->Fp,get?_push_ne->Ig,get?_update_self->Iq,ExtBut->Ju,FlyingW->Ks,get?_update_ne->Ny,get?_some_iff->Om
open Bool renaming and_eq_true->Af,false_eq_true->De,and_eq_true_iff->Du,false_ne_true->Ek,or_eq_true->Hs,beq_eq_decide_eq->Mv,or_false->Ss,false_or->Su,true_and->Tg
open List renaming getElem?_eq_some_iff->Ag,size_toArray->Aj,mem_cons->Ak,mem_cons_of_mem->Am,getElem?_append_left->An,mem_singleton->At,mem_cons_self->Au,replicate->Av,not_mem_nil->Ax,append_assoc->Ay,map_cons->Ba,range->Bf,getElem?_append_right->Bo,mem_append_left->Bp,mem_append_right->Bq,length_append->Bv,length_cons->Bw,mem_append->Bx,getElem?_set_ne->By,nodup_cons->Ca,length_set->Cc,length_map->Ci,take_of_length_le->Cn,lookup_cons->Co,perm_append_comm->Cq,length_take->Cr,getElem?_eq_getElem->Cs,mem_map->Cu,mem_range->Db,getElem?_set_self->Dd,getElem?_take_of_lt->Df,take_append_drop->Dk,all_eq_true->Dn,getElem?_replicate->Dr,getElem?_map->Ds,mem_of_getElem?->Dt,take_append_of_le_length->Dx,replicate_succ->Dz,length_singleton->Eb,lookup_cons_self->Ed,getElem?_eq_none->Ee,append_nil->Em,map_nil->Et,set_comm->Ez,nil_append->Fc,set_append_right->Ft,drop_eq_getElem_cons->Fx,map_append->Gd,flatten_cons->Ge,length_eq_zero_iff->Gj,find?_cons->Gs,drop_length->Hc,mem_filter->Hj,length_range->Ie,take_left->Im,drop_left->Io,singleton_append->Ir,cons_append->Ix,any_cons->Jb,dropLast_concat_getLast->Je,filterMap_cons->Jm,of_mem_zip->Js,forIn_cons->Jt,map_congr_left->Jv,idxOf_lt_length_of_mem->Kb,mem_filterMap->Kn,reverse_perm->Lc,getElem?_cons_succ->Lu,getElem_mem->Mc,range_succ_eq_map->Mf,length_replicate->Ml,length_nil->Mo,mem_iff_getElem?->Ms,getElem?_mapIdx->Nb,forall_mem_cons->Ng,drop_zero->Ni,forIn_nil->Nj,take_take->Nl,lookup->Nr,getElem_idxOf->Ox,ext_getElem?->Pj,getElem_inj->Qi,length_drop->Qj,isEmpty_iff->Ql,zipIdx_cons->Qm,zipIdx_nil->Rj,take_left'->Rm,mapM_cons->Rv,take_succ->Ry,drop_take->Rz,drop_drop->Sb,nodup_nil->Sc,all_cons->Sw,all_map->Tn,map_map->To
open PySem.W renaming Frag->Ah,mg_none_of->Dm,mg_of->Eh,kia_one->Fk,nsIn->Gr,kitOne->Hb,keepIn->Ja,kas_item->Jf,SharedT->Li,cellsFrom_some->Lz,fnOf->Ma,kitx_list->No,hideAll_get->Ob,codeIn->Od,Frag->Qa,callWith_K->Qb,looks_findIn->Qh,findIn->Qu,methodObj->Rb,kasC_bind->Rn,kasC_modify->Ro,kas_item_eq->Rq,absHeap->Sk,openEnds->Sm,subIn->Ta,clsIn->Te,instObj->Th,OpenLaw->Tl
open Nat renaming le_refl->Aq,lt_of_lt_of_le->Az,ne_of_lt->Bb,lt_irrefl->Ck,zero_le->Ep,le_trans->Fo,ne_of_gt->Hg,min_eq_left->Ht,le_succ->Ih,le_of_succ_le->Ij,le_add_right->Iu,zero_add->Km,sub_self->Kr,lt_of_succ_lt_succ->Mg,not_lt_zero->Mt,lt_succ_of_lt->Pq,le_of_lt->Pz,lt_trans->Qe,add_comm->Qf,succ_le_succ->Qo,min_le_left->Rk,add_assoc->Tb
open PySem.Str renaming ofString->Be,ofString_eq_toList->Hw
open PySem.AutoSeq1 renaming wpAny_loadPart'->Bg,idx_int->Iy,sub_tuple_tuple->Ld,sub_tuple_list->Lv,sub_list_tuple->Lw,sub_list_list->Mi
open PySem.F renaming slot_list_append->Bi,type_list_append->Bj,slot_dict_get->Ec,slot_list_extend->Ef,type_list_extend->Eg,entry_dict_get->Fm,slot_tuple_iterator_next->Fn,plainAttrs_list->Gi,args_tuple_add_2->Hh,entry_tuple_add->Ho,args_dict_get_2->Hr,slot_tuple_add->Hv,args_tuple_iterator_next_1->Jd,entry_tuple_iterator_next->Jw,slot_zip_next->Jx,slot_int_rmul->Jz,slot_dict_getitem->Kv,args_dict_get_3->Lm,plainAttrs_dict->Ln,slot_list_index->Lq,type_list_index->Lr,type_dict_get->Mq,args_list_append_2->Na,entry_list_append->Np,args_list_index_2->Nw,slot_list_append->Og,entry_list_index->Oj,args_tuple_mul_2->Ow,args_zip_next_1->Pn,slot_list_index->Po,args_int_rmul_2->Pt,entry_tuple_mul->Pw,entry_zip_next->Qn,entry_int_rmul->Qs,slot_tuple_mul->Qt,fills_int_mul->Rr
open Or renaming inr->Bk,inl->Cf
open PySem.NameKind renaming free->Bt,cell->Cm
open PySem.Value renaming ref->Bu,bool->Gk,type->Kx,int->Qz,str->Ra,isStrOf->So,isInt->Tr,float->Tt
open PySem.Builtin.SmallTypes renaming nextOf->Bz,ownedTupleIsFree->Dy,ownedTupleHandOut->Ha
open Option.some renaming inj->Cg,injEq->Ky
open Array renaming toList_append->Cj,length_toList->Gf,toList_push->Gx,toList_reverse->Gy,perm_iff_toList_perm->Kk,eraseIdxIfInBounds->Kz,getD->Lb,size_extract->Ot,size_append->Pr,toList_inj->Qq,toList->Tj
open PySem.PassesOwn renaming never->Cz
open PySem.Obj renaming mapSeq->Dg,data_mapFields->Oi,mapFields->Sy
open Prod renaming fst->Dh,snd->Er
open Ne renaming symm->Di
open List.Perm renaming append_left->Dj,append_right->Gp,trans->Jy,append->Qp,cons->Sa
open ForInStep renaming yield->Dv
open PySem.Builtin.List renaming listTooLong->Ea,listSameRef->Le
open PyProof.Rows renaming assignInOrder_cons->Ej,callWith_type1->El,slot_tuple_getitem->Ew,SortSt->Ff,seqObj->Hi,assignInOrder_nil->Hy,AllBare->Lj,subscriptTail_builtinR->Me,listUpdate_at->Op,unpackItems_tuple->Pb,pairsOf->Pp,SortKind->Qx,seqEpoch_at->Rp,tail_any->Sr,IntsAre->Sv
open PySem.SeqAt renaming shaped->Fb,list_indexAt->Ol
open Int renaming emod_lt_of_pos->Fe,emod_nonneg->Hu,toNat_natCast->Ib,eq_ofNat_of_zero_le->Lx,toNat_of_nonneg->Nz
open PySem.PyData renaming keyHash->Fg,depthAll->Fl,canLay0->Gm,canLayAll0->Ii,depth->Ip,eqv->Jg,int->Ph,strOk->Tp
open PySem.Builtin.Slice renaming slicePlaces->Fv,sliceAdjust->Gz,sliceApplied->Ki,slicePartIndex->Qw,sliceFields->Ru
open PyProof.Rows.KTD renaming datumAt->Fw
open PySem.Calls renaming evalArgs_plain->Fy,callWith_builtin->Go,spliced_cons->Gq,spliced_nil->Ia,Name_function_global->Kg
open PySem.Builtin.Tuple renaming tupleExact->Gc,tupleItemsOf->Kj,tupleTooMany->Kl,tupleIsExact->Rt
open Pure renaming pure->Gu
open False renaming elim->Gv
open PySem.Builtin.Range renaming rangeSize->Hm,small->Tw
open PyProof.Rows.SortSt renaming mk'->Jh
open PySem.W.Fast renaming tw10156331382660048174->Jj,tw11892475500146522536->Jk,tw14364793385576792824->Jl,tw1435165496053646825->Kc,tw4187177175401517315->Ke,te4187177175401517315->Kf
open PyProof.Rows.IsTup renaming new->Jp
open List.cons renaming injEq->Ka
open List.Pairwise renaming map->Lg,nil->Pg
open PySem.Builtin.Dict renaming updateFrom->Ls,pairItems->Mh,missed->Nv
open Classical renaming choose_spec->Mr
open PySem.Challenge renaming pw_lanepacks_k28_trees->Mw,rw_lanepacks_k28_trees->Mz
open PySem.Around renaming under_plainId->Nc
open PySem.SeqAt.EqAt renaming bool_bool->Nf
open PySem.Heap.SameBut renaming update->Nt
open PySem.EntryCells renaming newEntry->Nx
open PySem.Paired renaming length->Oa,snoc->Tv
open Sum renaming inl->Oy,inr->Oz
open Char renaming toNat->Px
open PySem.W.Looks renaming ld->Qy
open PySem.Heap.DictOf renaming new->Rh
open PySem.Shared renaming heap->Ri
open Function renaming comp->Sx
open PySem.Heap.UpToSlots renaming of_keeps->Tf
open PySem.MeetsSeq.EqGives renaming int->Tq
open PySem.IsRange renaming new->Tu
open PySem.Heap.IsSliceOf renaming new->Tx
open PySem.W.WShape renaming has->Tz
noncomputable section
namespace KK
open PySem PySem.W
noncomputable def GR:List Ul->Nat->BT->Option BT
 |[],_,t=>b3 t
 |o::l,n,t=>match((t.ins n o).get n).isSome with
  |true=>GR l (n+1) (t.ins n o)
  |false=>b4
theorem K2{life:Life}:∀{l:List Ul}{n:Nat}{t t':BT},GR l n t=b3 t'->Sk t' (n+l.length) life=⟨(Sk t n life).objs++l.toArray,life⟩
 |[],n,t,t',h=>by cases h;simp[Sk]
 | o :: l,n,t,t',h => by
  unfold GR at h;split at h
  ·rename_i g
   have a:=K2 (life:=life) h;rw[show n+(o::l).length=n+1+l.length by simp;lia,a,absHeap_ins g];simp[Heap.push]
  ·cases h
def toT(s:Ae):Option Li:=(GR s.heap.objs.toList 0 .nil).map λt=>⟨t,s.heap.objs.size,s.heap.life,s.gens,s.drawn,s.toks,s.os⟩
def EQ{s:Ae}{u:Li}(h:toT s=b3 u):u.abs=s:=by
 unfold toT at h;cases e:GR s.heap.objs.toList 0 .nil with
 |none=>rw[e]at h;cases h
 |some t=>
  rw[e]at h;cases h;have:=K2 (life:=s.heap.life) e
  simp only[Km,Gf]at this;obtain⟨⟨a,life⟩,gens,drawn,toks,os⟩:=s;show(⟨Sk t a.size life,gens,drawn,toks,os⟩:Ae)=_;rw[this];simp[Sk,BT.list]
abbrev StT:=Li->Se->Option (Li×Se)
noncomputable def topG(st:StT)(ok:Se->Bool):Nat->Li->Se->Option Li
 |0,_,_=>b4
 | n + 1,s,t => match through t with
  |true=>b3 s
  | false => match ok t with
   |false=>b4
   |true=>match st s t with
    |some (s',t')=>topG st ok n s' t'
    |none=>b4
theorem ER{tb:String->Option Fu}{p:Aw}{w:Uj}{a:Nat}{b:Option Ua}:∀{n:Nat}{s s':Li}{t:Se},topG (stepT (denote tb) p w) (stepOk a b) n s t=b3 s'->topRun tb p w a b n s.abs t=b3 s'.abs
 |0,_,_,_,h=>by cases h
 | n + 1,s,s',t,h => by
  unfold topG at h;unfold topRun;cases f:through t with
  |true=>rw[f]at h;cases h;rfl
  |false=>
   rw[f]at h;cases hk:stepOk a b t with
   |false=>rw[hk]at h;cases h
   |true=>
    rw[hk]at h;cases c:stepT (denote tb) p w s t with
    |none=>rw[c]at h;cases h
    |some r=>obtain⟨e,d⟩:=r;rw[c]at h;rw[stepT_spec c];exact ER h
noncomputable def impG(st:StT):Nat->Li->Se->Option Li
 |0,_,_=>b4
 | n + 1,s,t => match t.atExitBegin with
  |some []=>b3 s
  |some (_::_)=>b4
  |none=>match st s t with
   |some (s',t')=>impG st n s' t'
   |none=>b4
theorem DF{tb:String->Option Fu}{p:Aw}{w:Uj}:∀{n:Nat}{s s':Li}{t:Se},impG (stepT (denote tb) p w) n s t=b3 s'->importEnds tb p w n s.abs t=b3 s'.abs
 |0,_,_,_,h=>by cases h
 | n + 1,s,s',t,h => by
  unfold impG at h;unfold importEnds;cases d:t.atExitBegin with
  |some x=>
   rw[d]at h;cases x with
   |nil=>cases h;rfl
   |cons=>cases h
  |none=>
   rw[d]at h;cases a:stepT (denote tb) p w s t with
   |none=>rw[a]at h;cases h
   |some r=>obtain⟨c,b⟩:=r;rw[a]at h;dsimp only;rw[stepT_spec a];exact DF h
noncomputable def chkU(p:Aw)(s₀ s:Ae):Bool:=staticsOk (Ji p.main.body) s₀.heap s.heap&&namesBound p s.heap&&gensDone s&&laidKept s₀.heap s.heap
noncomputable def Q0(p:Aw)(w:Uj)(N:Nat):Option (Ae×Ae):=
 (toT (Kc (opening p)).1).bind λu=>(impG (Jj (Jk Jl) (opening p) w) N u (Kc (opening p)).2).bind λb=>(Fast.tw14289696077712309145 p b.abs).bind λs₀=>
 match s₀.heap.isNs Ug&&s₀.gens.size==0 with
 |true=>(toT s₀).bind λv=>(topG (Jj (Jk Jl) p w) (Fast.tw6613529449190102663 s₀.heap.objs.size (s₀.heap.nsMap Ug "__annotations__")) N v (topStub p)).bind λa=>b3 (s₀,a.abs)
 |false=>b4
def pF{p:Aw}{w:Uj}{N:Nat}{q:Ae×Ae}(h:Q0 p w N=b3 q)(hc:chkU p q.1 q.2=ba):Sm treeTable p w N=b3 q.2:=by
 unfold Q0 at h;rw[<-Fast.te1435165496053646825,<-Fast.te10156331382660048174,<-Fast.te11892475500146522536,<-Fast.te14364793385576792824,<-Fast.te14289696077712309145,<-Fast.te6613529449190102663]at h;unfold Sm fencedOpening;obtain⟨u,i,h⟩:=Aa.mp h;obtain⟨k,g,h⟩:=Aa.mp h;obtain⟨s₀,f,h⟩:=Aa.mp h;have c:=DF g;rw[EQ i]at c;rw[c,Ar,f,Ar];unfold topFrom;cases b:(s₀.heap.isNs Ug&&s₀.gens.size==0)with
 |false=>rw[b]at h;cases h
 |true=>
  rw[b]at h;obtain⟨v,e,h⟩:=Aa.mp h;obtain⟨j,d,h⟩:=Aa.mp h;cases h;have a:=ER d;rw[EQ e]at a;dsimp only;rw[a,Ar];unfold chkU at hc;rw[hc]
def mapQ{α β:Type}{p:Aw}{w:Uj}{N:Nat}{f:Ae->α}{g:Ae->β}{v:α}{u:β}(h1:(Q0 p w N).map (λq=>f q.2)=b3 v)(h2:(Q0 p w N).map (λq=>(chkU p q.1 q.2,g q.2))=b3 (ba,u)):(Sm treeTable p w N).map (λs=>(f s,g s))=b3 (v,u):=by
 cases e:Q0 p w N with
 |none=>rw[e]at h1;cases h1
 |some q=>
  rw[e]at h1 h2;obtain⟨b,a⟩:=Prod.mk.inj (Cg h2);rw[pF e b];exact congrArg b3 (Prod.ext (Cg h1) a)
end KK
namespace RR
open PySem
def top(i:Nat):Um:=PySem.Challenge.pw_lanepacks_k28_trees.main.body.getD i (.Pass ⟨0,0,0,0⟩)
end RR
namespace KK
open PySem PySem.W PySem.Calls PyProof.Rows
def dA(s:Um):Arguments:=match s with
 |.FunctionDef _ a _ _ _ _ _ _ _ _=>a
 |_=>⟨[],[],b4,[],[],b4,[]⟩
def dB(s:Um):List Um:=match s with
 |.FunctionDef _ _ b _ _ _ _ _ _ _=>b
 |_=>[]
def dS(s:Um):Ur:=match s with
 |.FunctionDef _ _ _ _ _ _ c _ _ _=>c
 |_=>{kind:=.function,names:=[],isGenerator:=bb,isCoroutine:=bb}
abbrev s(x:Ue)(t:Nat):Ua:=.str x t
abbrev e(P:Py)(x:Ue)(t:Nat)(v:Ua):Mj:=⟨PyData.keyHash P x,s x t,v⟩
abbrev f(a i:Nat)(n:Ue)(d m:Ua):Nat×Ul:=(a,⟨.type "function",b4,.func (fnOf n n (dA (RR.top i)) (dB (RR.top i)) (dS (RR.top i)) d .none .none m b4 (.ref (a-1)) .none),#[]⟩)
abbrev fk(a i:Nat)(n:Ue)(d k m:Ua):Nat×Ul:=(a,⟨.type "function",b4,.func (fnOf n n (dA (RR.top i)) (dB (RR.top i)) (dS (RR.top i)) d k .none m b4 (.ref (a-1)) .none),#[]⟩)
abbrev co(a:Nat)(n:Ue)(t:Nat)(l k:Int)(u:Nat)(x y z v:Ua):Nat×Ul:=(a,⟨.type "code",b4,.fields #[s n t,s n (t+1),s "/claim/cut.py" (t+2),.int l 0,.int k 0,.int 0 0,.int 0 0,.int 3 0,x,.bool ba,.int 181 0,y,.none,z,v,.ref (a-1),.int u 0,.int l 0,s "/claim/cut.py" (u+1)],#[]⟩)
abbrev c(a:Nat)(n:Ue)(t:Nat)(l k:Int)(u:Nat):Nat×Ul:=co a n t l k u (.ref (a-5)) (.ref (a-4)) (.ref (a-3)) (.ref (a-2))
abbrev b(a:Nat)(n:Ue)(t:Nat)(l k:Int)(u:Nat):Nat×Ul:=co a n t l k u (.ref (a-3)) (.ref (a-2)) .none .none
abbrev m:Ua:=s "law_lanepacks_k28_trees" 862
abbrev kc(a q:Nat)(n:Ue)(b t u:Nat):Nat×Ul:=(a,⟨.type "type",b4,.cls {name:=n,bases:=[.ref q],mro:=[.ref a,.ref q,.type "ValueError",.type "Exception",.type "BaseException",.type "object"],ns:=a-1,qualname:=n},#[b3 (.ref b),b4,b3 (s n t),b3 (s n u),b3 (.builtin "ValueError.__new__"),b3 (.bool ba)]⟩)
abbrev kn(P:Py)(a m w l r:Nat):Nat×Ul:=(a,⟨.type "dict",b4,.dict #[e P "__module__" m (s "lanepacks.errors" w),e P "__firstlineno__" (m+4) (.int l (m+3)),e P "__static_attributes__" (m+5) (.ref r),e P "__doc__" (m+6) .none] 2,#[]⟩)
noncomputable def K(P:Py):Frag:=[(3,⟨.type "dict",b4,.dict #[e P "__name__" 165 (s "law_lanepacks_k28_trees" 862),e P "__doc__" 166 (.none),e P "__package__" 167 (.none),e P "__loader__" 168 (.builtin "__main__.__loader__#opaque"),e P "__spec__" 169 (.none),e P "__annotations__" 170 (.ref 6),e P "__builtins__" 171 (.ref 4),e P "__file__" 173 (s "/claim/cut.py" 172),e P "__cached__" 174 (.none),e P "PackError" 206 (.ref 24),e P "NoBlock" 222 (.ref 37),e P "NoCells" 238 (.ref 49),e P "NoRow" 263 (.ref 68),e P "NoLanes" 279 (.ref 80),e P "NoPlan" 295 (.ref 92),e P "NoProgram" 311 (.ref 104),e P "NoTree" 327 (.ref 116),e P "NoLoop" 343 (.ref 128),e P "NoText" 359 (.ref 140),e P "NoName" 384 (.ref 159),e P "TooMany" 400 (.ref 171),e P "TooLong" 416 (.ref 183),e P "NotValid" 441 (.ref 202),e P "Nothing" 457 (.ref 214),e P "MOST_WORD" 461 (.int 999 460),e P "DEEDS" 469 (.ref 217),e P "is_whole" 478 (.ref 224),e P "plus" 486 (.ref 231),e P "minus" 494 (.ref 238),e P "times" 502 (.ref 245),e P "least" 510 (.ref 252),e P "most" 518 (.ref 259),e P "less" 526 (.ref 266),e P "over" 534 (.ref 273),e P "pick" 543 (.ref 280),e P "MADE" 558 (.ref 281),e P "done" 567 (.ref 288),e P "MOST_SURE" 571 (.int 64 570),e P "MOST_ROWS" 573 (.int 40 572),e P "MOST_PLACE" 575 (.int 63 574),e P "DEED_PARTS" 578 (.ref 289),e P "OTHER_PARTS" 604 (.ref 290),e P "READERS" 607 (.ref 297),e P "WRITERS" 610 (.ref 298),e P "parts_of" 617 (.ref 305),e P "makes_word" 624 (.ref 312),e P "place_of" 631 (.ref 319),e P "names_of" 637 (.ref 324),e P "with_names" 645 (.ref 331),e P "may_name" 653 (.ref 338),e P "fits" 662 (.ref 345),e P "is_row" 668 (.ref 350),e P "MOST_CELLS" 672 (.int 64 671),e P "is_cells" 678 (.ref 355),e P "touches" 686 (.ref 362),e P "do_on_cell" 696 (.ref 369),e P "do_row" 710 (.ref 377),e P "MOST_TREE_ROWS" 714 (.int 20 713),e P "MOST_DEEP" 716 (.int 3 715),e P "ZERO" 718 (.int 0 717),e P "ONE" 720 (.int 1 719),e P "is_if" 727 (.ref 384),e P "sight_behind_if" 739 (.ref 391),e P "sight_behind" 750 (.ref 398),e P "is_tree" 757 (.ref 405),e P "listed" 767 (.ref 412),e P "do_tree" 773 (.ref 417),e P "run_tree" 783 (.ref 424),e P "Flat" 855 (.ref 474),e P "flattened" 861 (.ref 483),e P "_law_cell_at" 873 (.ref 490),e P "_law_mixed" 883 (.ref 497),e P "_law_draw" 892 (.ref 504),e P "_law_pick" 901 (.ref 511),e P "_law_place" 912 (.ref 518),e P "_law_row" 918 (.ref 523),e P "_law_rows" 932 (.ref 530),e P "_law_next" 949 (.ref 537),e P "_law_block" 955 (.ref 542),e P "_law_names" 962 (.ref 549),e P "_law_may" 968 (.ref 554),e P "_law_must" 974 (.ref 559),e P "_law_which" 982 (.ref 566),e P "_law_mixed_order" 988 (.ref 571),e P "_law_renamed" 994 (.ref 576),e P "_law_tree_rows" 1014 (.ref 583),e P "_law_tree" 1025 (.ref 590),e P "_law_ask" 1035 (.ref 597),e P "_law_bad_trees" 1043 (.ref 604),e P "law" 1049 (.ref 609)] 90,#[]⟩),(23,⟨.type "dict",b4,.dict #[e P "__module__" 196 (s "lanepacks.errors" 187),e P "__firstlineno__" 200 (.int 2 199),e P "__static_attributes__" 201 (.ref 22),e P "__weakref__" 203 (.ref 25),e P "__doc__" 204 (.none)] 3,#[]⟩),(24,⟨.type "type",b4,.cls {name:= "PackError",bases:=[.type "ValueError"],mro:=[.ref 24,.type "ValueError",.type "Exception",.type "BaseException",.type "object"],ns:=23,qualname:= "PackError",subclasses:=[.ref 37,.ref 49,.ref 68,.ref 80,.ref 92,.ref 104,.ref 116,.ref 128,.ref 140,.ref 159,.ref 171,.ref 183,.ref 202,.ref 214]},#[b3 (.ref 15),b4,b3 (s "PackError" 189),b3 (s "PackError" 197),b3 (.builtin "ValueError.__new__"),b3 (.bool ba)]⟩),kn P 36 214 187 4 35,kc 37 24 "NoBlock" 28 207 215,kn P 48 230 187 6 47,kc 49 24 "NoCells" 40 223 231,(67,⟨.type "dict",b4,.dict #[e P "__module__" 246 (s "lanepacks.errors" 187),e P "__firstlineno__" 250 (.int 8 249),e P "__init__" 258 (.ref 65),e P "__static_attributes__" 260 (.ref 66),e P "__doc__" 261 (.none)] 2,#[]⟩),kc 68 24 "NoRow" 52 239 247,kn P 79 271 187 13 78,kc 80 24 "NoLanes" 71 264 272,kn P 91 287 187 15 90,kc 92 24 "NoPlan" 83 280 288,kn P 103 303 187 17 102,kc 104 24 "NoProgram" 95 296 304,kn P 115 319 187 19 114,kc 116 24 "NoTree" 107 312 320,kn P 127 335 187 21 126,kc 128 24 "NoLoop" 119 328 336,kn P 139 351 187 23 138,kc 140 24 "NoText" 131 344 352,(158,⟨.type "dict",b4,.dict #[e P "__module__" 367 (s "lanepacks.errors" 187),e P "__firstlineno__" 371 (.int 25 370),e P "__init__" 379 (.ref 156),e P "__static_attributes__" 381 (.ref 157),e P "__doc__" 382 (.none)] 2,#[]⟩),kc 159 24 "NoName" 143 360 368,kn P 170 392 187 30 169,kc 171 24 "TooMany" 162 385 393,kn P 182 408 187 32 181,kc 183 24 "TooLong" 174 401 409,(201,⟨.type "dict",b4,.dict #[e P "__module__" 424 (s "lanepacks.errors" 187),e P "__firstlineno__" 428 (.int 34 427),e P "__init__" 436 (.ref 199),e P "__static_attributes__" 438 (.ref 200),e P "__doc__" 439 (.none)] 2,#[]⟩),kc 202 24 "NotValid" 186 417 425,kn P 213 449 187 39 212,kc 214 24 "Nothing" 205 442 450,(217,⟨.type "tuple",b4,.seq #[s "plus" 462,s "minus" 463,s "times" 464,s "least" 465,s "most" 466,s "less" 467,s "over" 468] 0,#[]⟩),f 224 19 "is_whole" (.none) (s "lanepacks.words" 458),c 223 "is_whole" 470 44 3 476,(281,⟨.type "dict",b4,.dict #[e P "plus" 544 (.ref 231),e P "minus" 545 (.ref 238),e P "times" 546 (.ref 245),e P "least" 547 (.ref 252),e P "most" 548 (.ref 259),e P "less" 549 (.ref 266),e P "over" 550 (.ref 273)] 7,#[]⟩),(289,⟨.type "tuple",b4,.seq #[s "row" 576,s "row" 577] 0,#[]⟩),(290,⟨.type "dict",b4,.dict #[e P "number" 579 (.ref 291),e P "pick" 581 (.ref 292),e P "load" 585 (.ref 293),e P "take" 587 (.ref 294),e P "store" 591 (.ref 295),e P "put" 594 (.ref 296)] 6,#[]⟩),(291,⟨.type "tuple",b4,.seq #[s "word" 580] 0,#[]⟩),(292,⟨.type "tuple",b4,.seq #[s "row" 582,s "row" 583,s "row" 584] 0,#[]⟩),(293,⟨.type "tuple",b4,.seq #[s "place" 586] 0,#[]⟩),(294,⟨.type "tuple",b4,.seq #[s "place" 588,s "row" 589,s "row" 590] 0,#[]⟩),(295,⟨.type "tuple",b4,.seq #[s "place" 592,s "row" 593] 0,#[]⟩),(296,⟨.type "tuple",b4,.seq #[s "place" 595,s "row" 596,s "row" 597] 0,#[]⟩),(297,⟨.type "tuple",b4,.seq #[s "load" 605,s "take" 606] 0,#[]⟩),(298,⟨.type "tuple",b4,.seq #[s "store" 608,s "put" 609] 0,#[]⟩),f 305 38 "parts_of" (.none) (s "lanepacks.blocks" 568),c 304 "parts_of" 611 78 1 615,f 312 39 "makes_word" (.none) (s "lanepacks.blocks" 568),c 311 "makes_word" 618 82 1 622,f 338 43 "may_name" (.none) (s "lanepacks.blocks" 568),c 337 "may_name" 646 91 2 651,f 345 44 "fits" (.none) (s "lanepacks.blocks" 568),c 344 "fits" 654 93 3 660,f 350 45 "is_row" (.none) (s "lanepacks.blocks" 568),b 349 "is_row" 663 99 2 666,f 355 48 "is_cells" (.none) (s "lanepacks.running" 669),b 354 "is_cells" 673 109 2 676,f 384 57 "is_if" (.none) (s "lanepacks.trees" 711),c 383 "is_if" 721 142 1 725,f 391 58 "sight_behind_if" (.none) (s "lanepacks.trees" 711),c 390 "sight_behind_if" 728 146 3 737,f 398 59 "sight_behind" (.none) (s "lanepacks.trees" 711),c 397 "sight_behind" 740 156 3 748,f 405 60 "is_tree" (.none) (s "lanepacks.trees" 711),c 404 "is_tree" 751 170 1 755,f 424 63 "run_tree" (.none) (s "lanepacks.trees" 711),c 423 "run_tree" 774 192 2 781,(473,⟨.type "dict",b4,.dict #[e P "__module__" 791 (s "lanepacks.trees" 711),e P "__firstlineno__" 795 (.int 200 794),e P "__init__" 802 (.ref 438),e P "lay" 810 (.ref 445),e P "both" 819 (.ref 452),e P "lay_rows" 825 (.ref 457),e P "lay_if" 835 (.ref 464),e P "masked" 845 (.ref 471),e P "__static_attributes__" 848 (.ref 472),e P "__dict__" 850 (.ref 475),e P "__weakref__" 852 (.ref 476),e P "__doc__" 853 (.none)] 4,#[]⟩),(474,⟨.type "type",b4,.cls {name:= "Flat",bases:=[.type "object"],mro:=[.ref 474,.type "object"],ns:=473,qualname:= "Flat"},#[b4,b4,b3 (s "Flat" 784),b3 (s "Flat" 792),b3 (.builtin "object.__new__"),b3 (.bool ba)]⟩),f 483 65 "flattened" (.none) (s "lanepacks.trees" 711),b 482 "flattened" 856 240 1 859,f 490 67 "_law_cell_at" (.none) m,c 489 "_law_cell_at" 864 253 2 871,f 497 68 "_law_mixed" (.none) m,c 496 "_law_mixed" 874 262 3 881,f 504 69 "_law_draw" (.none) m,c 503 "_law_draw" 884 265 3 890,f 511 70 "_law_pick" (.none) m,c 510 "_law_pick" 893 268 3 899,f 518 71 "_law_place" (.none) m,c 517 "_law_place" 902 270 5 910,f 523 72 "_law_row" (.none) m,b 522 "_law_row" 913 273 5 916,f 530 73 "_law_rows" (.none) m,c 529 "_law_rows" 919 291 4 930,f 537 74 "_law_next" (.none) m,c 536 "_law_next" 933 303 6 947,f 542 75 "_law_block" (.none) m,b 541 "_law_block" 950 314 3 953,f 549 76 "_law_names" (.none) m,c 548 "_law_names" 956 323 1 960,f 554 77 "_law_may" (.none) m,b 553 "_law_may" 963 327 2 966,f 559 78 "_law_must" (.none) m,b 558 "_law_must" 969 332 1 972,f 566 79 "_law_which" (.none) m,c 565 "_law_which" 975 344 1 980,f 571 80 "_law_mixed_order" (.none) m,b 570 "_law_mixed_order" 983 352 3 986,f 576 81 "_law_renamed" (.none) m,b 575 "_law_renamed" 989 359 2 992,f 583 82 "_law_tree_rows" (.none) m,c 582 "_law_tree_rows" 995 364 6 1012,f 590 83 "_law_tree" (.none) m,c 589 "_law_tree" 1015 384 3 1023,f 597 84 "_law_ask" (.none) m,c 596 "_law_ask" 1026 388 3 1033,f 604 85 "_law_bad_trees" (.none) m,c 603 "_law_bad_trees" 1036 393 1 1041,f 609 86 "law" (.none) m,b 608 "law" 1044 399 1 1047]
noncomputable def A:List Nat:=[3,23,24,36,37,48,49,67,68,79,80,91,92,103,104,115,116,127,128,139,140,158,159,170,171,182,183,201,202,213,214,217,224,223,281,289,290,291,292,293,294,295,296,297,298,305,304,312,311,338,337,345,344,350,349,355,354,384,383,391,390,398,397,405,404,424,423,473,474,483,482,490,489,497,496,504,503,511,510,518,517,523,522,530,529,537,536,542,541,549,548,554,553,559,558,566,565,571,570,576,575,583,582,590,589,597,596,604,603,609,608]
noncomputable def view:Aw:={Mw with main:={PySem.Challenge.pw_lanepacks_k28_trees.main with body:=[1,2,3,4,5,6,7,8,9,10,11,12,13,14,15,17,18,19,20,21,22,23,24,25,26,27,28,29,31,32,33,34,35,36,37,38,39,40,41,42,43,44,45,47,48,49,50,53,54,55,56,57,58,59,60,61,62,63,64,65,67,68,69,70,71,72,73,74,75,76,77,78,79,80,81,82,83,84,85,86].map RR.top}}
abbrev lo:List Ue:=["MADE","OTHER_PARTS","do_row"]
def kA(P:Py):A=(K P).map (·.1):=by kernel_rfl
noncomputable def X(s:Ae):Bool:=xlAt view [] s&&recOk (RowW.records (OpenRow.toRowW PySem.Challenge.rw_lanepacks_k28_trees.row)) s
noncomputable abbrev H:Hook:=kHook K A kA
abbrev pr:Aw:=PySem.Challenge.rw_lanepacks_k28_trees.row.prog
set_option maxRecDepth 100000 in
set_option maxHeartbeats 0 in
theorem rAf(w:Uj):(Q0 pr (w.withFollow "special-get-raises" bb) 11300).map (λq=>Ke view lo (Ji pr.main.body) X ba q.2)=b3 (openGood view lo):=by kernel_rfl
set_option maxRecDepth 100000 in
set_option maxHeartbeats 0 in
theorem rBf(w:Uj):(Q0 pr (w.withFollow "special-get-raises" bb) 11300).map (λq=>(chkU pr q.1 q.2,H.obs q.2))=b3 ((ba,H.val (w.withFollow "special-get-raises" bb))):=by kernel_rfl
set_option maxRecDepth 100000 in
set_option maxHeartbeats 0 in
theorem rAt(w:Uj):(Q0 pr (w.withFollow "special-get-raises" ba) 11300).map (λq=>Ke view lo (Ji pr.main.body) X ba q.2)=b3 (openGood view lo):=by kernel_rfl
set_option maxRecDepth 100000 in
set_option maxHeartbeats 0 in
theorem rBt(w:Uj):(Q0 pr (w.withFollow "special-get-raises" ba) 11300).map (λq=>(chkU pr q.1 q.2,H.obs q.2))=b3 ((ba,H.val (w.withFollow "special-get-raises" ba))):=by kernel_rfl
def hl:LeftO pr view lo X H.obs H.val 11300:=λw=>byRow2 "special-get-raises" (P:=λw=>(Sm treeTable pr w 11300).map (λs=>(openSeen view lo (Ji pr.main.body) X ba s,H.obs s))=b3 (openGood view lo,H.val w)) (λw=>mapQ (by rw[Kf];exact rAf w) (rBf w)) (λw=>mapQ (by rw[Kf];exact rAt w) (rBt w)) w
set_option maxRecDepth 100000 in
set_option maxHeartbeats 0 in
theorem said:PySem.Challenge.rw_lanepacks_k28_trees.wellSaid=ba:=by rw[Fast.te9446332074065402090];kernel_rfl
end KK
namespace L2
open PySem PySem.Spec PyProof.Rows
abbrev aY:=Sum Int Ue
noncomputable def LM:aY->Ua->Bool
 |.inl k,v=>Tr k v
 |.inr x,v=>So x v
def keyH(w:Uj):aY->Int
 |.inl k=>hashInt k
 |.inr x=>hashStr w x
theorem Z6:∀{k:aY}{v:Ua},LM k v=ba->(∃i t,k=Oy i/\v=Qz i t)∨(∃x t,k=Oz x/\v=Ra x t)
 |.inl i,v,h=>by obtain⟨t,e⟩:=Value.isInt_shape (k:=i) (v:=v) h;exact .inl ⟨i,t,rfl,e⟩
 |.inr x,v,h=>by obtain⟨t,e⟩:=Value.isStrOf_shape (x:=x) (v:=v) h;exact .inr ⟨x,t,rfl,e⟩
def BE(i:Int)(t:Uv):LM (.inl i) (.int i t)=ba:=by simp[LM,Tr]
def BF(x:Ue)(t:Uv):LM (.inr x) (.str x t)=ba:=by simp[LM,So]
def lJ(a b:Int):decide ((Oy a:aY)=Oy b)=(a==b):=by
 by_cases e:a=b
 ·subst e;simp
 ·have h : ¬ (Oy a : aY) = Oy b := λq => e (Sum.inl.inj q)
  rw[decide_eq_false h];exact(beq_eq_false_iff_ne.mpr e).symm
def qu(a b:Ue):decide ((Oz a:aY)=Oz b)=decide (a=b):=by
 by_cases e:a=b
 ·subst e;simp
 ·have h : ¬ (Oz a : aY) = Oz b := λq => e (Sum.inr.inj q)
  rw[decide_eq_false h,decide_eq_false e]
def Yz(a:Int)(b:Ue):decide ((Oy a:aY)=Oz b)=bb:=decide_eq_false (λq=>nomatch q)
def oM(a:Ue)(b:Int):decide ((Oz a:aY)=Oy b)=bb:=decide_eq_false (λq=>nomatch q)
def a9(prog:Aw)(w:Uj):PySem.KeyKind prog w aY where
 is:=LM
 hash:=keyH w
 inj:=λv a b l f=>by
  rcases Z6 l with⟨i,t,rfl,rfl⟩|⟨x,t,rfl,rfl⟩
  ·rcases Z6 f with⟨j,u,rfl,e⟩|⟨y,u,rfl,e⟩
   ·injection e with c _;rw[c]
   ·exact nomatch e
  ·rcases Z6 f with⟨j,u,rfl,e⟩|⟨y,u,rfl,e⟩
   ·exact nomatch e
   ·injection e with c _;rw[c]
 byValue:=λk v h=>by
  rcases Z6 h with⟨i,t,rfl,rfl⟩|⟨x,t,rfl,rfl⟩<;>rfl
 pyHash:=λd h=>by
  rcases Z6 d with⟨i,t,rfl,rfl⟩|⟨x,t,rfl,rfl⟩
  ·exact wpAny_pyHash_int h
  ·exact wpAny_pyHash_str h
 eqBool:=λg d h=>by
  rcases Z6 g with⟨i,t,rfl,rfl⟩|⟨x,t,rfl,rfl⟩
  ·rcases Z6 d with⟨j,u,rfl,rfl⟩|⟨y,u,rfl,rfl⟩
   ·rw[lJ]at h;exact Ly h
   ·rw[Yz]at h;exact SeqAt.EqAt.int_str i t y u _ _ _ _ h
  ·rcases Z6 d with⟨j,u,rfl,rfl⟩|⟨y,u,rfl,rfl⟩
   ·rw[oM]at h;exact SeqAt.EqAt.str_int x t j u _ _ _ _ h
   ·rw[qu]at h;exact wpAny_eqBool_str h
 «strs» :=λk x t v h=>by
  rcases Z6 h with⟨i,u,rfl,e⟩|⟨y,u,rfl,e⟩
  ·exact nomatch e
  ·injection e with c _
   subst c;cases v<;>rfl
def HE(prog:Aw)(w:Uj)(i:Int)(t:Uv):(a9 prog w).is (.inl i) (.int i t)=ba:=BE i t
def HF(prog:Aw)(w:Uj)(x:Ue)(t:Uv):(a9 prog w).is (.inr x) (.str x t)=ba:=BF x t
inductive V where
 |non|bl (b:Bool)|int (i:Int)|str (x:Ue)|byt (b:Array UInt8)|flt (b:UInt64)|ref (a:Ub)|ty (n:String)
 deriving DecidableEq
def b7:V->Ua->Prop
 |.non,u=>u=Value.none
 |.bl b,u=>u=Gk b
 |.int i,u=>∃t,u=Qz i t
 |.str x,u=>∃t,u=Ra x t
 |.byt b,u=>∃t,u=Value.bytes b t
 |.flt b,u=>∃t,u=Tt b t
 |.ref a,u=>u=Bu a
 |.ty n,u=>u=Kx n
abbrev bX:List V->List Ua->Prop:=Paired b7
def bX.length{xs:List V}{a:List Ua}(r:bX xs a):xs.length=a.length:=Oa r
theorem bX.get:∀{xs:List V}{a:List Ua}{i:Nat}{x:V},bX xs a->xs[i]?=b3 x->∃u,a[i]?=b3 u/\b7 x u
 |_,_,_,_,.nil,e=>by simp at e
 |_,_,0,_,.cons r _,e=>by simp at e;subst e;exact⟨_,rfl,r⟩
 |_,_,i+1,x,.cons _ t,e=>by obtain⟨u,h1,h2⟩:=bX.get (i:=i) (x:=x) t (by simpa using e);exact⟨u,by simpa using h1,h2⟩
theorem bX.set{x:V}{u:Ua}(r:b7 x u):∀{xs:List V}{a:List Ua}(i:Nat),bX xs a->bX (xs.set i x) (a.set i u)
 |_,_,_,.nil=>.nil
 |_,_,0,.cons _ t=>.cons r t
 |_,_,i+1,.cons q t=>.cons q (bX.set r i t)
theorem bX.append:∀{xs ys:List V}{b a:List Ua},bX xs b->bX ys a->bX (xs++ys) (b++a)
 |_,_,_,_,.nil,s=>s
 |_,_,_,_,.cons r t,s=>.cons r (bX.append t s)
theorem bX.take:∀{xs:List V}{a:List Ua}(n:Nat),bX xs a->bX (xs.take n) (a.take n)
 |_,_,0,_=>.nil
 |_,_,_+1,.nil=>.nil
 |_,_,n+1,.cons r t=>.cons r (bX.take n t)
theorem bX.drop:∀{xs:List V}{a:List Ua}(n:Nat),bX xs a->bX (xs.drop n) (a.drop n)
 |_,_,0,r=>r
 |_,_,_+1,.nil=>.nil
 |_,_,n+1,.cons _ t=>bX.drop n t
noncomputable def PZ:Option V->Option Ua->Prop
 |some v,b3 u=>b7 v u
 |none,b4=>True
 |_,_=>False
def KV{κ:Type}:List (κ×V)->List (κ×Ua)->Prop:=Paired λ(p:κ×V) (q:κ×Ua)=>p.1=q.1/\b7 p.2 q.2
noncomputable def kV:aY->V
 |.inl i=>.int i
 |.inr x=>.str x
inductive HO where
 |lst (xs:List V)
 |tup (xs:List V)
 |dK (kvs:List (aY×V))|dT (kvs:List (List aY×V))
 |set (S:Int->Bool) (n:Nat)
 |ins (C dx:Ub) (fs:List (Ue×V))
 |own (x:Ub)
 |xd (fs:List (Ue×V))
 |met (f x:Ub)
 |nst (xs:List V) (sub:Ub->Option (List V))
 |rng (lo hi:Int)
 |frz (o:Ul) (u:HO)
 |tbl (ps:Array Ua)
 |ext (φ:Uk->Prop)
abbrev Hp:=Ub->Option HO
def upd(H:Hp)(a:Ub)(o:HO):Hp:=λb=>if b=a then b3 o else H b
def cH{H:Hp}{a:Ub}{o:HO}:upd H a o a=b3 o:=by unfold upd;rw[if_pos rfl]
def cB{H:Hp}{a b:Ub}{o:HO}(h:b≠a):upd H a o b=H b:=by unfold upd;rw[if_neg h]
def Q7{H:Hp}{a b:Ub}{o u:HO}(h:H a=b3 o)(h':H b=b3 u)(d:o≠u):a≠b:=by intro e;subst e;rw[h]at h';exact d (Cg h')
def ZL{H:Hp}{a b:Ub}{o:HO}(h:H a=b3 o)(h':H b=b4):a≠b:=by intro e;subst e;rw[h]at h';cases h'
section
variable(P:Aw)(w:Uj)
def aG(H:Hp)(h:Uk)(a:Ub):HO->Prop
 |.lst xs=>xs.length<=sizeLine/\∃(its:List Ua) (n:Nat),bX xs its/\h.get? a=b3 {cls:=.type "list",data:=.seq its.toArray n}
 |.tup xs=>xs.length<=sizeLine/\∃its:List Ua,bX xs its/\IsTup h a its.toArray
 |.dK kvs=>kvs.length<=sizeLine/\(a==Ga)=bb/\∃vs,KV kvs vs/\h.DictOf (a9 P w) a vs
 | .dT kvs => kvs.length <= sizeLine /\ (a == Ga) = bb /\ ∃ xs : List (List aY × Ub × Ua),
   Paired (λ(p:List aY×V) (q:List aY×Ub×Ua)=>p.1=q.1/\H q.2.1=b3 (.tup (p.1.map kV))/\b7 p.2 q.2.2) kvs xs∧
   ∃o es d,h.get? a=b3 o/\o.ExactDict/\o.data=.dict es d/\es.toList=xs.map (entryOfKey (tupleKind (a9 P w)))/\(xs.map (·.1)).Nodup
 |.set S n=>h.SetOf (intKind P w) a S n
 | .ins C dx fs => H dx = b3 (.own a) /\ fs.length <= 1000 /\ dx ≠ a /\ h.get? a = b3 (Th C dx) ∧
   ∃b,h.Ns1 dx b/\(∀f,PZ (fs.lookup f) (b f))/\Ti b (fs.map (·.1))
 |.own _=>∃o,h.get? a=b3 o
 |.xd fs=>∃b,h.Ns1 a b/\∀f,PZ (fs.lookup f) (b f)
 |.rng lo hi=>∃t u v,h.get? a=b3 {cls:=.type "range",data:=.fields #[.int lo t,.int hi u,.int 1 v]}
 |.frz o u=>h.get? a=b3 o/\aG H h a u
 |.tbl ps=>h.get? a=b3 {cls:=.none,data:=.fields ps}
 |.met f x=>h.get? a=b3 (Rb (.ref f) (.ref x))
 | .nst xs sub => (xs.length <= sizeLine /\ ∃ (its : List Ua) (n : Nat),bX xs its /\ h.get? a = b3 { cls := .type "list",data := .seq its.toArray n }) ∧
   ∀p zs,sub p=b3 zs->p≠a/\H p=b3 (.own a)/\zs.length<=sizeLine/\∃(its:List Ua) (n:Nat),bX zs its/\h.get? p=b3 {cls:=.type "list",data:=.seq its.toArray n}
 |.ext c=>c h/\(∃o,h.get? a=b3 o)/\∀h1 h2:Uk,c h1->(∀o,h1.get? a=b3 o->h2.get? a=b3 o)->c h2
def U2(H:Hp)(h:Uk):Prop:=∀a o,H a=b3 o->aG P w H h a o
end
section
variable{P:Aw}{w:Uj}{H H':Hp}{h h':Uk}{a:Ub}{o:HO}
def aG.lt(x:aG P w H h a o):a<h.objs.size:=by
 cases o with
 |lst xs=>obtain⟨_,_,_,_,e⟩:=x;exact Ap e
 |tup xs=>obtain⟨_,_,_,p⟩:=x;exact p.lt
 |dK kvs=>obtain⟨_,_,_,_,o,_,_,e,_⟩:=x;exact Ap e
 |dT kvs=>obtain⟨_,_,_,_,o,_,_,e,_⟩:=x;exact Ap e
 |set S n=>obtain⟨o,_,_,_,e,_⟩:=x;exact Ap e
 |ins C dx fs=>obtain⟨_,_,_,e,_⟩:=x;exact Ap e
 |own y=>obtain⟨_,e⟩:=x;exact Ap e
 |xd fs=>obtain⟨_,⟨_,_,_,e,_⟩,_⟩:=x;exact Ap e
 |rng lo hi=>obtain⟨_,_,_,e⟩:=x;exact Ap e
 |frz c u=>obtain⟨e,_⟩:=x;exact Ap e
 |tbl ps=>exact Ap (show h.get? a=b3 _ from x)
 |met f y=>exact Ap (show h.get? a=b3 _ from x)
 |nst xs sub=>obtain⟨⟨_,_,_,_,e⟩,_⟩:=x;exact Ap e
 |ext b=>obtain⟨_,⟨_,e⟩,_⟩:=x;exact Ap e
theorem Paired.mapP{α β:Type}{F G:α->β->Prop}:∀{d:List α}{c:List β},Paired F d c->(∀a b,F a b->G a b)->Paired G d c
 |_,_,.nil,_=>.nil
 |_,_,.cons r t,f=>.cons (f _ _ r) (Paired.mapP t f)
def aG.stay(x:aG P w H h a o)(k:∀b u,(b=a∨H b=b3 (.own a))->h.get? b=b3 u->h'.get? b=b3 u)(m:∀b,H b=b3 (.own a)->H' b=b3 (.own a))(J:∀b xs,H b=b3 (.tup xs)->H' b=b3 (.tup xs)):aG P w H' h' a o:=by
 induction o with
 |lst xs=>obtain⟨z,its,n,r,e⟩:=x;exact⟨z,its,n,r,k _ _ (.inl rfl) e⟩
 |tup xs=>obtain⟨z,its,r,g,e,c⟩:=x;exact⟨z,its,r,g,k _ _ (.inl rfl) e,c⟩
 |dK kvs=>obtain⟨z,y,vs,r,g,es,i,e,c⟩:=x;exact⟨z,y,vs,r,g,es,i,k _ _ (.inl rfl) e,c⟩
 |dT kvs=>
  obtain⟨z,y,xs,r,g,es,i,e,c⟩:=x;exact⟨z,y,xs,Paired.mapP r λp q z=>⟨z.1,J _ _ z.2.1,z.2.2⟩,g,es,i,k _ _ (.inl rfl) e,c⟩
 |set S n=>obtain⟨g,es,i,t,e,c⟩:=x;exact⟨g,es,i,t,k _ _ (.inl rfl) e,c⟩
 |ins C dx fs=>
  obtain⟨d,z,B,e,l,⟨od,es,i,j,c⟩,r⟩:=x;exact⟨m _ d,z,B,k _ _ (.inl rfl) e,l,⟨od,es,i,k _ _ (.inr d) j,c⟩,r⟩
 |own y=>obtain⟨g,e⟩:=x;exact⟨g,k _ _ (.inl rfl) e⟩
 |xd fs=>obtain⟨l,⟨od,es,i,e,c⟩,r⟩:=x;exact⟨l,⟨od,es,i,k _ _ (.inl rfl) e,c⟩,r⟩
 |rng lo hi=>obtain⟨t,u,v,e⟩:=x;exact⟨t,u,v,k _ _ (.inl rfl) e⟩
 |frz g u F=>obtain⟨e,q⟩:=x;exact⟨k _ _ (.inl rfl) e,F q⟩
 |tbl ps=>
  have e:h.get? a=b3 {cls:=.none,data:=.fields ps}:=x;show h'.get? a=b3 {cls:=.none,data:=.fields ps};exact k a _ (.inl rfl) e
 |met f y=>
  have e:h.get? a=b3 (Rb (.ref f) (.ref y)):=x;show h'.get? a=b3 (Rb (.ref f) (.ref y));exact k a _ (.inl rfl) e
 |nst xs sub=>
  obtain⟨⟨z,I,E,A,M⟩,k2⟩:=x;exact⟨⟨z,I,E,A,k _ _ (.inl rfl) M⟩,λp zs K=>let ⟨O,j,N,G,D,s,L⟩:=k2 p zs K;⟨O,m _ j,N,G,D,s,k _ _ (.inr j) L⟩⟩
 |ext Q=>obtain⟨p,⟨o,e⟩,st⟩:=x;exact⟨st _ _ p λo q=>k _ _ (.inl rfl) q,⟨o,k _ _ (.inl rfl) e⟩,st⟩
def U2.lt(x:U2 P w H h)(e:H a=b3 o):a<h.objs.size:=(x a o e).lt
def U2.fresh(x:U2 P w H h)(e:h.objs.size<=a):H a=b4:=by
 cases q:H a with
 |none=>rfl
 |some u=>exact absurd (Az (x.lt q) e) (Ck _)
def U2.kept(x:U2 P w H h)(k:∀b u,h.get? b=b3 u->h'.get? b=b3 u):U2 P w H h':=λa o e=>
 (x a o e).stay (λb u _ q=>k b u q) (λ_ q=>q) λ_ _ q=>q
def U2.laid(x:U2 P w H h)(k:∀b u,h.get? b=b3 u->h'.get? b=b3 u)(g:h.objs.size<=a)(new:aG P w (upd H a o) h' a o):U2 P w (upd H a o) h':=λb u e=>by
 have d:=x.fresh g;by_cases f:b=a
 ·subst f;rw[cH]at e;cases e;exact new
 ·rw[cB f]at e
  exact(x b u e).stay (λc v _ q=>k c v q) (λc q=>by rw[cB (ZL q d)];exact q) λc xs q=>by rw[cB (ZL q d)];exact q
end
def Prt(H:Hp)(a:Ub)(u:HO):Prop:=∃xs sub zs,u=.lst zs/\((∃x,H a=b3 (.own x)/\H x=b3 (.nst xs sub)/\sub a=b3 zs)∨(H a=b3 (.nst xs sub)/\zs=xs))
def Rd(H:Hp)(a:Ub)(u:HO):Prop:=(H a=b3 u∨Prt H a u)∨∃o,H a=b3 (.frz o u)
def Rd.of{H:Hp}{a:Ub}{u:HO}(h:H a=b3 u):Rd H a u:=.inl (.inl h)
def Rd.ok{P:Aw}{w:Uj}{H:Hp}{h:Uk}{a:Ub}{u:HO}(r:Rd H a u)(x:U2 P w H h):aG P w H h a u:=by
 rcases r with(r|⟨xs,sub,zs,rfl,(⟨y,_,e,s⟩|⟨e,rfl⟩)⟩)|⟨o,r⟩
 ·exact x a u r
 ·obtain⟨_,k2⟩:=x y _ e
  obtain⟨_,_,z,i,n,v,g⟩:=k2 _ _ s;exact⟨z,i,n,v,g⟩
 ·exact(show aG P w H h a (.nst _ sub) from x a _ e).1
 ·obtain⟨_,q⟩:=x a _ r
  exact q
def Mut:Option HO->Prop
 |some (.lst _)=>True
 |some (.dK _)=>True
 |some (.dT _)=>True
 |some (.set _ _)=>True
 |some (.ins _ _ _)=>True
 |some (.nst _ _)=>True
 |some (.ext _)=>True
 |_=>False
section
variable{P:Aw}{w:Uj}{H:Hp}{h h':Uk}{x e:Ub}{o':HO}
def U2.write(ok:U2 P w H h)(d:Mut (H x))(l:e=x∨H e=b3 (.own x))(k:∀b u,b≠e->h.get? b=b3 u->h'.get? b=b3 u)(g:∃u,h'.get? e=b3 u)
  (new:aG P w (upd H x o') h' x o'):U2 P w (upd H x o') h':=λb u q=>by
 have j:∀c y,H c=b3 (.own y)->c≠x:=λc y r z=>by subst z;rw[r]at d;exact d
 have m:∀c xs,H c=b3 (.tup xs)->c≠x:=λc xs r z=>by subst z;rw[r]at d;exact d
 by_cases f:b=x
 ·subst f;rw[cH]at q;cases q;exact new
 ·rw[cB f]at q
  by_cases a:b=e
  ·have i:H b=b3 (.own x):=by
    rcases l with z|z
    ·exact absurd (a.trans z) f
    ·rw[a];exact z
   rw[q]at i;cases i;obtain⟨v,n⟩:=g;exact⟨v,by rw[a];exact n⟩
  ·refine (ok b u q).stay (λc v hc r => k c v ?_ r) (λc r => by rw [cB (j c b r)];exact r) λc xs r => by rw [cB (m c xs r)];exact r
   rcases hc with rfl|hc
   ·exact a
   ·rintro rfl
    rcases l with z|z
    ·exact j c b hc z
    ·rw[hc]at z;cases z;exact f rfl
end
structure Un(fs ex:List Ub)(H H':Hp)(h h':Uk):Prop where
 keep:∀b o,h.get? b=b3 o->H b=b4->b∉fs->b∉ex->h'.get? b=b3 o
 slot:∀b o,h.get? b=b3 o->H b=b4->b∈fs->b∉ex->∃sl,h'.get? b=b3 {o with slots:=sl}
 free:∀b o,h.get? b=b3 o->H b=b4->b∉ex->H' b=b4
 there:∀b o,h.get? b=b3 o->b∉ex->∃o',h'.get? b=b3 o'
 tups:∀b xs,H b=b3 (.tup xs)->H' b=b3 (.tup xs)
 frzs:∀b o u,H b=b3 (.frz o u)->H' b=b3 (.frz o u)
 tbls:∀b ps,H b=b3 (.tbl ps)->∃more,H' b=b3 (.tbl (ps++more))
section
variable{fs fs' ex ex':List Ub}{H H1 H2:Hp}{h h1 h2 h':Uk}{a x e:Ub}{o:HO}
def Un.any(u:Un fs ex H H1 h h1){b:Ub}{a:Ul}(q:h.get? b=b3 a)(n:H b=b4)(c:b∉ex):∃e,h1.get? b=b3 {a with slots:=e}:=by
 by_cases d:b∈fs
 ·exact u.slot b a q n d c
 ·exact⟨a.slots,u.keep b a q n d c⟩
def Un.kept(k:∀b u,h.get? b=b3 u->h'.get? b=b3 u):Un fs ex H H h h':=
 ⟨λb a q _ _ _=>k b a q,λb a q _ _ _=>⟨a.slots,k b a q⟩,λ_ _ _ n _=>n,λb a q _=>⟨a,k b a q⟩,λ_ _ q=>q,λ_ _ _ q=>q,λ_ ps q=>⟨#[],by rw[q];simp⟩⟩
def Un.refl:Un fs ex H H h h:=Un.kept λ_ _ q=>q
def Un.laid(k:∀b u,h.get? b=b3 u->h'.get? b=b3 u)(d:h.objs.size<=a)(c:H a=b4):Un fs ex H (upd H a o) h h' where
 keep:=λb u q _ _ _=>k b u q
 slot:=λb u q _ _ _=>⟨u.slots,k b u q⟩
 free:=λb u q n _=>by rw[cB (Bb (Az (Ap q) d))];exact n
 there:=λb u q _=>⟨u,k b u q⟩
 tups:=λb xs q=>by rw[cB (ZL q c)];exact q
 frzs:=λb u xs q=>by rw[cB (ZL q c)];exact q
 tbls:=λb ps q=>⟨#[],by rw[cB (ZL q c),q];simp⟩
def Un.write(c:Mut (H x))(j:e=x∨H e=b3 (.own x))(k:∀b u,b≠e->h.get? b=b3 u->h'.get? b=b3 u)(f:∃u,h'.get? e=b3 u):Un fs ex H (upd H x o) h h':=by
 have g:∀b,H b=b4->b≠x:=λb n z=>by subst z;rw[n]at c;exact c
 have i:∀b,H b=b4->b≠e:=λb n z=>by
  subst z;rcases j with r|r
  ·exact g b n r
  ·rw[n]at r;cases r
 have d:∀b u,H b=b3 u->¬Mut (b3 u)->b≠x:=λb u q nm z=>by subst z;rw[q]at c;exact nm c
 refine⟨λb u q n _ _=>k b u (i b n) q,λb u q n _ _=>⟨u.slots,k b u (i b n) q⟩,λb u q n _=>by rw[cB (g b n)];exact n,λb u q _=>?_,λb xs q=>by rw[cB (d b _ q λz=>z)];exact q,λb u xs q=>by rw[cB (d b _ q λz=>z)];exact q,λb ps q=>⟨#[],by rw[cB (d b _ q λz=>z),q];simp⟩⟩
 by_cases a:b=e
 ·subst a;exact f
 ·exact⟨u,k b u a q⟩
end
def trk(h:Uk)(H:Hp):List Ub:=(Bf h.objs.size).filter λa=>(H a).isSome
def JT(h:Uk)(H:Hp):Uk:=W.hideAll h (trk h H)
def A9(h:Uk)(H:Hp):(JT h H).objs.size=h.objs.size:=W.hideAll_size _ _
def kB{h:Uk}{H:Hp}{b:Ub}{o:Ul}(e:h.get? b=b3 o)(n:H b=b4):(JT h H).get? b=b3 o:=
 Ob _ e λa=>by have q:(H b).isSome=ba:=(Hj.mp a).2;rw[n]at q;simp at q
def oG{h:Uk}{H:Hp}{b:Ub}{o:Ul}(e:(JT h H).get? b=b3 o):h.get? b=b3 o/\H b=b4:=by
 have a:h.get? b=b3 o:=W.of_hideAll (trk h H) e;refine⟨a,?_⟩;cases q:H b with
 |none=>rfl
 |some x=>
  have c:b∈trk h H:=Hj.mpr ⟨Db.mpr (Ap a),by simp[q]⟩;have z:(JT h H).get? b=b4:=W.hideAll_none (trk h H) c;rw[z]at e;cases e
structure Mod(K:Ah)(mg:Ue->Option Ua)(base:Uk):Prop where
 kin:K.In base
 glob:base.Ns Ug mg
 blt:∃mb,base.Ns builtinsNs mb/\∀x:Ue,x≠ "__name__" ->mb x=Bm x
 nolimit:base.NoLimit
structure Cx where
 prog:Aw
 w:Uj
 K:Ah
 mg:Ue->Option Ua
 base:Uk
 A:Cb
 N:List Ue
 s₀:Ae
 H₀:Hp
 env:Env
 outer:List Env
 stack:List Env
 ex:List Ub
 fn:Ue->Bool
 calm:Bool
 pn:List (Ub×Ul)
 xe:Ua->Ae->Prop
def SX(l:List Env):List Ub:=l.filterMap (·.frame)
abbrev Cx.fs(X:Cx):List Ub:=SX X.outer
def Vis(a:Ur)(x:Ue):Prop:=a.names.lookup x=b3 .local∨a.names.lookup x=b3 .cell∨a.names.lookup x=b3 .free
def AB(a:Ur)(x:Ue):Prop:=a.names.lookup x=b3 .local∨a.names.lookup x=b3 .cell
def Look(env:Env)(h:Uk)(m:Ue->Option Ua)(x:Ue)(u:Ua):Prop:=
 (env.kindOf x=b3 .local/\m x=b3 u)∨((env.kindOf x=b3 .cell∨env.kindOf x=b3 .free)/\∃c,env.cells.lookup x=b3 c/\h.IsCell c (b3 u))
structure Cx.Ok(X:Cx):Prop where
 mod:Mod X.K X.mg X.base
 kind:X.env.scope.kind=.function
 glob:X.env.globals=Ug
 blt:X.env.builtins=builtinsNs
 above:X.s₀.heap.objs.size<=X.env.locals
 inj:∀x y c,X.env.cells.lookup x=b3 c->X.env.cells.lookup y=b3 c->x=y
 has:∀x,(X.env.kindOf x=b3 .cell∨X.env.kindOf x=b3 .free)->∃c,X.env.cells.lookup x=b3 c
 cab:∀x c,X.fn x=ba->X.env.cells.lookup x=b3 c->X.s₀.heap.objs.size<=c
 hd:X.calm=ba->X.A.handled=b4
 frames:X.A.frames=b3 X.stack
 stk:X.stack=X.outer∨(X.stack=X.env::X.outer/\X.env.frame=b3 X.env.locals)
 exf:∀b∈X.ex,b≠X.env.locals/\∀x c,X.env.cells.lookup x=b3 c->c≠b
 bs:∀b o,X.base.get? b=b3 o->X.s₀.heap.get? b=b3 o/\X.H₀ b=b4
 bsz:X.base.objs.size<=X.s₀.heap.objs.size
 noex:∀b o,X.base.get? b=b3 o->b∉X.ex
 exfs:∀b∈X.ex,b∉X.fs
 funs:X.s₀.heap.FunFrames X.base X.outer
 frf:∀b∈X.fs,X.H₀ b=b4
structure cM(X:Cx)(aa:List (Ub×Ul))(σ:List (Option V))(H:Hp)(s:Ae):Prop where
 ok:X.Ok
 os:s.os=X.s₀.os
 bare:Lj s.gens
 base:Un X.fs X.ex X.H₀ H X.s₀.heap s.heap
 loc:∃m,s.heap.Ns X.env.locals m/\∀(i:Nat) (x:Ue) (v:V),X.N[i]?=b3 x->σ[i]?=b3 (b3 v)->Vis X.env.scope x->∃u,b7 v u/\Look X.env s.heap m x u
 cell:∀x c,X.env.cells.lookup x=b3 c->∃v,s.heap.IsCell c v
 free:H X.env.locals=b4
 freeC:∀x c,X.env.cells.lookup x=b3 c->H c=b4
 pin:∀p∈X.pn++aa,s.heap.get? p.1=b3 p.2/\H p.1=b4/\p.1≠X.env.locals/\p.1∉X.fs/\∀v,p.2.data≠ .cell v
 hok:U2 X.prog X.w H s.heap
 len:σ.length=X.N.length
section
variable{X:Cx}{aa:List (Ub×Ul)}{σ:List (Option V)}{H H':Hp}{s:Ae}{h':Uk}
def Cx.Ok.nofr(ok:X.Ok){b:Ub}{o:Ul}(e:X.base.get? b=b3 o):b∉X.fs:=λa=>by
 have:=(ok.funs.mem a).1
 rw[e]at this;cases this
def cM.bs(I:cM X aa σ H s):∀b o,X.base.get? b=b3 o->s.heap.get? b=b3 o/\H b=b4:=λb o e=>
 ⟨I.base.keep b o (I.ok.bs b o e).1 (I.ok.bs b o e).2 (I.ok.nofr e) (I.ok.noex b o e),I.base.free b o (I.ok.bs b o e).1 (I.ok.bs b o e).2 (I.ok.noex b o e)⟩
def cM.bk(I:cM X aa σ H s):∀b o,X.base.get? b=b3 o->s.heap.get? b=b3 o:=λb o e=>(I.bs b o e).1
def cM.mod(I:cM X aa σ H s):Mod X.K X.mg X.base:=I.ok.mod
def cM.kIn(I:cM X aa σ H s):X.K.In s.heap:=I.ok.mod.kin.keeps I.bk
def cM.lt(I:cM X aa σ H s):X.env.locals<s.heap.objs.size:=let ⟨_,a,_⟩:=I.loc;a.lt
def cM.sz(I:cM X aa σ H s):X.s₀.heap.objs.size<=s.heap.objs.size:=Fo I.ok.above (Pz I.lt)
def cM.nofs(I:cM X aa σ H s){a:Ub}(h:s.heap.objs.size<=a):a∉X.fs:=λc=>by obtain⟨_,o,b,_⟩:=I.ok.funs.mem c;exact absurd (Az (Ap b) (Fo I.sz h)) (Ck _)
def cM.cne(I:cM X aa σ H s):∀x c,X.env.cells.lookup x=b3 c->c≠X.env.locals:=λx c e z=>by obtain⟨v,o,d,hd⟩:=I.cell x c e;obtain⟨m,⟨o',es,f,a,b,_⟩,_⟩:=I.loc;rw[z,a]at d;cases d;rw[b]at hd;cases hd
def cM.funs(I:cM X aa σ H s):s.heap.FunFrames X.base X.outer:=by
 have all:∀(l:List Env),(∀b∈SX l,b∈X.fs)->X.s₀.heap.FunFrames X.base l->s.heap.FunFrames X.base l:=by
  intro l;induction l with
  |nil=>intro _ _;trivial
  |cons env r g=>
   intro f hl;obtain⟨hk,⟨L,o,a,j,i,hd⟩,h⟩:=hl;have d:L∈X.fs:=f L (by unfold SX;rw[Jm,a];exact Au);obtain⟨k,e⟩:=I.base.slot L o i (I.ok.frf L d) d λz=>I.ok.exfs L z d;exact⟨hk,⟨L,_,a,j,e,hd⟩,g (λb c=>f b (by unfold SX;rw[Jm,a];exact Am _ c)) h⟩
 exact all X.outer (λ_ c=>c) I.ok.funs
def cM.stack(I:cM X aa σ H s):s.heap.FunFrames X.base X.stack:=by
 rcases I.ok.stk with e|⟨e,b⟩
 ·rw[e];exact I.funs
 ·rw[e]
  obtain⟨m,a,_⟩:=I.loc;refine .cons (by rw[I.ok.kind];decide) b a ?_ I.funs;exact Heap.get?_none_of_le (Fo I.ok.bsz I.ok.above)
def cM.stkSub(I:cM X aa σ H s):∀b∈SX X.stack,b∈X.env.locals::X.fs:=λb a=>by
 rcases I.ok.stk with e|⟨e,c⟩
 ·rw[e]at a;exact Am _ a
 ·rw[e]at a
  unfold SX at a;rw[Jm,c]at a;exact a
def cM.stkFree(I:cM X aa σ H s):∀b∈SX X.stack,H b=b4:=λb a=>by
 rcases Ak.mp (I.stkSub b a)with e|a
 ·rw[e];exact I.free
 ·obtain⟨_,o,c,_⟩:=I.ok.funs.mem a
  exact I.base.free b o c (I.ok.frf b a) λz=>I.ok.exfs b z a
def cM.step{g':Array GenState}{t':Nat}{d':Drawn}{ch:List Ub}(I:cM X aa σ H s)(h:∀b∈ch,(b∈X.ex∨X.s₀.heap.objs.size<=b)/\b≠X.env.locals/\(∀x c,X.env.cells.lookup x=b3 c->c≠b)/\∀p∈X.pn++aa,p.1≠b)(keep:∀b o,b≠X.env.locals->b∉X.fs->b∉ch->s.heap.get? b=b3 o->H b=b4->h'.get? b=b3 o)(slot:∀b o,b≠X.env.locals->b∈X.fs->b∉ch->s.heap.get? b=b3 o->H b=b4->∃G,h'.get? b=b3 {o with slots:=G})(f:∀b o,b∉ch->s.heap.get? b=b3 o->H b=b4->H' b=b4)(there:∀b o,b∉ch->s.heap.get? b=b3 o->∃o',h'.get? b=b3 o')(tups:∀b xs,H b=b3 (.tup xs)->H' b=b3 (.tup xs))(D:∀b o u,H b=b3 (.frz o u)->H' b=b3 (.frz o u))(B:∀b ps,H b=b3 (.tbl ps)->∃more,H' b=b3 (.tbl (ps++more)))(ns:∀m,s.heap.Ns X.env.locals m->h'.Ns X.env.locals m)(J:U2 X.prog X.w H' h')(R:Lj g'):cM X aa σ H' {s with heap:=h',gens:=g',drawn:=d',toks:=t'}:=by
 have C:∀b o,X.s₀.heap.get? b=b3 o->b≠X.env.locals:=λb o e=>Bb (Az (Ap e) I.ok.above);have j:∀b o,X.s₀.heap.get? b=b3 o->b∉X.ex->b∉ch:=λb o e a y=>by
  rcases(h b y).1 with z|z
  ·exact a z
  ·exact absurd (Az (Ap e) z) (Ck _)
 have N:∀x c,X.env.cells.lookup x=b3 c->∀v,s.heap.IsCell c v->h'.IsCell c v:=λx c e v q0=>by
  obtain⟨o,A,hd⟩:=q0;have g:c∉ch:=λz=>(h c z).2.2.1 x c e rfl;by_cases hc:c∈X.fs
  ·obtain⟨G,q⟩:=slot c o (I.cne x c e) hc g A (I.freeC x c e)
   exact⟨_,q,hd⟩
  ·exact⟨o,keep c o (I.cne x c e) hc g A (I.freeC x c e),hd⟩
 refine⟨I.ok,I.os,R,⟨λb o e n y a=>?_,λb o e n y a=>?_,λb o e n a=>?_,λb o e a=>?_,λb xs e=>tups b xs (I.base.tups b xs e),λb o xs e=>D b o xs (I.base.frzs b o xs e),λb ps e=>?_⟩,?_,λx c e=>?_,?_,λx c e=>?_,λp M=>?_,J,I.len⟩
 ·exact keep b o (C b o e) y (j b o e a) (I.base.keep b o e n y a) (I.base.free b o e n a)
 ·obtain⟨G,t⟩:=I.base.slot b o e n y a
  obtain⟨F,E⟩:=slot b _ (C b o e) y (j b o e a) t (I.base.free b o e n a);exact⟨F,E⟩
 ·obtain⟨o',t⟩:=I.base.there b o e a
  exact f b o' (j b o e a) t (I.base.free b o e n a)
 ·obtain⟨o',t⟩:=I.base.there b o e a
  exact there b o' (j b o e a) t
 ·obtain⟨P,t⟩:=I.base.tbls b ps e
  obtain⟨O,E⟩:=B b _ t;exact⟨P++O,by rw[E,Array.append_assoc]⟩
 ·obtain⟨m,Q,hl⟩:=I.loc
  refine⟨m,ns m Q,λi x v t E S=>?_⟩;obtain⟨u,r,l⟩:=hl i x v t E S;refine⟨u,r,?_⟩;rcases l with l|⟨k,c,e,z⟩
  ·exact .inl l
  ·exact .inr ⟨k,c,e,N x c e _ z⟩
 ·obtain⟨v,z⟩:=I.cell x c e
  exact⟨v,N x c e v z⟩
 ·obtain⟨m,⟨o,_,_,A,_⟩,_⟩:=I.loc
  exact f _ o (λz=>(h _ z).2.1 rfl) A I.free
 ·obtain⟨v,o,A,hd⟩:=I.cell x c e
  exact f c o (λz=>(h c z).2.2.1 x c e rfl) A (I.freeC x c e)
 ·obtain⟨e,n,L,K,d⟩:=I.pin p M
  have g:p.1∉ch:=λz=>(h p.1 z).2.2.2 p M rfl;exact⟨keep p.1 p.2 L K g e n,f p.1 p.2 g e n,L,K,d⟩
def cM.un{t':Nat}(I:cM X aa σ H s)(u:Un X.fs [] H H' s.heap h')(c:U2 X.prog X.w H' h'):cM X aa σ H' {s with heap:=h',toks:=t'}:=by
 obtain⟨m,⟨o,es,p,h,r⟩,_⟩:=id I.loc;obtain⟨k,j⟩:=u.any h I.free (by simp);exact I.step (g':=s.gens) (d':=s.drawn) (ch:=[]) (λ_ z=>nomatch z) (λb o _ d _ e n=>u.keep b o e n d (by simp)) (λb o _ d _ e n=>u.slot b o e n d (by simp)) (λb o _ e n=>u.free b o e n (by simp)) (λb o _ e=>u.there b o e (by simp)) u.tups u.frzs u.tbls (λl i=>by obtain⟨o',f,g,a,r'⟩:=i;rw[h]at a;cases a;exact⟨_,f,g,j,r'⟩) c I.bare
def cM.call{g':Array GenState}{t':Nat}{d':Drawn}{ch:List Ub}(I:cM X aa σ H s)(u:Un (SX X.stack) ch H H' s.heap h')(f:U2 X.prog X.w H' h')(l:Lj g')(d:∀b∈ch,(b∈X.ex∨X.s₀.heap.objs.size<=b)/\b≠X.env.locals/\(∀x c,X.env.cells.lookup x=b3 c->c≠b)/\∀p∈X.pn++aa,p.1≠b):cM X aa σ H' {s with heap:=h',gens:=g',drawn:=d',toks:=t'}:=by
 obtain⟨m,⟨o,es,y,j,r⟩,_⟩:=id I.loc;obtain⟨t,g⟩:=u.any j I.free λz=>(d _ z).2.1 rfl;exact I.step (ch:=ch) d (λb o g q hc e n=>u.keep b o e n (λz=>(Ak.mp (I.stkSub b z)).elim g q) hc) (λb o _ _ hc e n=>u.any e n hc) (λb o hc e n=>u.free b o e n hc) (λb o hc e=>u.there b o e hc) u.tups u.frzs u.tbls (λv k=>by obtain⟨o',h,i,a,r'⟩:=k;rw[j]at a;cases a;exact⟨_,h,i,g,r'⟩) f l
def cM.turned{t':Nat}{it:Ub}(I:cM X aa σ H s)(k:∀b o,b≠it->s.heap.get? b=b3 o->h'.get? b=b3 o)(g:H it=b4)(d:it≠X.env.locals)(h1:it∈X.ex∨X.s₀.heap.objs.size<=it)(h2:∀x c,X.env.cells.lookup x=b3 c->c≠it)(j:∀p∈X.pn++aa,p.1≠it):cM X aa σ H {s with heap:=h',toks:=t'}:=by
 have a:∀b u,H b=b3 u->b≠it:=λb u e z=>by rw[z,g]at e;cases e
 refine I.step (g':=s.gens) (d':=s.drawn) (ch:=[it]) (λb i=>?_) (λb o _ _ hc e _=>k b o (λz=>hc (by simp[z])) e) (λb o _ _ hc e _=>⟨o.slots,k b o (λz=>hc (by simp[z])) e⟩) (λ_ _ _ _ n=>n)
  (λb o hc e=>⟨o,k b o (λz=>hc (by simp[z])) e⟩) (λ_ _ e=>e) (λ_ _ _ e=>e) (λb ps e=>⟨#[],by rw[e];simp⟩) (λm h=>?_) (λb u e=>?_) I.bare
 ·have e : b = it := by simpa using i
  subst e;exact⟨h1,d,h2,j⟩
 ·obtain⟨o,es,l,f,r⟩:=h
  exact⟨o,es,l,k _ o (Di d) f,r⟩
 ·refine (I.hok b u e).stay (λc v hc q => k c v ?_ q) (λ_ q => q) λ_ _ q => q
  rcases hc with z|z
  ·rw[z];exact a b u e
  ·exact a c _ z
def cM.tok(I:cM X aa σ H s)(t:Nat):cM X aa σ H {s with toks:=t}:=I.un (h':=s.heap) (t':=t) Un.refl I.hok
def cM.kept{t':Nat}(I:cM X aa σ H s)(k:∀b u,s.heap.get? b=b3 u->h'.get? b=b3 u):cM X aa σ H {s with heap:=h',toks:=t'}:=I.un (Un.kept k) (I.hok.kept k)
def cM.laid{a:Ub}{o:HO}{t':Nat}(I:cM X aa σ H s)(k:∀b u,s.heap.get? b=b3 u->h'.get? b=b3 u)(c:s.heap.objs.size<=a)(new:aG X.prog X.w (upd H a o) h' a o):cM X aa σ (upd H a o) {s with heap:=h',toks:=t'}:=I.un (Un.laid k c (I.hok.fresh c)) (I.hok.laid k c new)
def cM.write{x e:Ub}{o:HO}{t':Nat}(I:cM X aa σ H s)(c:Mut (H x))(d:e=x∨H e=b3 (.own x))(k:∀b u,b≠e->s.heap.get? b=b3 u->h'.get? b=b3 u)(a:∃u,h'.get? e=b3 u)(new:aG X.prog X.w (upd H x o) h' x o):cM X aa σ (upd H x o) {s with heap:=h',toks:=t'}:=I.un (Un.write c d k a) (I.hok.write c d k a new)
def cM.weak{a:List (Option V)}(I:cM X aa σ H s)(hl:a.length=σ.length)(w:∀(i:Nat) v,a[i]?=b3 (b3 v)->σ[i]?=b3 (b3 v)):cM X aa a H s:=
 ⟨I.ok,I.os,I.bare,I.base,let ⟨m,c,b⟩:=I.loc;⟨m,c,λi x v f e d=>b i x v f (w i v e) d⟩,I.cell,I.free,I.freeC,I.pin,I.hok,hl.trans I.len⟩
def cM.pins_of{a:List (Ub×Ul)}(I:cM X aa σ H s)(h:∀p∈a,s.heap.get? p.1=b3 p.2/\H p.1=b4/\p.1≠X.env.locals/\p.1∉X.fs/\∀v,p.2.data≠ .cell v):cM X a σ H s:=
 ⟨I.ok,I.os,I.bare,I.base,I.loc,I.cell,I.free,I.freeC,λp b=>(Bx.mp b).elim (λz=>I.pin p (Bp _ z)) (h p),I.hok,I.len⟩
def HI{N:List Ue}(c:N.Nodup){i j:Nat}{x:Ue}(a:N[i]?=b3 x)(b:N[j]?=b3 x):i=j:=by obtain⟨h1,e⟩:=Ag.mp a;obtain⟨h2,d⟩:=Ag.mp b;exact(Qi c).mp (e.trans d.symm)
def L9{M:Uu}{A:Cb}{E:Ua->Ae->Prop}{i:Nat}{x:Ue}{v:V}{u:Ua}{Q:Unit->Ae->Prop}(I:cM X aa σ H s)(hN:X.N.Nodup)(hi:X.N[i]?=b3 x)(l:AB X.env.scope x)(r:b7 v u)(h:∀s',cM X aa (σ.set i (b3 v)) H s'->(∃a,Fp a s.heap s'.heap/\(a=X.env.locals∨X.env.cells.lookup x=b3 a))->Q () s')(hf:X.fn x=ba∨X.env.scope.names.lookup x=b3 .local:=by first|exact .inl rfl|exact .inr rfl|assumption):Ud M A (storeName X.env x u) Q E s:=by
 obtain⟨m,hn,hl⟩:=id I.loc;have p6:(X.env.scope.kind== .class || (X.env.scope.kind== .module&&X.env.locals !=X.env.globals))=bb:=by rw[I.ok.kind];rfl
 have B:i<σ.length:=by rw[I.len];exact(Ag.mp hi).1
 have cne:=I.cne;have gk:∀{a:Ub}{h':Uk},(∃o,s.heap.get? a=b3 o/\H a=b4)->Fp a s.heap h'->U2 X.prog X.w H h':=λ{a h'} ha f b ob e=>by
  obtain⟨_,_,bu⟩:=ha;refine(I.hok b ob e).stay (λc L hc q=>(f.2 c ?_).trans q) (λ_ q=>q) λ_ _ q=>q;rintro rfl;rcases hc with rfl|hc
  ·rw[bu]at e;cases e
  ·rw[bu]at hc;cases hc
 rcases l with hk|hk
 ·refine wpAny_storeName_local hk hn (λh' Z f => ?_) p6
  obtain⟨oL,_,_,Y,_⟩:=id hn;refine h _ ⟨I.ok,I.os,I.bare,⟨λb o e n F l=>?_,λb o e n F l=>?_,I.base.free,λb o e l=>?_,I.base.tups,I.base.frzs,I.base.tbls⟩,⟨_,Z,λj y R g t e3=>?_⟩,λy c e=>?_,I.free,I.freeC,λp W=>?_,gk ⟨oL,Y,I.free⟩ f,by simpa using I.len⟩ ⟨_,f,.inl rfl⟩
  ·exact(f.2 b (Bb (Az (Ap e) I.ok.above))).trans (I.base.keep b o e n F l)
  ·obtain⟨T,g⟩:=I.base.slot b o e n F l
   exact⟨T,(f.2 b (Bb (Az (Ap e) I.ok.above))).trans g⟩
  ·obtain⟨o',g⟩:=I.base.there b o e l
   exact⟨o',(f.2 b (Bb (Az (Ap e) I.ok.above))).trans g⟩
  ·by_cases C:j=i
   ·subst C
    rw[hi]at g;cases g;rw[Dd B]at t;cases t;exact⟨u,r,.inl ⟨hk,by simp⟩⟩
   ·rw[By (Di C)]at t
    obtain⟨S,r',q⟩:=hl j y R g t e3;refine⟨S,r',?_⟩;rcases q with⟨k,e⟩|⟨k,c,e,z⟩
    ·refine .inl ⟨k,?_⟩
     have:y≠x:=λe=>C (HI hN g (e▸hi))
     simp[this,e]
    ·exact .inr ⟨k,c,e,z.sameBut f (cne y c e)⟩
  ·obtain⟨L,z⟩:=I.cell y c e
   exact⟨L,z.sameBut f (cne y c e)⟩
  ·obtain⟨e,n,O,U,d⟩:=I.pin p W
   exact⟨(f.2 p.1 O).trans e,n,O,U,d⟩
 ·have D:X.fn x=ba:=by
   rcases hf with z|z
   ·exact z
   ·rw[z]at hk;cases hk
  obtain⟨c,hc⟩:=I.ok.has x (.inl hk);obtain⟨L,z⟩:=I.cell x c hc;refine wpAny_storeName_cell I.ok.kind hk hc z (λh' K f=>?_);obtain⟨oc,G,oj⟩:=id z;refine h {s with heap:=h'} ⟨I.ok,I.os,I.bare,⟨λb o e n F l=>?_,λb o e n F l=>?_,I.base.free,λb o e l=>?_,I.base.tups,I.base.frzs,I.base.tbls⟩,⟨m,hn.sameBut f (Di (cne x c hc)),λj y R g t e3=>?_⟩,λy P e=>?_,I.free,I.freeC,λp W=>?_,gk ⟨oc,G,I.freeC x c hc⟩ f,by simpa using I.len⟩ ⟨c,f,.inr hc⟩
  ·exact(f.2 b (Bb (Az (Ap e) (I.ok.cab x c D hc)))).trans (I.base.keep b o e n F l)
  ·obtain⟨T,g⟩:=I.base.slot b o e n F l
   exact⟨T,(f.2 b (Bb (Az (Ap e) (I.ok.cab x c D hc)))).trans g⟩
  ·obtain⟨o',g⟩:=I.base.there b o e l
   exact⟨o',(f.2 b (Bb (Az (Ap e) (I.ok.cab x c D hc)))).trans g⟩
  ·by_cases C:j=i
   ·subst C
    rw[hi]at g;cases g;rw[Dd B]at t;cases t;exact⟨u,r,.inr ⟨.inl hk,c,hc,K⟩⟩
   ·rw[By (Di C)]at t
    obtain⟨S,r',q⟩:=hl j y R g t e3;refine⟨S,r',?_⟩;rcases q with q|⟨k,P,e,z'⟩
    ·exact .inl q
    ·refine .inr ⟨k,P,e,z'.sameBut f ?_⟩
     rintro rfl;exact C (HI hN g (I.ok.inj _ _ _ e hc▸hi))
  ·by_cases J:P=c
   ·subst J;exact⟨_,K⟩
   ·obtain⟨w2,z2⟩:=I.cell y P e
    exact⟨w2,z2.sameBut f J⟩
  ·obtain⟨e,n,O,U,d⟩:=I.pin p W
   refine⟨(f.2 p.1 ?_).trans e,n,O,U,d⟩;intro q;rw[q,G]at e;have q':oc=p.2:=Cg e;exact d L (by rw[<-q'];exact oj)
def Y4{M:Uu}{A:Cb}{E:Ua->Ae->Prop}{i:Nat}{x:Ue}{v:V}{u:Ua}{Q:Unit->Ae->Prop}(I:cM X aa σ H s)(c:X.N.Nodup)(hi:X.N[i]?=b3 x)(a:AB X.env.scope x)(r:b7 v u)(h:∀s',cM X aa (σ.set i (b3 v)) H s'->Q () s')(b:X.fn x=ba∨X.env.scope.names.lookup x=b3 .local:=by first|exact .inl rfl|exact .inr rfl|assumption):Ud M A (storeName X.env x u) Q E s:=
 L9 I c hi a r (λs' d _=>h s' d) b
def cM.call'{s':Ae}{ch:List Ub}(I:cM X aa σ H s)(f:s'.os=s.os)(u:Un (SX X.stack) ch H H' s.heap s'.heap)(a:U2 X.prog X.w H' s'.heap)(g:Lj s'.gens)(d:∀b∈ch,(b∈X.ex∨X.s₀.heap.objs.size<=b)/\b≠X.env.locals/\(∀x c,X.env.cells.lookup x=b3 c->c≠b)/\∀p∈X.pn++aa,p.1≠b):cM X aa σ H' s':=by obtain⟨h',g',d',t',o'⟩:=s';have e:o'=s.os:=f;subst e;exact I.call (g':=g') (t':=t') (d':=d') u a g d
end
abbrev XK:=Ua->Option Ub->Hp->Prop
abbrev St:=List (Option V)
abbrev VK:=V->Hp->Prop
abbrev TE:=St->Hp->VK->Prop
abbrev TT:=St->Hp->(Bool->Hp->Prop)->Prop
abbrev TA:=St->Hp->(List V->Hp->Prop)->Prop
structure M0 where
 nx:St->Hp->Prop
 rt:VK
 bk:St->Hp->Prop:=λ_ _=>False
 ct:St->Hp->Prop:=λ_ _=>False
abbrev TS:=M0->St->Hp->Prop
inductive EPi(X:Cx)(aa:List (Ub×Ul))(σ:St)(Q:VK)(u:Ua)(s':Ae):Prop
 |mk (v:_) (H':_) (h0:cM X aa σ H' s') (h1:b7 v u) (h2:Q v H'):EPi X aa σ Q u s'
def EP(X:Cx)(aa:List (Ub×Ul))(σ:St)(Q:VK)(u:Ua)(s':Ae):Prop:=EPi X aa σ Q u s'
def TP(X:Cx)(aa:List (Ub×Ul))(σ:St)(Q:Bool->Hp->Prop)(b:Bool)(s':Ae):Prop:=∃H',cM X aa σ H' s'/\Q b H'
inductive APi(X:Cx)(aa:List (Ub×Ul))(σ:St)(Q:List V->Hp->Prop)(us:List Ua)(s':Ae):Prop
 |mk (vs:_) (H':_) (h0:cM X aa σ H' s') (h1:bX vs us) (h2:Q vs H'):APi X aa σ Q us s'
def AP(X:Cx)(aa:List (Ub×Ul))(σ:St)(Q:List V->Hp->Prop)(a:List Ua)(s':Ae):Prop:=APi X aa σ Q a s'
def SP(X:Cx)(aa:List (Ub×Ul))(D:M0)(f:Flow)(s':Ae):Prop:=
 match f with
 |.next=>∃a H',cM X aa a H' s'/\D.nx a H'
 |.brk=>∃a H',cM X aa a H' s'/\D.bk a H'
 |.cont=>∃a H',cM X aa a H' s'/\D.ct a H'
 |.ret u=>∃v a H',cM X aa a H' s'/\b7 v u/\D.rt v H'
def PE(X:Cx)(e:Uh)(t:TE):Prop:=
 ∀(aa:List (Ub×Ul)) (s:Ae) (σ:St) (H:Hp) (Q:VK),cM X aa σ H s->t σ H Q->Ud (Uf X.prog X.w) X.A (eval e X.env) (EP X aa σ Q) X.xe s
def PT(X:Cx)(e:Uh)(t:TT):Prop:=
 ∀(aa:List (Ub×Ul)) (s:Ae) (σ:St) (H:Hp) (Q:Bool->Hp->Prop),cM X aa σ H s->t σ H Q->Ud (Uf X.prog X.w) X.A (isTrue e X.env (eval e X.env)) (TP X aa σ Q) X.xe s
def PW(X:Cx)(e:Uh)(t:TT):Prop:=
 ∀(a:Ut Ua) (aa:List (Ub×Ul)) (s:Ae) (σ:St) (H:Hp) (Q:Bool->Hp->Prop),cM X aa σ H s->t σ H Q->Ud (Uf X.prog X.w) X.A (isTrue e X.env a) (TP X aa σ Q) X.xe s
def PW.pt{X:Cx}{e:Uh}{t:TT}(h:PW X e t):PT X e t:=h _
def PA(X:Cx)(es:List Uh)(t:TA):Prop:=
 ∀(pos:Pos) (aa:List (Ub×Ul)) (s:Ae) (σ:St) (H:Hp) (Q:List V->Hp->Prop),cM X aa σ H s->t σ H Q->Ud (Uf X.prog X.w) X.A (spliced (Fa pos (Uc es X.env))) (AP X aa σ Q) X.xe s
def PS(X:Cx)(st:Um)(t:TS):Prop:=
 ∀(aa:List (Ub×Ul)) (s:Ae) (σ:St) (H:Hp) (D:M0),cM X aa σ H s->t D σ H->Ud (Uf X.prog X.w) X.A (exec st X.env) (SP X aa D) X.xe s
def WU(X:Cx)(st:List Um)(t:TS):Prop:=
 ∀(aa:List (Ub×Ul)) (s:Ae) (σ:St) (H:Hp) (D:M0),cM X aa σ H s->t D σ H->Ud (Uf X.prog X.w) X.A (execs st X.env) (SP X aa D) X.xe s
def ZT{α:Type}{t:Ut α}{Q b:α->Ae->Prop}{M:Uu}{A:Cb}{E:Ua->Ae->Prop}{s:Ae}(h:Ud M A t Q E s)(c:∀a s,Q a s->b a s):Ud M A t b E s:=Cd h c λ_ _ x=>x
section
variable{X:Cx}
def WH(i:Nat):TE:=λσ H Q=>∃v,σ[i]?=b3 (b3 v)/\Q v H
def tC(v:V):TE:=λ_ H Q=>Q v H
def FU{i:Nat}{x:Ue}{pos:Pos}(k:X.N[i]?=b3 x)(f:Vis X.env.scope x)(hd:(x==("__debug__":Ue))=bb:=by decide)(b:(x==("__classdict__":Ue))=bb:=by decide):PE X (.Name x pos) (WH i):=by
 intro aa s σ H Q I h;obtain⟨v,e,h⟩:=h;obtain⟨m,g,hl⟩:=I.loc;obtain⟨u,r,l⟩:=hl i x v k e f;have a:EP X aa σ Q u s:=⟨v,H,I,r,h⟩;rcases l with⟨hk,j⟩|⟨hk,c,hc,d⟩
 ·exact Sf (wpAny_loadName_local I.ok.kind hk g j a) hd
 ·rcases hk with hk|hk
  ·exact Sf (wpAny_loadName_cell I.ok.kind hk hc d a) hd
  ·exact Sf (wpAny_loadName_free I.ok.kind hk hc d a b) hd
def X4{i j pos}:PE X (.Constant (.int i) j pos) (tC (.int i)):=λ_ _ _ H _ I h=>wpAny_Constant_int ⟨.int i,H,I.tok _,⟨_,rfl⟩,h⟩
def qk{b j pos}:PE X (.Constant (.bool b) j pos) (tC (.bl b)):=λ_ _ _ H _ I h=>Constant_bool ⟨.bl b,H,I,rfl,h⟩
def fH{j pos}:PE X (.Constant .none j pos) (tC .non):=λ_ _ _ H _ I h=>Constant_none ⟨.non,H,I,rfl,h⟩
def Wn{x j pos}:PE X (.Constant (.str x) j pos) (tC (.str x)):=λ_ _ _ H _ I h=>Calls.Constant_str ⟨.str x,H,I.tok _,⟨_,rfl⟩,h⟩
def Gl(X:Cx)(x:Ue):Prop:=X.env.kindOf x=b3 .globalImplicit
def T2{E:Ua->Ae->Prop}{aa:List (Ub×Ul)}{s:Ae}{σ:St}{H:Hp}{x:Ue}{u:Ua}{pos:Pos}{Q:Ua->Ae->Prop}(I:cM X aa σ H s)(b:Gl X x)(a:X.mg x=b3 u)(h:Q u s)(hd:(x==("__debug__":Ue))=bb:=by decide):Ud (Uf X.prog X.w) X.A (eval (.Name x pos) X.env) Q E s:=
 Kg I.ok.kind b (Calls.loadGlobal_global (by rw[I.ok.glob];exact I.mod.glob.keeps I.bk) a h) hd
def SJ{E:Ua->Ae->Prop}{aa:List (Ub×Ul)}{s:Ae}{σ:St}{H:Hp}{x:Ue}{u:Ua}{pos:Pos}{Q:Ua->Ae->Prop}(I:cM X aa σ H s)(d:Gl X x)(c:X.mg x=b4)(a:Bm x=b3 u)(h:Q u s)(b:x≠ "__name__":=by decide)(hd:(x==("__debug__":Ue))=bb:=by decide):Ud (Uf X.prog X.w) X.A (eval (.Name x pos) X.env) Q E s:=by obtain⟨e,h1,h2⟩:=I.mod.blt;exact Kg I.ok.kind d (Calls.loadGlobal_builtin (by rw[I.ok.glob];exact I.mod.glob.keeps I.bk) c (by rw[I.ok.blt];exact h1.keeps I.bk) ((h2 x b).trans a) h) hd
def oC{x:Ue}{v:V}{u:Ua}{pos:Pos}(b:Gl X x)(a:X.mg x=b3 u)(r:b7 v u)(hd:(x==("__debug__":Ue))=bb:=by decide):PE X (.Name x pos) (tC v):=
 λ_ _ _ H _ I h=>T2 I b a ⟨v,H,I,r,h⟩ hd
def iE{x:Ue}{v:V}{u:Ua}{pos:Pos}(d:Gl X x)(c:X.mg x=b4)(a:Bm x=b3 u)(r:b7 v u)(b:x≠ "__name__":=by decide)(hd:(x==("__debug__":Ue))=bb:=by decide):PE X (.Name x pos) (tC v):=
 λ_ _ _ H _ I h=>SJ I d c a ⟨v,H,I,r,h⟩ b hd
variable{a b:Uh}{ta tb:TE}{pos:Pos}
def tB(t:TE):TT:=λσ H Q=>t σ H λx H1=>∃c,x=.bl c/\Q c H1
def Yu{e:Uh}{t:TE}(h:PE X e t)(c:∀a,isTrue e X.env a=(do let v<-a;Sq e.pos;Kt [v] (truthy v)):=by intro _;rfl):PT X e (tB t):=by intro aa s σ H Q I hw;refine isTrue_plain (ZT (h aa s σ H _ I hw) λv s1 ⟨x,H1,f,b,q1⟩=>?_) (c _);obtain⟨d,rfl,q⟩:=q1;cases b;exact Fi ⟨H1,f,q⟩
variable{tA tB':TT}{rest:List Uh}
def tAnd(t u:TT):TT:=λσ H Q=>t σ H λc H1=>if c=ba then u σ H1 Q else Q bb H1
def tOr(t u:TT):TT:=λσ H Q=>t σ H λc H1=>if c=ba then Q ba H1 else u σ H1 Q
def tNot(t:TT):TT:=λσ H Q=>t σ H λc H1=>Q (!c) H1
def nS(b:PT X a tA):PW X (.BoolOp .And [a] pos) tA:=by
 intro d aa s σ H Q I h;refine isTrue_and (ZT (b aa s σ H Q I h) λc s1 e=>?_);cases c with
 |true=>exact isTrue_and_nil e
 |false=>exact e
def qD(b:PT X a tA):PW X (.BoolOp .Or [a] pos) tA:=by
 intro d aa s σ H Q I h;refine isTrue_or (ZT (b aa s σ H Q I h) λc s1 e=>?_);cases c with
 |false=>exact isTrue_or_nil e
 |true=>exact e
def iU(g:PT X a tA)(f:PW X (.BoolOp .And (b::rest) pos) tB'):PW X (.BoolOp .And (a::b::rest) pos) (tAnd tA tB'):=by
 intro e aa s σ H Q I h;refine isTrue_and (ZT (g aa s σ H _ I h) λc s1 ⟨H1,d,q1⟩=>?_);cases c with
 |true=>exact f e aa s1 σ H1 Q d q1
 |false=>exact⟨H1,d,q1⟩
def kM(g:PT X a tA)(f:PW X (.BoolOp .Or (b::rest) pos) tB'):PW X (.BoolOp .Or (a::b::rest) pos) (tOr tA tB'):=by
 intro e aa s σ H Q I h;refine isTrue_or (ZT (g aa s σ H _ I h) λc s1 ⟨H1,d,q1⟩=>?_);cases c with
 |true=>exact⟨H1,d,q1⟩
 |false=>exact f e aa s1 σ H1 Q d q1
def eC(b:PT X a tA):PT X (.UnaryOp .Not a pos) (tNot tA):=by intro aa s σ H Q I h;exact isTrue_not (b aa s σ H (λc H1=>Q (!c) H1) I h)
def lQ(ta tb:TE):TE:=λσ H Q=>ta σ H λx H1=>∃c,x=.bl c/\if c=ba then tb σ H1 Q else Q (.bl bb) H1
def nK{op}{t:TE}(h:PE X a t):PE X (.BoolOp op [a] pos) t:=λaa s σ H Q I hw=>BoolOp_one (h aa s σ H Q I hw)
def pE(g:PE X a ta)(f:PE X (.BoolOp .And (b::rest) pos) tb):PE X (.BoolOp .And (a::b::rest) pos) (lQ ta tb):=by
 intro aa s σ H Q I h;refine BoolOp_and (ZT (g aa s σ H _ I h) λv s1 ⟨x,H1,d,e,q1⟩=>?_);obtain⟨c,rfl,q1⟩:=q1;cases e;refine Fi ?_;cases c with
 |true=>exact f aa s1 σ H1 Q d q1
 |false=>exact⟨.bl bb,H1,d,rfl,q1⟩
def tIf(t:TT)(ta tb:TE):TE:=λσ H Q=>t σ H λc H1=>if c=ba then ta σ H1 Q else tb σ H1 Q
def HS{c:Uh}(hc:PT X c tA)(g:PE X a ta)(f:PE X b tb):PE X (.IfExp c a b pos) (tIf tA ta tb):=by
 intro aa s σ H Q I h;refine wpAny_IfExp (ZT (hc aa s σ H _ I h) λd s1 ⟨H1,e,q1⟩=>?_);cases d with
 |true=>exact g aa s1 σ H1 Q e q1
 |false=>exact f aa s1 σ H1 Q e q1
end
def X9(K:Ah)(H:Hp)(a:Ub)(xs:List V):Prop:=
 Rd H a (.lst xs)∨
  ∃(o:Ul) (its:Array Ua) (n:Nat),K.lookup a=b3 o/\o.cls=.type "list" /\o.dict=b4/\o.data=.seq its n/\its.size<=sizeLine/\bX xs its.toList
def WS(K:Ah)(H:Hp)(a:Ub)(xs:List V):Prop:=
 Rd H a (.tup xs)∨
  ∃(o:Ul) (its:Array Ua) (n:Nat),K.lookup a=b3 o/\o.cls=.type "tuple" /\o.data=.seq its n/\its.size<=sizeLine/\bX xs its.toList
noncomputable def absV:Ua->Option V
 |.none=>b3 .non
 |.bool b=>b3 (.bl b)
 |.int i _=>b3 (.int i)
 |.str x _=>b3 (.str x)
 |.bytes b _=>b3 (.byt b)
 |.float b _=>b3 (.flt b)
 |.ref a=>b3 (.ref a)
 |.type n=>b3 (.ty n)
 |_=>b4
def b7.abs{x:V}{u:Ua}(r:b7 x u):absV u=b3 x:=by
 cases x with
 |non=>cases r;rfl
 |bl _=>cases r;rfl
 |int _=>obtain⟨t,rfl⟩:=r;rfl
 |str _=>obtain⟨t,rfl⟩:=r;rfl
 |byt _=>obtain⟨t,rfl⟩:=r;rfl
 |flt _=>obtain⟨t,rfl⟩:=r;rfl
 |ref _=>cases r;rfl
 |ty _=>cases r;rfl
def b7.inj{x y:V}{u:Ua}(r:b7 x u)(q:b7 y u):x=y:=Cg (r.abs.symm.trans q.abs)
theorem bX.inj:∀{xs ys:List V}{a:List Ua},bX xs a->bX ys a->xs=ys
 |_,_,_,.nil,.nil=>rfl
 |_,_,_,.cons r t,.cons r' t'=>by rw[r.inj r',bX.inj t t']
section
variable{X:Cx}{aa:List (Ub×Ul)}{σ:St}{H:Hp}{s:Ae}{a:Ub}{xs ys:List V}
def X9.of{K:Ah}(h:H a=b3 (.lst xs)):X9 K H a xs:=.inl (.inl (.inl h))
def WS.of{K:Ah}(h:H a=b3 (.tup xs)):WS K H a xs:=.inl (.inl (.inl h))
def cM.list(I:cM X aa σ H s)(h:X9 X.K H a xs):∃its:List Ua,bX xs its/\PlainL s.heap a its.toArray/\xs.length<=sizeLine:=by
 rcases h with h|⟨o,its,n,hk,hc,hd,b,hz,r⟩
 ·obtain⟨z,its,n,r,e⟩:=h.ok I.hok
  exact⟨its,r,⟨_,n,e,rfl,rfl,rfl⟩,z⟩
 ·refine ⟨its.toList,r,⟨o,n,I.kIn a o hk,hc,hd,by simpa using b⟩,?_⟩
  have e:=r.length;simp only[Gf]at e;lia
def cM.tuple(I:cM X aa σ H s)(h:WS X.K H a xs):∃its:List Ua,bX xs its/\IsTup s.heap a its.toArray/\xs.length<=sizeLine:=by
 rcases h with h|⟨o,its,n,hk,hc,b,hz,r⟩
 ·obtain⟨z,its,r,p⟩:=h.ok I.hok
  exact⟨its,r,p,z⟩
 ·refine ⟨its.toList,r,⟨o,I.kIn a o hk,hc,n,by simpa using b⟩,?_⟩
  have e:=r.length;simp only[Gf]at e;lia
def cM.list_inj(I:cM X aa σ H s)(h:X9 X.K H a xs)(h':X9 X.K H a ys):xs=ys:=by
 obtain⟨its,r,⟨o,n,e,_,_,d⟩,_⟩:=I.list h;obtain⟨its',r',⟨o',n',b,_,_,d'⟩,_⟩:=I.list h';rw[e]at b;cases b;rw[d]at d';injection d' with c _;have:its=its':=by simpa using congrArg Tj c
 subst this;exact r.inj r'
def cM.tuple_inj(I:cM X aa σ H s)(h:WS X.K H a xs)(h':WS X.K H a ys):xs=ys:=by
 obtain⟨its,r,⟨o,e,_,n,d⟩,_⟩:=I.tuple h;obtain⟨its',r',⟨o',b,_,n',d'⟩,_⟩:=I.tuple h';rw[e]at b;cases b;rw[d]at d';injection d' with c _;have:its=its':=by simpa using congrArg Tj c
 subst this;exact r.inj r'
end
abbrev Cx.wish(X:Cx)(E:Ua->Ae->Prop):Cx:={X with xe:=E}
abbrev Cx.nox(X:Cx):Cx:=X.wish λ_ _=>False
def Cx.Ok.wish{X:Cx}(ok:X.Ok)(E:Ua->Ae->Prop):(X.wish E).Ok:=
 ⟨ok.mod,ok.kind,ok.glob,ok.blt,ok.above,ok.inj,ok.has,ok.cab,ok.hd,ok.frames,ok.stk,ok.exf,ok.bs,ok.bsz,ok.noex,ok.exfs,ok.funs,ok.frf⟩
def Cx.Ok.unwish{X:Cx}{E:Ua->Ae->Prop}(ok:(X.wish E).Ok):X.Ok:=
 ⟨ok.mod,ok.kind,ok.glob,ok.blt,ok.above,ok.inj,ok.has,ok.cab,ok.hd,ok.frames,ok.stk,ok.exf,ok.bs,ok.bsz,ok.noex,ok.exfs,ok.funs,ok.frf⟩
section
variable{X:Cx}{aa:List (Ub×Ul)}{σ:St}{H:Hp}{s:Ae}{E:Ua->Ae->Prop}
def cM.wish(I:cM X aa σ H s)(E:Ua->Ae->Prop):cM (X.wish E) aa σ H s:=⟨I.ok.wish E,I.os,I.bare,I.base,I.loc,I.cell,I.free,I.freeC,I.pin,I.hok,I.len⟩
def cM.unwish(I:cM (X.wish E) aa σ H s):cM X aa σ H s:=⟨I.ok.unwish,I.os,I.bare,I.base,I.loc,I.cell,I.free,I.freeC,I.pin,I.hok,I.len⟩
def SP.unwish{D:M0}{f:Flow}{s':Ae}(h:SP (X.wish E) aa D f s'):SP X aa D f s':=by
 cases f with
 |next=>obtain⟨a,H',I,q⟩:=h;exact⟨a,H',I.unwish,q⟩
 |brk=>obtain⟨a,H',I,q⟩:=h;exact⟨a,H',I.unwish,q⟩
 |cont=>obtain⟨a,H',I,q⟩:=h;exact⟨a,H',I.unwish,q⟩
 |ret u=>obtain⟨v,a,H',I,r,q⟩:=h;exact⟨v,a,H',I.unwish,r,q⟩
def WU.nox{st:List Um}{t:TS}(h:WU X.nox st t):WU X st t:=λaa s σ H D I hw=>
 Cd (h aa s σ H D (I.wish _) hw) (λ_ _ q=>q.unwish) λ_ _ z=>Gv z
end
section
variable{X:Cx}{st:Um}{rest:List Um}{t u:TS}{e:Uh}{te:TE}{pos:Pos}
def dR:TS:=λD σ H=>D.nx σ H
def tSeq(t u:TS):TS:=λD σ H=>t {D with nx:=u D} σ H
def D2:WU X [] dR:=λ_ _ σ H _ I h=>Jn ⟨σ,H,I,h⟩
def RD(h1:PS X st t)(h2:WU X rest u):WU X (st::rest) (tSeq t u):=by
 intro aa s σ H D I h;refine wpAny_execs_cons (ZT (h1 aa s σ H {D with nx:=u D} I h) λf s1 q=>?_);cases f with
 |next=>
  obtain⟨a,H',b,q⟩:=q;exact h2 aa s1 a H' D b q
 |ret v=>exact q
 |brk=>exact q
 |cont=>exact q
def cM.quiet{aa:List (Ub×Ul)}{σ:St}{H:Hp}{s:Ae}(I:cM X aa σ H s):interactive X.env=bb:=by simp[interactive,I.ok.kind]
def nV(te:TE):TS:=λD σ H=>te σ H λ_ H1=>D.nx σ H1
def D1(b:PE X e te)(a:Hk e b4 pos.line X.env=pure bb:=by rfl):PS X (.Expr e pos) (nV te):=by intro aa s σ H D I h;exact wpAny_Expr_any (ZT (b aa s σ H _ I h) λv s1 ⟨x,H1,c,d,q1⟩=>⟨σ,H1,c,q1⟩) I.quiet a
def tRet(te:TE):TS:=λD σ H=>te σ H D.rt
def FY(b:PE X e te):PS X (.Return (b3 e) pos) (tRet te):=by intro aa s σ H D I h;exact wpAny_Return_some (ZT (b aa s σ H _ I h) λv s1 ⟨x,H1,c,a,q1⟩=>⟨x,σ,H1,c,a,q1⟩)
def tIfS(c:TT)(t u:TS):TS:=λD σ H=>c σ H λb H1=>if b=ba then t D σ H1 else u D σ H1
def Xe{c:Uh}{a b:List Um}{tc:TT}(hc:PT X c tc)(g:WU X a t)(f:WU X b u):PS X (.If c a b pos) (tIfS tc t u):=by
 intro aa s σ H D I h;refine wpAny_If (ZT (hc aa s σ H _ I h) λd s1 ⟨H1,e,q1⟩=>?_);cases d with
 |true=>exact g aa s1 σ H1 D e q1
 |false=>exact f aa s1 σ H1 D e q1
def eZ:TS:=λ_ _ _=>False
def B0{a:List Um}:WU X a eZ:=λ_ _ _ _ _ _ h=>h.elim
end
abbrev TG:=V->St->Hp->(St->Hp->Prop)->Prop
abbrev AH:=List V->St->Hp->(St->Hp->Prop)->Prop
def PG(X:Cx)(b:Uh)(t:TG):Prop:=
 ∀(aa:List (Ub×Ul)) (s:Ae) (σ:St) (H:Hp) (v:V) (u:Ua) (Q:St->Hp->Prop),cM X aa σ H s->b7 v u->t v σ H Q->
  Ud (Uf X.prog X.w) X.A (assign b X.env u) (λ_ s'=>∃a H',cM X aa a H' s'/\Q a H') X.xe s
def CZ(X:Cx)(c:List Uh)(t:AH):Prop:=
 ∀(aa:List (Ub×Ul)) (s:Ae) (σ:St) (H:Hp) (vs:List V) (b:List Ua) (Q:St->Hp->Prop),cM X aa σ H s->bX vs b->t vs σ H Q->
  Ud (Uf X.prog X.w) X.A (Us ((Ui c X.env).map (·.2)) b) (λ_ s'=>∃a H',cM X aa a H' s'/\Q a H') X.xe s
abbrev TSet:=V->V->V->Hp->(Hp->Prop)->Prop
def PSet(X:Cx)(t:TSet):Prop:=
 ∀(aa:List (Ub×Ul)) (s:Ae) (σ:St) (H:Hp) (o i v:V) (a b u:Ua) (Q:Hp->Prop),cM X aa σ H s->b7 o a->b7 i b->b7 v u->t o i v H Q->
  Ud (Uf X.prog X.w) X.A (Pa a b u) (λ_ s'=>∃H',cM X aa σ H' s'/\Q H') X.xe s
section
variable{X:Cx}{pos:Pos}
def DB(i:Nat):TG:=λv σ H Q=>Q (σ.set i (b3 v)) H
def RA{i:Nat}{x:Ue}(c:X.N.Nodup)(hi:X.N[i]?=b3 x)(a:AB X.env.scope x)(b:X.fn x=ba∨X.env.scope.names.lookup x=b3 .local:=by first|exact .inl rfl|exact .inr rfl|assumption):PG X (.Name x pos) (DB i):=by intro aa s σ H v u Q I r h;exact Hx (Y4 I c hi a r (λs' d=>⟨_,H,d,h⟩) b)
def gNil:AH:=λvs σ H Q=>vs=[]/\Q σ H
def gP(t:TG)(u:AH):AH:=λvs σ H Q=>∃v r,vs=v::r/\t v σ H λa H'=>u r a H' Q
def J7:CZ X [] gNil:=by intro aa s σ H vs a Q I r h;obtain⟨e,h⟩:=h;subst e;cases r;exact Hy ⟨σ,H,I,h⟩
def WD{e:Uh}{es:List Uh}{t:TG}{u:AH}(h1:PG X e t)(h2:CZ X es u)(c:(Ui (e::es) X.env).map (·.2)=assign e X.env::(Ui es X.env).map (·.2):=by rfl):CZ X (e::es) (gP t u):=by
 intro aa s σ H vs i Q I r h;obtain⟨v,g,d,h⟩:=h;subst d;cases r with
 |cons r b=>
  rw[c];refine Ej (ZT (h1 aa s σ H _ _ _ I r h) λ_ s1 ⟨a,H1,f,q1⟩=>?_);exact h2 aa s1 a H1 _ _ Q f b q1
def gTup(K:Ah)(n:Nat)(t:AH):TG:=λv σ H Q=>∃a xs,v=.ref a/\WS K H a xs/\xs.length=n/\t xs σ H Q
def Yi{es:List Uh}{k:Nat}{t:AH}{n:Nat}(hc:X.calm=ba)(h:CZ X es t)(j:(Ui es X.env).length=n:=by rfl)(c:(Ui es X.env).findIdx? (·.1)=b4:=by rfl):PG X (.Tuple es k pos) (gTup X.K n t):=by intro aa s σ H v u Q I r hw;obtain⟨a,xs,l,i,hl,hw⟩:=hw;subst l;cases r;obtain⟨its,d,g,hz⟩:=I.tuple i;refine assign_Tuple_tuple (I.ok.hd hc) g (by simp[j,<-hl,d.length]) c λh' f=>?_;have m:cM X aa σ H {s with heap:=h'}:=I.kept (t':=s.toks) λb o e=>f b o (Bb (Ap e)) e;exact h aa _ σ H xs _ Q m (by simpa using d) hw
def gSub(to a:TE)(t:TSet):TG:=λv σ H Q=>to σ H λo H1=>a σ H1 λi H2=>t o i v H2 λb=>Q σ b
def We{o i:Uh}{to c:TE}{t:TSet}(j:PE X o to)(hi:PE X i c)(g:PSet X t)(k:∀v,assign (.Subscript o i pos) X.env v=(do
   let a<-Kt [v] (eval o X.env)
   let b<-Kt [v,a] (eval i X.env)
   Sq pos
   Kt [v,a,b] (Pa a b v)
   release [v,a,b] []):=by intro _;rfl):PG X (.Subscript o i pos) (gSub to c t):=by
 intro aa s σ H v u Q I r h;rw[k];refine Ac (Br (ZT (j aa s σ H _ I h) λa s1 ⟨x,H1,n,f,q1⟩=>?_));refine Ac (Br (ZT (hi aa s1 σ H1 _ n q1) λb d ⟨y,H2,m,e,q2⟩=>?_));refine Ac (Gg (Ac (Br (ZT (g aa d σ H2 x y v a b u _ m f e r q2) λ_ q ⟨p,l,q3⟩=>?_))));exact wpAny_release ⟨σ,p,l,q3⟩
def tAsg(te:TE)(g:TG):TS:=λD σ H=>te σ H λx H1=>g x σ H1 D.nx
def QI{tg e:Uh}{te:TE}{g:TG}(d:PE X e te)(c:PG X tg g)(b:Ex [tg] e pos.line X.env=pure bb:=by rfl)(hw:Ey [tg] e X.env=pure b4:=by rfl)(h1:(Ui [tg] X.env).map (·.2)=[assign tg X.env]:=by rfl):PS X (.Assign [tg] e pos) (tAsg te g):=by intro aa s σ H D I h;refine wpAny_Assign_stores (ZT (d aa s σ H _ I h) λv s1 ⟨x,H1,f,a,q1⟩=>?_) b hw;rw[h1];exact ZT (c aa s1 σ H1 x v _ f a q1) λ_ i q=>q
def fJ{i:Nat}{x:Ue}{e:Uh}{te:TE}{ai:Pos}(g:X.N.Nodup)(hi:X.N[i]?=b3 x)(b:AB X.env.scope x)(f:PE X e te)(c:Hk e (b3 (.Name x ai)) pos.line X.env=pure bb:=by rfl)(d:X.fn x=ba∨X.env.scope.names.lookup x=b3 .local:=by first|exact .inl rfl|exact .inr rfl|assumption):PS X (.Assign [.Name x ai] e pos) (tAsg te (DB i)):=by intro aa s σ H D I h;refine wpAny_Assign_Name (ZT (f aa s σ H _ I h) λv s1 ⟨y,H1,k,a,q1⟩=>?_) c;exact Y4 k g hi b a (λl j=>⟨_,H1,j,q1⟩) d
def tPar(i j:Nat)(ta:TA):TS:=λD σ H=>ta σ H λvs H1=>∃v w,vs=[v,w]/\D.nx ((σ.set i (b3 v)).set j (b3 w)) H1
def eI{i j:Nat}{x y:Ue}{a b:Uh}{ta:TA}{k g pt:Pos}{kt k2 pt2}(hc:X.calm=ba)(t:X.N.Nodup)(hi:X.N[i]?=b3 x)(G:X.N[j]?=b3 y)(m:i≠j)(r:X.env.scope.names.lookup x=b3 .local)(n:X.env.scope.names.lookup y=b3 .local)(J:PA X [a,b] ta)(hw:Ey [.Tuple [.Name x k,.Name y g] kt pt] (.Tuple [a,b] k2 pt2) X.env=pure (b3 [x,y]))(F:Ex [.Tuple [.Name x k,.Name y g] kt pt] (.Tuple [a,b] k2 pt2) pos.line X.env=pure bb:=by rfl):PS X (.Assign [.Tuple [.Name x k,.Name y g] kt pt] (.Tuple [a,b] k2 pt2) pos) (tPar i j ta):=by
 intro aa s σ H D I h;rw[exec_Assign_arm];refine Ac (Gg ?_);rw[F];refine Ac (Ai ?_);rw[if_neg (by decide)];refine Ac (Tuple_ (ZT (J _ aa s σ H _ I h) λz s1 ⟨vs,H1,P,C,q1⟩=>?_));obtain⟨v,w,K,q1⟩:=q1;subst K;obtain⟨d,c,rfl,B,f⟩:∃d c,z=[d,c]/\b7 v d/\b7 w c:=by
  cases C with
  |cons p q=>
   cases q with
   |cons p' E=>
    cases E;exact⟨_,_,rfl,p,p'⟩
 refine Dq ?_ (by show 2<=sizeLine;decide);have O:cM X aa σ H1 {s1 with heap:=s1.heap.push {cls:=.type "tuple",data:=.seq [d,c].toArray}}:=P.kept (t':=s1.toks) λb o e=>Ad _ e;rw[hw];refine Ac (Ai ?_);show Ud (Uf X.prog X.w) X.A (do rule "assign.swapped-stores";let items<-Jo (.ref s1.heap.objs.size) 2 b4;Us [λv=>Ik X.env y v,λv=>Ik X.env x v] items.reverse;pure Flow.next) _ _ _;refine Ac (Hz (Ac (Pb (items:= #[d,c]) (I.ok.hd hc) (Jp s1.heap _) λh' l=>?_)));have M:=O.kept (h':=h') (t':=s1.toks) λb o e=>l b o (Bb (Ap e)) e;show Ud _ _ (Us [λv=>Ik X.env y v,λv=>Ik X.env x v] [c,d]>>=λ_=>pure Flow.next) _ _ _;refine Ac (Ej (Il (Y4 M t G (.inl n) f (λR L=>?_) (.inr n))));refine Ej (Il (Y4 L t hi (.inl r) B (λQ u=>Hy (Ai ?_)) (.inr r)));rw[Ez _ _ (Di m)]at u;exact⟨_,H1,u,q1⟩
end
section
variable{X:Cx}{pos:Pos}
def qp(c:TT)(tb:TS):TS:=λD σ H=>∃W:Nat->St->Hp->Prop,(∃m,W m σ H)/\∀m σ H,W m σ H->
 c σ H λb H1=>if b=ba then∃N:St->Hp->Prop,(∀a H',N a H'->∃d,d<m/\W d a H')/\tb {D with nx:=N,ct:=N,bk:=D.nx} σ H1 else D.nx σ H1
def oN{c:Uh}{body:List Um}{tc:TT}{tb:TS}(o:Rc (Uf X.prog X.w) X.A X.env X.xe)(hc:PT X c tc)(y:WU X body tb):PS X (.While c body [] pos) (qp tc tb):=by
 intro aa s σ H D I h;obtain⟨W,⟨x,t⟩,turn⟩:=h;refine wpAny_While (codeAny_whileLoop (λn s'=>∃e H',cM X aa e H' s'/\W n e H') ?_ x ⟨σ,H,I,t⟩);rintro n s1 ⟨d,H1,z,r⟩;refine Gb o (ZT (hc aa s1 d H1 _ z (turn n d H1 r)) λb u ⟨H2,q,q2⟩=>?_);cases b with
 |true=>
  obtain⟨N,p,q2⟩:=q2;rw[if_pos rfl];refine Gb o (ZT (y aa u d H2 _ q q2) λf B q3=>?_);cases f with
  |next=>
   obtain⟨a,g,m,j⟩:=q3;obtain⟨k,l,i⟩:=p a g j;exact⟨k,l,a,g,m,i⟩
  |cont=>
   obtain⟨a,g,m,j⟩:=q3;obtain⟨k,l,i⟩:=p a g j;exact⟨k,l,a,g,m,i⟩
  |brk=>exact q3
  |ret v=>exact q3
 |false=>
  rw[if_neg Ek];exact Jn ⟨d,H2,q,q2⟩
end
structure It where
 go:Nat->Hp->Prop
 yld:Nat->Hp->V->Hp->Prop
 stop:Nat->Hp->Prop
def ML(X:Cx)(aa:List (Ub×Ul))(H:Hp)(b:Ub):Prop:=
 H b=b4/\b≠X.env.locals/\b∉X.fs/\(b∈X.ex∨X.s₀.heap.objs.size<=b)/\(∀x c,X.env.cells.lookup x=b3 c->c≠b)/\∀p∈X.pn++aa,p.1≠b
def cM.fpOk{X:Cx}{aa:List (Ub×Ul)}{σ:St}{H H':Hp}{s:Ae}{b:Ub}(I:cM X aa σ H s)(a:s.heap.objs.size<=b)(f:H' b=b4):ML X aa H' b:=by
 refine⟨f,Hg (Az I.lt a),I.nofs a,.inr (Fo I.sz a),λx c e z=>?_,λp d z=>?_⟩
 ·obtain⟨v,q⟩:=I.cell x c e
  exact absurd (Az q.lt (by rw[z];exact a)) (Ck _)
 ·exact absurd (Az (Ap (I.pin p d).1) (by rw[z];exact a)) (Ck _)
structure E2(P:Aw)(w:Uj)(K:Ah)(tg:Uh)(J:It)(fp:List Ub)(it:Ub)(tn:Nat->Uk->Prop):Prop where
 mem:it∈fp
 obj:∀i h,tn i h->∀b∈fp,∃o,h.get? b=b3 o/\∀v,o.data≠ .cell v
 keep:∀i h h',tn i h->(∀b∈fp,∀o,h.get? b=b3 o->h'.get? b=b3 o)->tn i h'
 item:∀(X:Cx),X.prog=P->X.w=w->X.K=K->X.calm=ba->∀(i:Nat) (aa:List (Ub×Ul)) (s:Ae) (σ:St) (H:Hp) (E:Ua->Ae->Prop),cM X aa σ H s->(∀b∈fp,ML X aa H b)->tn i s.heap->J.go i H->
  Ud (Uf P w) X.A (pyNext (.ref it)) (λr s1=>∃u,r=b3 u∧
   Ud (Uf P w) X.A (Jq tg (.ref it) u) (λ_ s2=>∃x H',cM X aa σ H' s2/\b7 x u/\J.yld i H x H'/\tn (i+1) s2.heap/\∀b∈fp,H' b=b4) E s1) E s
 done:∀(X:Cx),X.prog=P->X.w=w->X.K=K->X.calm=ba->∀(i:Nat) (aa:List (Ub×Ul)) (s:Ae) (σ:St) (H:Hp) (E:Ua->Ae->Prop),cM X aa σ H s->(∀b∈fp,ML X aa H b)->tn i s.heap->J.stop i H->
  Ud (Uf P w) X.A (pyNext (.ref it)) (λr s1=>r=b4/\cM X aa σ H s1) E s
 self:∀(A:Cb) (i:Nat) (s:Ae) (Q:Ua->Ae->Prop) (E:Ua->Ae->Prop),tn i s.heap->Q (.ref it) s->Ud (Uf P w) A (pyIter (.ref it)) Q E s
abbrev TI:=St->Hp->(It->Hp->Prop)->Prop
def PIE(X:Cx)(aa:List (Ub×Ul))(σ:St)(tg:Uh)(R:It->Hp->Prop)(a:Ua)(d:Ae):Prop:=
 ∃(it:Ub) (fp:List Ub) (c:Nat->Uk->Prop) (J:It) (H':Hp),a=.ref it/\cM X aa σ H' d/\E2 X.prog X.w X.K tg J fp it c/\c 0 d.heap/\(∀b∈fp,ML X aa H' b)/\R J H'
def PI(X:Cx)(tg iter:Uh)(a:TI):Prop:=
 ∀(aa:List (Ub×Ul)) (s:Ae) (σ:St) (H:Hp) (R:It->Hp->Prop),cM X aa σ H s->a σ H R->
  Ud (Uf X.prog X.w) X.A (eval iter X.env) (λv s1=>Ud (Uf X.prog X.w) X.A (pyIter v) (PIE X aa σ tg R) X.xe s1) X.xe s
def Vh{M:Uu}{A:Cb}{E:Ua->Ae->Prop}{s:Ae}{tg:Uh}{it:Ub}{u:Ua}{o:Ul}{n:String}{vs:Array Ua}{Q:Unit->Ae->Prop}(b:s.heap.get? it=b3 o)(hc:o.cls= .type n)(hd:o.data= .fields vs)(c:["enumerate","zip","dict_itemiterator","dict_reverseitemiterator","odict_iterator","itertools.zip_longest","itertools.pairwise"].contains n=bb)(a:Q () s):Ud M A (Jq tg (.ref it) u) Q E s:=by
  unfold Jq;cases tg<;>first
    |exact Ai a
    |(cases u<;>first
        |exact Ai a
        | (refine Ac (wpAny_load b ?_)
           rw[hc,hd];show Ud M A (if(["enumerate","zip","dict_itemiterator","dict_reverseitemiterator","odict_iterator","itertools.zip_longest","itertools.pairwise"].contains n&&vs[0]? ==b3 (rawInt _))=ba then _ else _) Q E s;rw[if_neg (by intro h;rw[c,Bool.false_and]at h;cases h)];exact Ai a))
def Itl(K:Ah)(a:Ub):It:=
 ⟨λi H=>∃xs x,X9 K H a xs/\xs[i]?=b3 x,λi H x H'=>H'=H/\∀xs,X9 K H a xs->xs[i]?=b3 x,λi H=>∃xs,X9 K H a xs/\xs.length<=i⟩
def Itt(K:Ah)(a:Ub):It:=
 ⟨λi H=>∃xs x,WS K H a xs/\xs[i]?=b3 x,λi H x H'=>H'=H/\∀xs,WS K H a xs->xs[i]?=b3 x,λi H=>∃xs,WS K H a xs/\xs.length<=i⟩
def Itr(lo:Int)(n:Nat):It:=⟨λi _=>i<n,λi H x H'=>H'=H/\x=.int (lo+i),λi _=>n<=i⟩
def CL{P:Aw}{w:Uj}{K:Ah}{tg:Uh}(a it:Ub):E2 P w K tg (Itl K a) [it] it (λi h=>h.IsListIter it a i) where
 mem:=by simp
 obj:=λi h st b f=>by
  have e:b=it:=by simpa using f
  subst e;obtain⟨o,e,c,d⟩:=st;exact⟨o,e,λv z=>by rw[d]at z;cases z⟩
 keep:=λi h h' st k=>st.at λo e=>k it (by simp) o e
 item:=by intro X r hw t hc i aa s σ H E I l st q;subst r hw t;obtain⟨xs,x,j,n⟩:=q;obtain⟨its,m,p,hz⟩:=I.list j;obtain⟨u,G,D⟩:=m.get n;obtain⟨B,f1,f2,f3,A,y⟩:=l it (by simp);refine Md st p.isList (x:=u) (by simpa using G) λh' g C=>?_;have L:cM X aa σ H {s with heap:=h'}:=I.turned (t':=s.toks) (λb o f e=>(C.2 b f).trans e) B f1 f3 A y;obtain⟨o,e,c,d⟩:=id g;exact⟨u,rfl,Vh (s:={s with heap:=h'}) e c d (by decide) ⟨x,H,L,D,⟨rfl,λys F=>by rw[I.list_inj F j];exact n⟩,g,λb f=>(l b f).1⟩⟩
 done:=by intro X r hw t hc i aa s σ H E I l st q;subst r hw t;obtain⟨xs,j,n⟩:=q;obtain⟨its,m,p,hz⟩:=I.list j;obtain⟨B,f1,f2,f3,A,y⟩:=l it (by simp);have hl:=m.length;exact Mk (I.ok.hd hc) st p.isList (by simp;lia) λh' J=>⟨rfl,I.turned (t':=s.toks) (λb o f e=>J b o f e) B f1 f3 A y⟩
 self:=λ_ _ _ _ _ st h=>wpAny_pyIter_listiter st h
def GD{P:Aw}{w:Uj}{K:Ah}{tg:Uh}(a it:Ub):E2 P w K tg (Itt K a) [it] it (λi h=>h.IsTupleIter it a i) where
 mem:=by simp
 obj:=λi h st b f=>by
  have e:b=it:=by simpa using f
  subst e;obtain⟨o,e,c,d⟩:=st;exact⟨o,e,λv z=>by rw[d]at z;cases z⟩
 keep:=λi h h' st k=>st.at λo e=>k it (by simp) o e
 item:=by intro X r hw t hc i aa s σ H E I l st q;subst r hw t;obtain⟨xs,x,j,n⟩:=q;obtain⟨its,m,p,hz⟩:=I.tuple j;obtain⟨u,G,D⟩:=m.get n;obtain⟨B,f1,f2,f3,A,y⟩:=l it (by simp);refine wpAny_pyNext_tuple_item st (show s.heap.IsTuple a its.toArray from p) (x:=u) (by simpa using G) λh' g C=>?_;have L:cM X aa σ H {s with heap:=h'}:=I.turned (t':=s.toks) (λb o f e=>(C.2 b f).trans e) B f1 f3 A y;obtain⟨o,e,c,d⟩:=id g;exact⟨u,rfl,Vh (s:={s with heap:=h'}) e c d (by decide) ⟨x,H,L,D,⟨rfl,λys F=>by rw[I.tuple_inj F j];exact n⟩,g,λb f=>(l b f).1⟩⟩
 done:=by intro X r hw t hc i aa s σ H E I l st q;subst r hw t;obtain⟨xs,j,n⟩:=q;obtain⟨its,m,p,hz⟩:=I.tuple j;obtain⟨B,f1,f2,f3,A,y⟩:=l it (by simp);have hl:=m.length;exact wpAny_pyNext_tuple_end (I.ok.hd hc) st (show s.heap.IsTuple a its.toArray from p) (by simp;lia) λh' J=>⟨rfl,I.turned (t':=s.toks) (λb o f e=>J b o f e) B f1 f3 A y⟩
 self:=λ_ _ _ _ _ st h=>wpAny_pyIter_tupleiter st h
def GC{P:Aw}{w:Uj}{K:Qa}{tg:Uh}(it:Ub)(lo:Int)(n:Nat):E2 P w K tg (Itr lo n) [it] it (λi h=>IsRangeIter h it (lo+(i:Nat)*1) ((n:Int)-(i:Nat)) 1) where
 mem:=by simp
 obj:=λi h st b a=>by
  have e:b=it:=by simpa using a
  subst e;exact⟨_,st,λv z=>by have z':Data.fields _=Data.cell v:=z;cases z'⟩
 keep:=λi h h' st k=>k it (by simp) _ st
 item:=by intro X g hw j hc i aa s σ H E I d st f;subst g hw j;obtain⟨p,f1,f2,f3,m,l⟩:=d it (by simp);have W:=Walks.range (prog:=X.prog) (w:=X.w) (I.ok.hd hc) it lo 1 n;refine W.item i s _ _ f st λv h' tk r c q=>?_;obtain⟨t,rfl⟩:=r;have x:cM X aa σ H {s with heap:=h',toks:=tk}:=I.turned (λb o a e=>q b o (by simpa using a) e) p f1 f3 m l;refine⟨_,rfl,Vh (s:={s with heap:=h',toks:=tk}) (n:= "range_iterator") c rfl rfl (by decide) ⟨.int (lo+i),H,x,⟨t,?_⟩,⟨rfl,rfl⟩,c,λb a=>(d b a).1⟩⟩;rw[Int.mul_one]
 done:=by intro X g hw j hc i aa s σ H E I d st f;subst g hw j;obtain⟨p,f1,f2,f3,m,l⟩:=d it (by simp);exact wpAny_pyNext_range_end (I.ok.hd hc) st (by have:n<=i:=f;lia) λh' u=>⟨rfl,I.turned (t':=s.toks) (λb o a e=>u b o a e) p f1 f3 m l⟩
 self:=λ_ _ _ _ _ st h=>wpAny_pyIter_rangeiter st h
section
variable{X:Cx}{tg:Uh}
def Vn(K:Ah)(tl:TE):TI:=λσ H R=>tl σ H λx H1=>∃a,x=.ref a/\(∃xs,X9 K H1 a xs)/\R (Itl K a) H1
def iTup(K:Ah)(tl:TE):TI:=λσ H R=>tl σ H λx H1=>∃a,x=.ref a/\(∃xs,WS K H1 a xs)/\R (Itt K a) H1
def iB{l:Uh}{tl:TE}(hl:PE X l tl):PI X tg l (Vn X.K tl):=by
 intro aa s σ H R I h;refine ZT (hl aa s σ H _ I h) λv s1 ⟨x,H1,c,d,q1⟩=>?_;obtain⟨a,e,⟨xs,f⟩,q⟩:=q1;subst e;cases d;obtain⟨its,i,p,hz⟩:=c.list f;refine Gw p.isList ?_;refine⟨s1.heap.objs.size,[s1.heap.objs.size],_,_,H1,rfl,c.kept (t':=s1.toks) λb o e=>Ad _ e,CL a _,⟨_,As _ rfl,rfl,rfl⟩,λb g=>?_,q⟩;have e:b=s1.heap.objs.size:=by simpa using g
 subst e;exact c.fpOk (Aq _) (c.hok.fresh (Aq _))
def mZ{l:Uh}{tl:TE}(hl:PE X l tl):PI X tg l (iTup X.K tl):=by
 intro aa s σ H R I h;refine ZT (hl aa s σ H _ I h) λv s1 ⟨x,H1,c,d,q1⟩=>?_;obtain⟨a,e,⟨xs,f⟩,q⟩:=q1;subst e;cases d;obtain⟨its,i,p,hz⟩:=c.tuple f;refine Hl (show s1.heap.IsTuple a its.toArray from p) ?_;refine⟨s1.heap.objs.size,[s1.heap.objs.size],_,_,H1,rfl,c.kept (t':=s1.toks) λb o e=>Ad _ e,GD a _,⟨_,As _ rfl,rfl,rfl⟩,λb g=>?_,q⟩;have e:b=s1.heap.objs.size:=by simpa using g
 subst e;exact c.fpOk (Aq _) (c.hok.fresh (Aq _))
def HY{aa:List (Ub×Ul)}{σ:St}{H:Hp}{s:Ae}{R:It->Hp->Prop}{E:Ua->Ae->Prop}{lo hi:Int}{t u v:Uv}{tk:Nat}(I:cM X aa σ H s)(h1: -(2 ^ 62)<=lo)(h2:lo<2 ^ 62)(f: -(2 ^ 62)<=hi)(d:hi<2 ^ 62)(q:R (Itr lo (hi-lo).toNat) H):Ud (Uf X.prog X.w) X.A (pyIter (.ref s.heap.objs.size)) (PIE X aa σ tg R) E {s with heap:=s.heap.push {cls:=.type "range",data:=.fields #[.int lo t,.int hi u,.int 1 v]},toks:=tk}:=by
 refine wpAny_pyIter_range (Tu ..) (small_one h1 h2 f d) ?_;have a:cM X aa σ H {s with heap:=s.heap.push {cls:=.type "range",data:=.fields #[.int lo t,.int hi u,.int 1 v]},toks:=tk}:=I.kept λb o e=>Ad _ e;refine⟨(s.heap.push {cls:=.type "range",data:=.fields #[.int lo t,.int hi u,.int 1 v]}).objs.size,[(s.heap.push {cls:=.type "range",data:=.fields #[.int lo t,.int hi u,.int 1 v]}).objs.size],_,_,H,rfl,a.kept (t':=tk) λb o e=>Ad _ e,GC _ lo (hi-lo).toNat,?_,λb c=>?_,q⟩
 ·have h : lo + ((0 : Nat) : Int) * 1 = lo := by simp
  have g:(((hi-lo).toNat:Nat):Int)-((0:Nat):Int)=Hm lo hi 1:=by rw[rangeSize_one];split<;>lia
  show IsRangeIter _ _ (lo+((0:Nat):Int)*1) ((((hi-lo).toNat:Nat):Int)-((0:Nat):Int)) 1;rw[h,g];exact As _ rfl
 ·have e : b = (s.heap.push { cls := .type "range",data := .fields #[.int lo t,.int hi u,.int 1 v] }).objs.size := by simpa using c
  subst e;exact a.fpOk (Aq _) (a.hok.fresh (Aq _))
def dI(ta:TA):TI:=λσ H R=>ta σ H λvs H1=>∃j:Int,vs=[.int j]/\ -(2 ^ 62)<=j/\j<2 ^ 62/\R (Itr 0 j.toNat) H1
def jN(ta:TA):TI:=λσ H R=>ta σ H λvs H1=>∃i j:Int,vs=[.int i,.int j]/\(-(2 ^ 62)<=i/\i<2 ^ 62/\ -(2 ^ 62)<=j/\j<2 ^ 62)/\R (Itr i (j-i).toNat) H1
def BX{a:Uh}{ta:TA}{p pos:Pos}(g:Gl X "range")(f:X.mg "range"=b4)(i:PA X [a] ta)(d:Uc [a] X.env=[(bb,eval a X.env)]:=by rfl):PI X tg (.Call (.Name "range" p) [a] [] pos) (dI ta):=by
 intro aa s σ H R I h;refine Call_ (SJ I g f boot_range (El (ZT (i pos aa s σ H _ I h) λl s1 ⟨vs,H1,k,c,q1⟩=>?_) d rfl));obtain⟨j,e,q1,q2,q⟩:=q1;subst e;cases c with
 |cons r b=>
  cases b;obtain⟨t,rfl⟩:=r;exact call_range_1 (HY k (by lia) (by lia) q1 q2 (by simpa using q))
def BY{a b:Uh}{ta:TA}{p pos:Pos}(m:Gl X "range")(l:X.mg "range"=b4)(n:PA X [a,b] ta)(k:Uc [a,b] X.env=[(bb,eval a X.env),(bb,eval b X.env)]:=by rfl)(c:Uc [b] X.env=[(bb,eval b X.env)]:=by rfl):PI X tg (.Call (.Name "range" p) [a,b] [] pos) (jN ta):=by
 intro aa s σ H R I h;refine Call_ (SJ I m l boot_range (El (ZT (n pos aa s σ H _ I h) λu s1 ⟨vs,H1,o,f,q1⟩=>?_) (by rw[k,c]) (by rw[c];rfl)));obtain⟨i,j,e,⟨q1,q2,q3,g⟩,q⟩:=q1;subst e;cases f with
 |cons r d=>
  cases d with
  |cons r' d=>
   cases d;obtain⟨t,rfl⟩:=r;obtain⟨t',rfl⟩:=r';exact call_range_2 (HY o q1 q2 q3 g q)
def tFor(d:TI)(g:TG)(tb:TS):TS:=λD σ H=>d σ H λJ H1=>∃W:Nat->Nat->St->Hp->Prop,(∃m,W 0 m σ H1)/\∀i m σ H,W i m σ H->
 (J.stop i H/\D.nx σ H)∨(J.go i H/\∃N:St->Hp->Prop,(∀a H',N a H'->∃c,c<m/\W (i+1) c a H')/\∀x H',J.yld i H x H'->g x σ H' λb H2=>tb {D with nx:=N,ct:=N,bk:=D.nx} b H2)
def NX(fp:List Ub)(h:Uk):List (Ub×Ul):=fp.filterMap λb=>(h.get? b).map λo=>(b,o)
def VO{fp:List Ub}{h:Uk}{b:Ub}{o:Ul}(a:b∈fp)(e:h.get? b=b3 o):(b,o)∈NX fp h:=Kn.mpr ⟨b,a,by rw[e];rfl⟩
def BV{fp:List Ub}{h:Uk}{p:Ub×Ul}(a:p∈NX fp h):p.1∈fp/\h.get? p.1=b3 p.2:=by
 obtain⟨b,c,e⟩:=Kn.mp a;cases q:h.get? b with
 |none=>rw[q]at e;cases e
 |some o=>
  rw[q]at e;have d:(b,o)=p:=Cg e;subst d;exact⟨c,q⟩
def cM.pinned{aa:List (Ub×Ul)}{σ:St}{H:Hp}{s:Ae}{fp:List Ub}(I:cM X aa σ H s)(h:∀b∈fp,ML X aa H b)(g:∀b∈fp,∃o,s.heap.get? b=b3 o/\∀v,o.data≠ .cell v):cM X (aa++NX fp s.heap) σ H s:=
 I.pins_of λp f=>(Bx.mp f).elim (λz=>I.pin p (Bq _ z)) λz=>by obtain⟨a,e⟩:=BV z;obtain⟨i,f1,f2,_⟩:=h p.1 a;obtain⟨o,c,d⟩:=g p.1 a;rw[e]at c;cases c;exact⟨e,i,f1,f2,d⟩
def cM.unpinned{aa a:List (Ub×Ul)}{σ:St}{H:Hp}{s:Ae}(I:cM X (aa++a) σ H s):cM X aa σ H s:=I.pins_of λp b=>I.pin p (Bq _ (Bp _ b))
def Zb{iter:Uh}{body:List Um}{Q:TI}{g:TG}{tb:TS}{pos:Pos}(C:Rc (Uf X.prog X.w) X.A X.env X.xe)(hc:X.calm=ba)(hi:PI X tg iter Q)(hg:PG X tg g)(k:WU X body tb)(hs:∀x,Uo iter X.env x=pure x:=by intro _;rfl):PS X (.For tg iter body [] pos) (tFor Q g tb):=by
 intro aa s σ H D I h;refine wpAny_For (ZT (hi aa s σ H _ I h) λv s1 h1=>ZT h1 λitv s2 h2=>?_) hs;obtain⟨it,fp,R,J,H2,e,I2,T,K,f2,W,⟨m0,w0⟩,turn⟩:=h2;subst e;have stat:∀{H':Hp},(∀b∈fp,H' b=b4)->∀b∈fp,ML X aa H' b:=λhn b k=>⟨hn b k,(f2 b k).2⟩;refine codeAny_forLoop_any (λn s'=>∃i j H',cM X aa j H' s'/\R i s'.heap/\(∀b∈fp,H' b=b4)/\W i n j H') ?_ m0 ⟨0,σ,H2,I2,K,λb k=>(f2 b k).1,w0⟩;rintro n U ⟨i,c,F,V,z,E,w3⟩;rcases turn i n c F w3 with⟨y,qn⟩|⟨go,N,hN,step⟩
 ·refine Gb C (ZT (T.done X rfl rfl rfl hc i aa U c F X.xe V (stat E) z y) λr s4 ⟨M,I4⟩ => ?_)
  subst M;exact Jn ⟨c,F,I4,qn⟩
 ·refine Gb C (ZT (T.item X rfl rfl rfl hc i aa U c F X.xe V (stat E) z go) λr s4 ⟨u,M,h4⟩ => ?_)
  subst M;refine Gb C (ZT h4 λ_ S ⟨x,Y,I5,r5,Z,t,O⟩=>?_);have P:=I5.pinned (stat O) (T.obj _ _ t);refine Gb C (ZT (hg _ S c Y x u _ P r5 (step x Y Z)) λ_ s6 ⟨G,H6,I6,q6⟩=>?_);refine Gb C (ZT (k _ s6 G H6 _ I6 q6) λf L q=>?_);have YE:∀{a:St}{p:Hp},cM X (aa++NX fp S.heap) a p L->N a p->∃m,m<n/\∃i j H',cM X aa j H' L/\R i L.heap/\(∀b∈fp,H' b=b4)/\W i m j H':=λ{a p} l B=>by obtain⟨m',hm,w7⟩:=hN a p B;refine⟨m',hm,i+1,a,p,l.unpinned,T.keep _ _ _ t λb k o e=>(l.pin (b,o) (Bq _ (Bq _ (VO k e)))).1,λb k=>?_,w7⟩;obtain⟨o,e,d⟩:=T.obj _ _ t b k;exact(l.pin (b,o) (Bq _ (Bq _ (VO k e)))).2.1
  cases f with
  |next=>obtain⟨a,p,l,B⟩:=q;exact YE l B
  |cont=>obtain⟨a,p,l,B⟩:=q;exact YE l B
  |brk=>obtain⟨a,p,l,q⟩:=q;exact⟨a,p,l.unpinned,q⟩
  |ret v=>obtain⟨x7,a,p,l,r7,q⟩:=q;exact⟨x7,a,p,l.unpinned,r7,q⟩
end
abbrev R2:=V->V->Hp->VK->Prop
def XJ(X:Cx)(f:Ua->Ua->Ut Ua)(r:R2):Prop:=
 ∀(aa:List (Ub×Ul)) (s:Ae) (σ:St) (H:Hp) (x y:V) (v u:Ua) (Q:VK),cM X aa σ H s->b7 x v->b7 y u->r x y H Q->
  Ud (Uf X.prog X.w) X.A (f v u) (EP X aa σ Q) X.xe s
def UnR(X:Cx)(f:Ua->Ut Ua)(r:V->Hp->VK->Prop):Prop:=
 ∀(aa:List (Ub×Ul)) (s:Ae) (σ:St) (H:Hp) (x:V) (v:Ua) (Q:VK),cM X aa σ H s->b7 x v->r x H Q->
  Ud (Uf X.prog X.w) X.A (f v) (EP X aa σ Q) X.xe s
def aD(X:Cx)(f:Ua)(r:List V->Hp->VK->Prop):Prop:=
 ∀(aa:List (Ub×Ul)) (s:Ae) (σ:St) (H:Hp) (xs:List V) (a:List Ua) (Q:VK),cM X aa σ H s->bX xs a->r xs H Q->
  Ud (Uf X.prog X.w) X.A (call f a) (EP X aa σ Q) X.xe s
def tOp(r:R2)(ta tb:TE):TE:=λσ H Q=>ta σ H λx H1=>tb σ H1 λy H2=>r x y H2 Q
def tUn(r:V->Hp->VK->Prop)(ta:TE):TE:=λσ H Q=>ta σ H λx H1=>r x H1 Q
def rI(C:Int->Int->Prop)(g:Int->Int->V):R2:=λx y H Q=>∃i j,x=.int i/\y=.int j/\C i j/\Q (g i j) H
def FZ(g:Int->Int->V):R2:=λx y H Q=>∃i j,x=.int i/\y=.int j/\Q (g i j) H
def rU(g:Int->V):V->Hp->VK->Prop:=λx H Q=>∃i,x=.int i/\Q (g i) H
section
variable{X:Cx}{a b c:Uh}{ta tb tc:TE}{pos:Pos}
def binT(l:PE X a ta)(k:PE X b tb){aa:List (Ub×Ul)}{s:Ae}{σ:St}{H:Hp}{R:V->V->Hp->Prop}(I:cM X aa σ H s)(h:ta σ H λx H1=>tb σ H1 λy H2=>R x y H2){Q:Ua->Ae->Prop}{f:Ua->Ua->Ut Ua}(j:∀v u e x y H2,cM X aa σ H2 e->b7 x v->b7 y u->R x y H2->Ud (Uf X.prog X.w) X.A (f v u) Q X.xe e):Ud (Uf X.prog X.w) X.A (eval a X.env) (λv d=>Ud (Uf X.prog X.w) X.A (eval b X.env) (λu c=>Ud (Uf X.prog X.w) X.A (f v u) Q X.xe c) X.xe d) X.xe s:=by refine ZT (l aa s σ H _ I h) λv s1 ⟨x,H1,n,i,q1⟩=>?_;refine ZT (k aa s1 σ H1 _ n q1) λu e ⟨y,H2,m,g,q2⟩=>?_;exact j v u e x y H2 m i g q2
def Yb{op:Operator}{r:R2}(f:XJ X (Fq op) r)(i:PE X a ta)(g:PE X b tb):PE X (.BinOp a op b pos) (tOp r ta tb):=by intro aa s σ H Q I h;exact wpAny_BinOp (binT i g I h λv u c x y H2 j e d q=>f aa c σ H2 x y v u Q j e d q)
def eT{op:UnaryOp}{r:V->Hp->VK->Prop}(c:UnR X (unaryOp op) r)(d:PE X a ta):PE X (.UnaryOp op a pos) (tUn r ta):=by intro aa s σ H Q I h;exact UnaryOp_ (ZT (d aa s σ H _ I h) λv s1 ⟨x,H1,e,b,q1⟩=>c aa s1 σ H1 x v Q e b q1)
def opI{f:Ua->Ua->Ut Ua}{C:Int->Int->Prop}{g:Int->Int->Int}(rule:∀(i j:Int) (t u:Uv) (s:Ae) (Q:Ua->Ae->Prop) (E:Ua->Ae->Prop),C i j->Q (.int (g i j) s.toks) {s with toks:=s.toks+1}->Ud (Uf X.prog X.w) X.A (f (.int i t) (.int j u)) Q E s):XJ X f (rI C λi j=>.int (g i j)):=by intro aa s σ H x y v u Q I b a h;obtain⟨i,j,rfl,rfl,hc,q⟩:=h;obtain⟨t,rfl⟩:=b;obtain⟨t',rfl⟩:=a;exact rule i j t t' s _ _ hc ⟨.int (g i j),H,I.tok _,⟨_,rfl⟩,q⟩
def opI0{f:Ua->Ua->Ut Ua}{g:Int->Int->Int}(rule:∀(i j:Int) (t u:Uv) (s:Ae) (Q:Ua->Ae->Prop) (E:Ua->Ae->Prop),Q (.int (g i j) s.toks) {s with toks:=s.toks+1}->Ud (Uf X.prog X.w) X.A (f (.int i t) (.int j u)) Q E s):XJ X f (FZ λi j=>.int (g i j)):=by intro aa s σ H x y v u Q I b a h;obtain⟨i,j,rfl,rfl,q⟩:=h;obtain⟨t,rfl⟩:=b;obtain⟨t',rfl⟩:=a;exact rule i j t t' s _ _ ⟨.int (g i j),H,I.tok _,⟨_,rfl⟩,q⟩
def opB0{f:Ua->Ua->Ut Ua}{g:Int->Int->Bool}(rule:∀(i j:Int) (t u:Uv) (s:Ae) (Q:Ua->Ae->Prop) (E:Ua->Ae->Prop),Q (.bool (g i j)) s->Ud (Uf X.prog X.w) X.A (f (.int i t) (.int j u)) Q E s):XJ X f (FZ λi j=>.bl (g i j)):=by intro aa s σ H x y v u Q I b a h;obtain⟨i,j,rfl,rfl,q⟩:=h;obtain⟨t,rfl⟩:=b;obtain⟨t',rfl⟩:=a;exact rule i j t t' s _ _ ⟨.bl (g i j),H,I,rfl,q⟩
def CDiv(i j:Int):Prop:=0<j/\j<1073741824
def CPow(i j:Int):Prop:=0<=j/\j<=1000000/\i.natAbs<2 ^ 64
def CMul(i j:Int):Prop:=(-(2 ^ 64)<i/\i<2 ^ 64)∨(-(2 ^ 64)<j/\j<2 ^ 64)
def CMul.ok{i j:Int}(h:CMul i j):IntMulOk i j:=by
 rcases h with⟨h1,h2⟩|⟨h1,h2⟩
 ·exact .of_left (intBits_le_64 h1 h2)
 ·exact .of_right (intBits_le_64 h1 h2)
def zIE:XJ X (Fq .Add) (FZ λi j=>.int (i+j)):=opI0 λ_ _ _ _ _ _ _ q=>add_int q
def WY:XJ X (Fq .Sub) (FZ λi j=>.int (i-j)):=opI0 λ_ _ _ _ _ _ _ q=>sub_int q
def lN:XJ X (Fq .Mult) (rI CMul λi j=>.int (i*j)):=opI λ_ _ _ _ _ _ _ hc q=>mul_int q hc.ok
def J4:XJ X (Fq .FloorDiv) (rI CDiv λi j=>.int (i/j)):=opI λi j _ _ _ _ _ hc q=>by have h1:(0:Int)<j:=hc.1;have h2:j<1073741824:=hc.2;exact floordiv_int (by lia) (by rw[Int.fdiv_eq_ediv_of_nonneg i (by lia)];exact q) (.inl (PyProof.noPylong_small (by lia)))
def UR:XJ X (Fq .Mod) (rI (λ_ j=>0<j) λi j=>.int (i % j)):=opI λi j _ _ _ _ _ hc q=>by have h1:(0:Int)<j:=hc;exact mod_int' (by lia) (by rw[Int.fmod_eq_emod_of_nonneg i (by lia)];exact q)
def jU:XJ X (Fq .Pow) (rI CPow λi j=>.int (i ^ j.toNat)):=opI λ_ _ _ _ _ _ _ hc q=>pow_int_small hc.1 hc.2.1 hc.2.2 q
def unI{f:Ua->Ut Ua}{g:Int->Int}(rule:∀(i:Int) (t:Uv) (s:Ae) (Q:Ua->Ae->Prop) (E:Ua->Ae->Prop),Q (.int (g i) s.toks) {s with toks:=s.toks+1}->Ud (Uf X.prog X.w) X.A (f (.int i t)) Q E s):UnR X f (rU λi=>.int (g i)):=by intro aa s σ H x v Q I a h;obtain⟨i,rfl,q⟩:=h;obtain⟨t,rfl⟩:=a;exact rule i t s _ _ ⟨.int (g i),H,I.tok _,⟨_,rfl⟩,q⟩
def kQ:UnR X (unaryOp .USub) (rU λi=>.int (-i)):=unI λ_ _ _ _ _ q=>neg_int q
end
section
variable{X:Cx}{a b c:Uh}{ta tb tc:TE}{pos:Pos}
def JR{aa:List (Ub×Ul)}{σ:St}{H:Hp}{s:Ae}{Q:VK}{k k':Bool}(I:cM X aa σ H s)(q:Q (.bl k) H)(e:k=k'):EP X aa σ Q (.bool k') s:=by subst e;exact⟨.bl k,H,I,rfl,q⟩
def HN:XJ X (Ct .Lt) (FZ λi j=>.bl (decide (i<j))):=opB0 λ_ _ _ _ _ _ _ q=>lt_int q
def HM:XJ X (Ct .LtE) (FZ λi j=>.bl (decide (i<=j))):=opB0 λ_ _ _ _ _ _ _ q=>le_int q
def HL:XJ X (Ct .Gt) (FZ λi j=>.bl (decide (j<i))):=opB0 λ_ _ _ _ _ _ _ q=>gt_int q
def iX:XJ X (Ct .GtE) (FZ λi j=>.bl (decide (j<=i))):=opB0 λ_ _ _ _ _ _ _ q=>ge_int q
def FR:XJ X (Ct .Is) (λx y H Q=>y=.non/\Q (.bl (decide (x=.non))) H):=by
 intro aa s σ H x y v u Q I a b h;obtain⟨rfl,q⟩:=h;cases b;refine is_none_gen (JR I q ?_);cases x<;>first
  |(cases a;rfl)
  |(obtain⟨t,rfl⟩:=a;rfl)
def jS:XJ X (Ct .IsNot) (λx y H Q=>y=.non/\Q (.bl (!decide (x=.non))) H):=by
 intro aa s σ H x y v u Q I a b h;obtain⟨rfl,q⟩:=h;cases b;refine isnot_none_gen (JR I q ?_);cases x<;>first
  |(cases a;rfl)
  |(obtain⟨t,rfl⟩:=a;rfl)
def XJ.or{f:Ua->Ua->Ut Ua}{r r':R2}(h:XJ X f r)(h':XJ X f r'):XJ X f (λx y H Q=>r x y H Q∨r' x y H Q):=by
 intro aa s σ H x y v u Q I b a q;rcases q with q|q
 ·exact h aa s σ H x y v u Q I b a q
 ·exact h' aa s σ H x y v u Q I b a q
def UO(b:Uh){op:CmpOp}(h:op≠ .In:=by decide)(h2:op≠ .NotIn:=by decide):Hn op b=bb:=by
 have c:(op==CmpOp.In)=bb:=by cases op<;>first|rfl|exact absurd rfl h
 have a:(op==CmpOp.NotIn)=bb:=by cases op<;>first|rfl|exact absurd rfl h2
 cases b<;>simp[Hn,c,a]
def mM{op:CmpOp}{r:R2}(f:XJ X (Ct op) r)(j:PE X a ta)(i:PE X b tb)(g:Hn op b=bb):PE X (.Compare a [op] [b] pos) (tOp r ta tb):=by intro aa s σ H Q I h;exact wpAny_Compare1 (binT j i I h λv u c x y H2 k e d q=>f aa c σ H2 x y v u Q k e d q) g
def Xj(t:TE):TT:=λσ H Q=>t σ H λx H'=>∃k,x=.bl k/\Q k H'
def Zr{op:CmpOp}{r:R2}(j:XJ X (Ct op) r)(n:PE X a ta)(m:PE X b tb)(l:Hn op b=bb):PT X (.Compare a [op] [b] pos) (Xj (tOp r ta tb)):=by
 intro aa s σ H Q I h;refine wpAny_isTrue_Compare1 (ZT (n aa s σ H _ I h) λv s1 ⟨x,H1,q,i,q1⟩=>ZT (m aa s1 σ H1 _ q q1) λu d ⟨y,H2,p,g,q2⟩=>
  ZT (j aa d σ H2 x y v u _ p i g q2) λc w ⟨z,t,o,f,k,e,q3⟩=>?_) l
 subst e;cases f;exact Fi ⟨t,o,q3⟩
def GB(r r':R2)(ta tb tc:TE):TE:=λσ H Q=>ta σ H λx H1=>tb σ H1 λy H2=>r x y H2 λz a=>∃k,z=.bl k∧
 (if k=ba then tc σ a λb c=>r' y b c Q else Q (.bl bb) a)
def gK{op f:CmpOp}{r r':R2}(B:XJ X (Ct op) r)(g:XJ X (Ct f) r')(E:PE X a ta)(D:PE X b tb)(hc:PE X c tc)(C:Rf [op,f] [b,c]=bb:=by with_unfolding_all rfl):PE X (.Compare a [op,f] [b,c] pos) (GB r r' ta tb tc):=by
 intro aa s σ H Q I h;refine Compare_chain (ZT (E aa s σ H _ I h) λv s1 ⟨x,H1,J,w,q1⟩=>chain_link (ZT (D aa s1 σ H1 _ J q1) λu p ⟨y,H2,G,i,q2⟩=>
  ZT (B aa p σ H2 x y v u _ G w i q2) λd o ⟨z,l,j,t,k,e,q3⟩=>?_)) C
 subst e;cases t;refine Fi ?_;cases k with
 |false=>exact ite_ff ⟨.bl bb,l,j,rfl,q3⟩
 |true=>exact ite_tt (chain_last (ZT (hc aa o σ l _ j q3) λm n ⟨z',K,F,q,A⟩=>g aa n σ K y z' u m Q F i q A))
def Zl{op f:CmpOp}{r r':R2}(E:XJ X (Ct op) r)(g:XJ X (Ct f) r')(J:PE X a ta)(G:PE X b tb)(hc:PE X c tc)(F:Rf [op,f] [b,c]=bb:=by with_unfolding_all rfl):PT X (.Compare a [op,f] [b,c] pos) (Xj (GB r r' ta tb tc)):=by
 intro aa s σ H Q I h;refine isTrue_chain (ZT (J aa s σ H _ I h) λv s1 ⟨x,H1,P,A,q1⟩=>test_link (ZT (G aa s1 σ H1 _ P q1) λu p ⟨y,H2,O,i,q2⟩=>
  ZT (E aa p σ H2 x y v u _ O A i q2) λd o ⟨z,l,j,w,k,e,q3⟩=>?_)) F
 subst e;cases w;refine Fi ?_;cases k with
 |false=>
  obtain⟨k',L,D⟩:=q3;cases L;exact ite_ff ⟨l,j,D⟩
 |true=>
  refine ite_tt (test_last (ZT (hc aa o σ l _ j q3) λm n ⟨z',S,N,t,C⟩=>ZT (g aa n σ S y z' u m _ N i t C) λd' U ⟨T,R,M,q,k2,K,B⟩=>?_));subst K;cases q;exact Fi ⟨R,M,B⟩
def QB:(sizeLine:Nat)<2 ^ 63:=by rw[Ce];decide
def FQ:XJ X (Fq .Add) (λx y H Q=>∃i j,x=.str i/\y=.str j/\i.length+j.length<=sizeLine/\Q (.str (i++j)) H):=by intro aa s σ H x y v u Q I b a h;obtain⟨i,j,rfl,rfl,hz,q⟩:=h;obtain⟨t,rfl⟩:=b;obtain⟨t',rfl⟩:=a;exact add_str (λt' tk=>⟨.str (i++j),H,I.tok _,⟨_,rfl⟩,q⟩) hz
def SZ{x:V}{a:List Ua}(r:bX [x] a):∃u,a=[u]/\b7 x u:=by
 cases r with
 |cons c b=>cases b;exact⟨_,rfl,c⟩
def IV{x y:V}{b:List Ua}(r:bX [x,y] b):∃u a,b=[u,a]/\b7 x u/\b7 y a:=by
 cases r with
 |cons f e=>
  cases e with
  |cons d c=>cases c;exact⟨_,_,rfl,f,d⟩
def AQ(hc:X.calm=ba):aD X (.builtin "max") (λxs H Q=>∃i j,xs=[.int i,.int j]/\Q (.int (if j>i then j else i)) H):=by
 intro aa s σ H xs c Q I r h;obtain⟨i,j,rfl,q⟩:=h;obtain⟨u,b,rfl,⟨t,rfl⟩,⟨t',rfl⟩⟩:=IV r;refine max_two_ints (I.ok.hd hc) λh' tk k=>⟨_,H,I.kept k,?_,q⟩;by_cases a:j>i
 ·rw[if_pos a,if_pos a];exact⟨_,rfl⟩
 ·rw[if_neg a,if_neg a];exact⟨_,rfl⟩
def AR(hc:X.calm=ba):aD X (.builtin "min") (λxs H Q=>∃i j,xs=[.int i,.int j]/\Q (.int (if j<i then j else i)) H):=by
 intro aa s σ H xs c Q I r h;obtain⟨i,j,rfl,q⟩:=h;obtain⟨u,b,rfl,⟨t,rfl⟩,⟨t',rfl⟩⟩:=IV r;refine min_two_ints (I.ok.hd hc) λh' tk k=>⟨_,H,I.kept k,?_,q⟩;by_cases a:j<i
 ·rw[if_pos a,if_pos a];exact⟨_,rfl⟩
 ·rw[if_neg a,if_neg a];exact⟨_,rfl⟩
end
structure ObjM(h:Uk)(x dx C:Ub)(mA:Ue->Option Ua):Prop where
 obj:h.get? x=b3 (Th C dx)
 ns:h.Ns1 dx mA
 ne:dx≠x
def BI{h:Uk}{dx:Ub}{b:Ue->Option Ua}(n:h.Ns1 dx b):∃od,h.get? dx=b3 od/\∀name,W.lookIn name od=b3 (b name):=by
 obtain⟨o,es,j,f,hd,hk,_,g⟩:=n;refine⟨o,f,λname=>?_⟩;have e:=g name;unfold nsFind findBy at e;rw[<-Array.find?_toList]at e;unfold W.lookIn;rw[hd];dsimp only;split
 ·rename_i y q
  rw[q]at e;exact congrArg b3 e
 ·rename_i q
  rw[q]at e;have a:es.toList.any (·.refKey)=bb:=by rw[List.any_eq_false];intro y d;obtain⟨z,t,c⟩:=hk y (Array.mem_toList_iff.mp d);simp[DictEntry.refKey,c]
  have i:¬es.toList.any (·.refKey)=ba:=by rw[a];exact Ek
  rw[if_neg i];exact congrArg b3 e
def ObjM.look{h:Uk}{x dx C:Ub}{a:Ue->Option Ua}(I:ObjM h x dx C a):∃od,W.InstAt h x (Th C dx) C (b3 od)/\∀name,W.lookIn name od=b3 (a name):=
 let ⟨od,b,hl⟩:=BI I.ns
 ⟨od,⟨I.obj,rfl,rfl,b⟩,hl⟩
def PZ.some_of{v:V}{o:Option Ua}(r:PZ (b3 v) o):∃u,o=b3 u/\b7 v u:=by
 cases o with
 |none=>exact(show False from r).elim
 |some u=>exact⟨u,rfl,r⟩
section
variable{P:Aw}{w:Uj}{H H':Hp}{h h':Uk}{a C dx:Ub}{fs fs':List (Ue×V)}
def oD(c:U2 P w H h)(e:H a=b3 (.ins C dx fs)):∃b,ObjM h a dx C b/\(∀f,PZ (fs.lookup f) (b f))/\Ti b (fs.map (·.1))/\fs.length<=1000/\H dx=b3 (.own a):=by obtain⟨d,z,i,g,b,n,r,q⟩:=(show aG P w H h a (.ins C dx fs) from c a _ e);exact⟨b,⟨g,n,i⟩,r,q,z,d⟩
end
structure Cls(K:Ah)(C:Ub):Prop where
 pg:W.plainGet K C Str.empty=ba
 hd:W.hasDictIn K C=ba
 po:W.plainOver K C=ba
 sa:Qu K (.ref C) "__setattr__"=b3 (b3 (.builtin "object.__setattr__"))
def Cls.get{K:Ah}{C:Ub}(c:Cls K C)(f:Ue):W.plainGet K C f=ba:=c.pg
section
variable{X:Cx}{aa:List (Ub×Ul)}{σ:St}{H:Hp}{s:Ae}{A:Cb}{E:Ua->Ae->Prop}{Q:Ua->Ae->Prop}{c:Ua}{b:Bool}
inductive O8(K:Ah)(H:Hp):V->Ua->Prop where
 |non:O8 K H .non (.type "NoneType")
 |bl (x:Bool):O8 K H (.bl x) (.type "bool")
 |int (i:Int):O8 K H (.int i) (.type "int")
 |str (x:Ue):O8 K H (.str x) (.type "str")
 |flt (x:UInt64):O8 K H (.flt x) (.type "float")
 |lst {a:Ub}{xs:List V}(e:H a=b3 (.lst xs)):O8 K H (.ref a) (.type "list")
 |frz {a:Ub}{o:Ul}{xs:List V}(e:H a=b3 (.frz o (.lst xs))):O8 K H (.ref a) (.type "list")
 |tup {a:Ub}{xs:List V}(e:H a=b3 (.tup xs)):O8 K H (.ref a) (.type "tuple")
 |dK {a:Ub}{kvs:List (aY×V)}(e:H a=b3 (.dK kvs)):O8 K H (.ref a) (.type "dict")
 |dT {a:Ub}{kvs:List (List aY×V)}(e:H a=b3 (.dT kvs)):O8 K H (.ref a) (.type "dict")
 |ins {a C dx:Ub}{fs:List (Ue×V)}(e:H a=b3 (.ins C dx fs)) (cl:Cls K C) (ha:Qu K (.ref C) "__class__"=b3 (b3 (.builtin "object.__class__")))
   (hn:W.specialIn K (.builtin "object.__class__") "__get__"=b3 (b3 (.builtin "getset_descriptor.__get__"))) (htk:W.takesIn K (.builtin "object.__class__")=b3 ba)
   (hm:W.mroIn K C (.type "object")=b3 ba):O8 K H (.ref a) (.ref C)
def T0{x:V}{u t:Ua}(I:cM X aa σ H s)(d:b7 x u)(ty:O8 X.K H x t)(e:Hb X.K t c=b3 b)(h:∀tk,Q (.bool b) {s with toks:=tk}):Ud (Uf X.prog X.w) A (call (.builtin "isinstance") [u,c]) Q E s:=by
 cases ty with
 |non=>cases (show u=Value.none from d);exact Fk W.kitx_none I.kIn True.intro e (λz=>nomatch z) h
 |bl y=>cases (show u=Gk y from d);exact Fk W.kitx_bool I.kIn True.intro e (λz=>nomatch z) h
 |int i=>obtain⟨t,q⟩:=(show∃t,u=Qz i t from d);cases q;exact Fk W.kitx_int I.kIn True.intro e (λz=>nomatch z) h
 |str y=>obtain⟨t,q⟩:=(show∃t,u=Ra y t from d);cases q;exact Fk W.kitx_str I.kIn True.intro e (λz=>nomatch z) h
 |flt y=>obtain⟨t,q⟩:=(show∃t,u=Tt y t from d);cases q;exact Fk W.kitx_float I.kIn True.intro e (λz=>nomatch z) h
 | @lst a xs f=>
  cases (show u=Bu a from d);obtain⟨_,_,n,_,h1⟩:=(show aG X.prog X.w H s.heap a (.lst xs) from I.hok a _ f);exact Fk No I.kIn ⟨_,h1,rfl⟩ e (λz=>nomatch z) h
 | @frz a j xs f=>
  cases (show u=Bu a from d);obtain⟨_,_,_,n,_,h1⟩:=(show aG X.prog X.w H s.heap a (.frz j (.lst xs)) from I.hok a _ f);exact Fk No I.kIn ⟨_,h1,rfl⟩ e (λz=>nomatch z) h
 | @tup a xs f=>
  cases (show u=Bu a from d);obtain⟨_,_,_,p⟩:=(show aG X.prog X.w H s.heap a (.tup xs) from I.hok a _ f);obtain⟨o,h1,h2,_⟩:=p;exact Fk W.kitx_tuple I.kIn ⟨o,h1,h2⟩ e (λz=>nomatch z) h
 | @dK a kvs f=>
  cases (show u=Bu a from d);obtain⟨_,_,vs,_,p⟩:=(show aG X.prog X.w H s.heap a (.dK kvs) from I.hok a _ f);obtain⟨o,es,r,h1,h2,_⟩:=p;exact Fk W.kitx_dict I.kIn ⟨o,h1,h2.1⟩ e (λz=>nomatch z) h
 | @dT a kvs f=>
  cases (show u=Bu a from d);obtain⟨_,_,xs,_,o,es,r,h1,h2,_⟩:=(show aG X.prog X.w H s.heap a (.dT kvs) from I.hok a _ f);exact Fk W.kitx_dict I.kIn ⟨o,h1,h2.1⟩ e (λz=>nomatch z) h
 | @ins a C dx fs f cl m k g l=>
  cases (show u=Bu a from d);obtain⟨v,O,_⟩:=oD I.hok f;obtain⟨od,J,_⟩:=O.look;exact Fk (W.kitx_own (cl.get _) cl.hd m k g l) I.kIn J e (λz=>nomatch z) h
end
structure Y0(k:Nat)(A:Cb):Prop where
 hd:A.handled=b4
 dp:A.depth+3*k+5<Ku
 un:A.units+16*k+200<cLine
def Y0.mono{j k:Nat}{A:Cb}(r:Y0 k A)(h:j<=k):Y0 j A:=⟨r.hd,by have:=r.dp;lia,by have:=r.un;lia⟩
def Y0.deeper{k:Nat}{A:Cb}(r:Y0 (k+1) A)(env:Env):Y0 k (A.deeper env):=
 ⟨r.hd,by have:=r.dp;show A.depth+1+3*k+5<_;lia,by have:=r.un;show A.units+3+16*k+200<_;lia⟩
def Y0.depth{k:Nat}{A:Cb}(r:Y0 k A):A.depth<Ku:=by have:=r.dp;lia
def Y0.units{k:Nat}{A:Cb}(r:Y0 k A):A.units+64<cLine:=by have:=r.un;lia
def tNil:TA:=λ_ H Q=>Q [] H
def MB(ta:TE)(a:TA):TA:=λσ H Q=>ta σ H λx H1=>a σ H1 λxs H2=>Q (x::xs) H2
section
variable{X:Cx}{e:Uh}{es:List Uh}{te:TE}{t:TA}{pos:Pos}
def aH:PA X [] tNil:=λ_ _ _ _ H Q I h=>Ia ⟨[],H,I,.nil,h⟩
def b8(f:PE X e te)(d:PA X es t)(c:Uc (e::es) X.env=(bb,eval e X.env)::Uc es X.env:=by rfl):PA X (e::es) (MB te t):=by intro pos aa s σ H Q I h;rw[c];show Ud _ _ (spliced ((bb,eval e X.env)::Fa pos (Uc es X.env))) _ _ s;refine Gq (ZT (f aa s σ H _ I h) λu s1 ⟨x,H1,i,b,q1⟩=>?_);exact ZT (d pos aa s1 σ H1 _ i q1) λj k ⟨xs,H2,g,a,q2⟩=>⟨x::xs,H2,g,.cons b a,q2⟩
def tTup(t:TA):TE:=λσ H Q=>t σ H λxs H1=>xs.length<=sizeLine/\∀p,H1 p=b4->Q (.ref p) (upd H1 p (.tup xs))
def tLst(t:TA):TE:=λσ H Q=>t σ H λxs H1=>xs.length<=sizeLine/\∀p,H1 p=b4->Q (.ref p) (upd H1 p (.lst xs))
def FT{x1}(h:PA X es t):PE X (.Tuple es x1 pos) (tTup t):=by intro aa s σ H Q I d;refine wpAny_Tuple_spliced (ZT (h pos aa s σ H _ I d) λc s1 ⟨xs,H1,a,r,z,q⟩=>⟨by rw[<-r.length];exact z,?_⟩);have f:H1 s1.heap.objs.size=b4:=a.hok.fresh (Aq _);refine⟨.ref s1.heap.objs.size,upd H1 s1.heap.objs.size (.tup xs),a.laid (t':=s1.toks) (λb u e=>Ad _ e) (Aq _) ?_,rfl,q _ f⟩;exact⟨z,c,r,⟨_,As _ rfl,rfl,_,rfl⟩⟩
def J6(h:PA X es t):PE X (.List es pos) (tLst t):=by intro aa s σ H Q I d;refine wpAny_List_spliced (ZT (h pos aa s σ H _ I d) λc s1 ⟨xs,H1,a,r,z,q⟩=>⟨by rw[<-r.length];exact z,?_⟩);have f:H1 s1.heap.objs.size=b4:=a.hok.fresh (Aq _);refine⟨.ref s1.heap.objs.size,upd H1 s1.heap.objs.size (.lst xs),a.laid (t':=s1.toks) (λb u e=>Ad _ e) (Aq _) ?_,rfl,q _ f⟩;exact⟨z,c,0,r,As _ rfl⟩
end
abbrev Sp:=List V->Hp->VK->XK->Prop
abbrev CXT:=List Env->Hp->Ae->XK->Ua->Ae->Prop
structure AA(P:Aw)(w:Uj)(K:Ah)(mg:Ue->Option Ua)(base:Uk)(A:Cb)(outer:List Env)(s:Ae)(H:Hp):Prop where
 frames:A.frames=b3 outer
 mod:Mod K mg base
 bs:∀b o,base.get? b=b3 o->s.heap.get? b=b3 o/\H b=b4
 bsz:base.objs.size<=s.heap.objs.size
 funs:s.heap.FunFrames base outer
 frf:∀b∈SX outer,H b=b4
 hok:U2 P w H s.heap
 bare:Lj s.gens
def CE(outer:List Env)(P:Aw)(w:Uj)(H:Hp)(s:Ae)(Q:VK)(u:Ua)(s':Ae):Prop:=
 ∃v H',s'.os=s.os/\Lj s'.gens/\Un (SX outer) [] H H' s.heap s'.heap/\U2 P w H' s'.heap/\b7 v u/\Q v H'
def CR(CX:CXT)(outer:List Env)(P:Aw)(w:Uj)(H:Hp)(s:Ae)(Q:VK)(E:XK)(r:Result)(s':Ae):Prop:=
 match r with
 |.ok (.ret u)=>CE outer P w H s Q u s'
 |.ok _=>False
 |.error e=>CX outer H s E e s'
structure aI(P:Aw)(w:Uj)(K:Ah)(mg:Ue->Option Ua)(base:Uk)(CX:CXT)(k:Nat)(f:Ub)(fd:Dw)(ps:List Ue)(sp:Sp):Prop where
 len:∀vs H Q E,sp vs H Q E->vs.length=ps.length
 run:∀(A:Cb) (outer:List Env) (s:Ae) (H:Hp) (args:Args) (us:List Ua) (vs:List V) (Q:VK) (E:XK),Y0 k A->AA P w K mg base A outer s H->Pc s fd args (ps.zip us)->bX vs us->sp vs H Q E->
  Jr (Uf P w) A (.call (.ref f) args) (CR CX outer P w H s Q E) s
section
variable{X:Cx}{aa:List (Ub×Ul)}{σ:St}{H:Hp}{s s':Ae}
def cM.env0(I:cM X aa σ H s):AA X.prog X.w X.K X.mg X.base X.A X.stack s H:=
 ⟨I.ok.frames,I.ok.mod,I.bs,Fo I.ok.bsz I.sz,I.stack,I.stkFree,I.hok,I.bare⟩
def cM.after{Q:VK}{u:Ua}(I:cM X aa σ H s)(h:CE X.stack X.prog X.w H s Q u s'):EP X aa σ Q u s':=by obtain⟨v,H',os,a,un,e,r,q⟩:=h;obtain⟨f,g,d,t,c⟩:=s';obtain rfl:c=s.os:=os;exact⟨v,H',I.call (h':=f) (g':=g) (d':=d) (t':=t) (ch:=[]) un e a (λb z=>absurd z (by simp)),r,q⟩
end
def EO(sp:Sp)(dvs:List V)(E:XK)(t:TA):TE:=λσ H Q=>t σ H λvs H1=>sp (vs++dvs) H1 Q E
def QQ(K:Ah)(fd:Dw)(ps:List Ue)(ds:List Ua):Prop:=
 ∀(s:Ae) (a:List Ua),K.In s.heap->(a++ds).length=ps.length->Pc s fd ⟨a,[]⟩ (ps.zip (a++ds))
def QQ.all{K:Ah}{fd:Dw}{ps:List Ue}(h:∀a:List Ua,a.length=ps.length->Qv fd ⟨a,[]⟩=pure (ps.zip a)):QQ K fd ps []:=λs a _ hl=>by rw[Em]at hl⊢;exact .of_eq (h a hl)
def EZ(CX:CXT)(X:Cx)(E:XK):Prop:=∀(aa:List (Ub×Ul)) (σ:St) (H:Hp) (s:Ae) (e:Ua) (s':Ae),cM X aa σ H s->CX X.stack H s E e s'->X.xe e s'
section
variable{X:Cx}{CX:CXT}{k:Nat}{f C:Ub}{fd:Dw}{ps:List Ue}{sp:Sp}{dvs:List V}{ds:List Ua}{E:XK}{x m:Ue}{p pos ao:Pos}{e o:Uh}{es:List Uh}{ta:TE}{t:TA}
def lH{aa:List (Ub×Ul)}{σ:St}{H:Hp}{s:Ae}{Q:VK}{a:List Ua}{vs:List V}(F:aI X.prog X.w X.K X.mg X.base CX k f fd ps sp)(g:Y0 k X.A)(i:QQ X.K fd ps ds)(hd:bX dvs ds)(d:EZ CX X E)(I:cM X aa σ H s)(r:bX vs a)(h:sp (vs++dvs) H Q E):Ud (Uf X.prog X.w) X.A (call (.ref f) a) (EP X aa σ Q) X.xe s:=by
 have c:bX (vs++dvs) (a++ds):=r.append hd;have hl:(a++ds).length=ps.length:=by rw[<-c.length];exact F.len _ _ _ _ h
 refine Sg (Ko (F.run X.A X.stack s H ⟨a,[]⟩ (a++ds) (vs++dvs) Q E g I.env0 (i s a I.kIn hl) c h) λr s' b=>?_);cases r with
 |error e=>exact d aa σ H s e s' I b
 |ok j=>
  cases j with
  |ret u=>exact I.after b
  |next=>exact Gv b
  |brk=>exact Gv b
  |cont=>exact Gv b
def qj(F:aI X.prog X.w X.K X.mg X.base CX k f fd ps sp)(g:Y0 k X.A)(j:Gl X x)(i:X.mg x=b3 (.ref f))(hk:Ja X.K (.ref f)=ba)(m:QQ X.K fd ps ds)(hd:bX dvs ds)(d:EZ CX X E)(n:PA X (e::es) t)(b:(x==("__debug__":Ue))=bb:=by decide)(l:Uc (e::es) X.env=(bb,eval e X.env)::Uc es X.env:=by rfl)(a:(Fa pos (Uc es X.env)).any (·.1)=bb:=by rfl):PE X (.Call (.Name x p) (e::es) [] pos) (EO sp dvs E t):=by intro aa s σ H Q I h;refine Fd (T2 I j i ?_ b);refine Qb (h₀:=X.base) I.ok.mod.kin hk (ZT (n pos aa s σ H _ I h) λo s1 ⟨vs,H1,c,r,q⟩=>⟨c.kIn,?_⟩) l a;exact lH F g m hd d c r q
end
structure cD(N P:List Ue)(sc:Ur):Prop where
 kind:sc.kind=.function
 co:sc.isCoroutine=bb
 gen:sc.isGenerator=bb
 nd:N.Nodup
 pre:N.take P.length=P
 par:∀x∈P,sc.names.lookup x=b3 .local∨sc.names.lookup x=b3 .cell
 nofree:∀y∈sc.names,y.2≠ .free
theorem K0{kindOf:Ue->Option Uq}{x:Ue}:∀{binds:List (Ue×Ua)}{m:Ue->Option Ua},(∀v,(x,v)∉binds)->bindL kindOf binds m x=m x
 |[],_,_=>rfl
 | (n,v) :: r,m,h => by
  unfold bindL;rw[K0 λw hw=>h w (Am _ hw)];split
  ·have : x ≠ n := by rintro rfl;exact h v Au
   simp[this]
  ·rfl
theorem KY{kindOf:Ue->Option Uq}{x:Ue}:∀{binds:List (Ue×Ua)}{m:Ue->Option Ua},(∀v,(x,v)∉binds)->bindC kindOf binds m x=m x
 |[],_,_=>rfl
 | (n,v) :: r,m,h => by
  unfold bindC;rw[KY λw hw=>h w (Am _ hw)];split
  ·rfl
  ·have : x ≠ n := by rintro rfl;exact h v Au
   simp[this]
theorem KZ{kindOf:Ue->Option Uq}{x:Ue}{v:Ua}:∀{P:List Ue}{vs:List Ua}{i:Nat}{m:Ue->Option Ua},P.Nodup->P[i]?=b3 x->vs[i]?=b3 v->kindOf x=b3 .local->bindL kindOf (P.zip vs) m x=b3 v
 |[],_,_,_,_,h,_,_=>by simp at h
 |_::_,[],_,_,_,_,h,_=>by simp at h
 |p::P,w::vs,0,m,a,h1,h2,hk=>by simp at h1 h2;subst h1;subst h2;show bindL kindOf ((p,w)::P.zip vs) m p=_;unfold bindL;rw[K0 λv b=>(Ca.mp a).1 (Js b).1,if_pos hk];simp
 |p::P,w::vs,i+1,m,a,h1,h2,hk=>by show bindL kindOf ((p,w)::P.zip vs) m x=_;unfold bindL;exact KZ (i:=i) (Ca.mp a).2 (by simpa using h1) (by simpa using h2) hk
theorem KW{kindOf:Ue->Option Uq}{x:Ue}{v:Ua}:∀{P:List Ue}{vs:List Ua}{i:Nat}{m:Ue->Option Ua},P.Nodup->P[i]?=b3 x->vs[i]?=b3 v->kindOf x≠b3 .local->bindC kindOf (P.zip vs) m x=b3 v
 |[],_,_,_,_,h,_,_=>by simp at h
 |_::_,[],_,_,_,_,h,_=>by simp at h
 |p::P,w::vs,0,m,a,h1,h2,hk=>by simp at h1 h2;subst h1;subst h2;show bindC kindOf ((p,w)::P.zip vs) m p=_;unfold bindC;rw[KY λv b=>(Ca.mp a).1 (Js b).1,if_neg hk];simp
 |p::P,w::vs,i+1,m,a,h1,h2,hk=>by show bindC kindOf ((p,w)::P.zip vs) m x=_;unfold bindC;exact KW (i:=i) (Ca.mp a).2 (by simpa using h1) (by simpa using h2) hk
def start(N:List Ue)(vs:List V):St:=vs.map b3++Av (N.length-vs.length) b4
noncomputable def QZ(CX:CXT)(P:Aw)(w:Uj)(K:Ah)(mg:Ue->Option Ua)(base:Uk)(N:List Ue)(qual:Ue)(scope:Ur)(f:Ub)(cd:Ua)(A:Cb)(outer:List Env)(s:Ae)(H:Hp)(E:XK):Cx where
 prog:=P
 w:=w
 K:=K
 mg:=mg
 base:=base
 A:=A.deeper (envOfC qual scope s.heap.objs.size f cd)
 N:=N
 s₀:=s
 H₀:=H
 env:=envOfC qual scope s.heap.objs.size f cd
 outer:=outer
 stack:=envOfC qual scope s.heap.objs.size f cd::outer
 ex:=[]
 calm:=ba
 fn:=λ_=>ba
 pn:=[]
 xe:=λe s'=>Ud (Uf P w) (A.deeper (envOfC qual scope s.heap.objs.size f cd)) (leaving (envOfC qual scope s.heap.objs.size f cd) e) (λ_ a=>CX outer H s E e a) (λb a=>CX outer H s E b a) s'
def GV{a:Ur}{n:Nat}{x:Ue}(h:a.names.lookup x=b3 .cell):∃c,(Up n a.names []).lookup x=b3 c:=by have q:=Lz a.names n [] (.inl h);exact Option.isSome_iff_exists.mp q
def LH{CX:CXT}{P:Aw}{w:Uj}{K:Ah}{mg:Ue->Option Ua}{base:Uk}{N ps:List Ue}{qual:Ue}{scope:Ur}{f:Ub}{cd:Ua}{A:Cb}{outer:List Env}{s s1:Ae}{H:Hp}{E:XK}{o:List Ua}{vs:List V}(S:cD N ps scope)(hd:A.handled=b4)(d:AA P w K mg base A outer s H)(hl:vs.length=ps.length)(r:bX vs o)(x:InCallC s s.heap.objs.size (bindL (envOfC qual scope s.heap.objs.size f cd).kindOf (ps.zip o) λ_=>b4) (Up (s.heap.objs.size+1) scope.names []) (bindC (envOfC qual scope s.heap.objs.size f cd).kindOf (ps.zip o) λ_=>b4) s1):cM (QZ CX P w K mg base N qual scope f cd A outer s H E) [] (start N vs) H s1:=by
 have C:ps.length<=N.length:=by have:=congrArg List.length S.pre;rw[Cr]at this;lia
 obtain⟨h1,tk,rfl,hk⟩:=x.done;have g:∀b:Ub,b∉(QZ CX P w K mg base N qual scope f cd A outer s H E).ex:=λb z=>absurd (show b∈([]:List Ub) from z) (by simp);refine⟨⟨d.mod,S.kind,rfl,rfl,Aq _,λy z c h1 h2=>?_,λy j=>?_,λy c _ h=>?_,λ_=>hd,Around.frames_deeper d.frames,.inr ⟨rfl,rfl⟩,λb z=>absurd z (g b),d.bs,d.bsz,λb _ _=>g b,λb z=>absurd z (g b),d.funs,d.frf⟩,rfl,d.bare,Un.kept hk,⟨_,x.toInCall.ns,λi y v h1 h2 F=>?_⟩,λy c h=>⟨_,x.cell y c h⟩,d.hok.fresh (Aq _),λy c h=>?_,λp m=>absurd (show p∈([]:List (Ub×Ul)) from m) (by simp),d.hok.kept hk,?_⟩
 ·exact name_of_addr x.apart (Cv h1) (Cv h2)
 ·have j:scope.names.lookup y=b3 .cell∨scope.names.lookup y=b3 .free:=j
  rcases j with j|j
  ·exact GV j
  ·exact absurd rfl (S.nofree _ (Cv j))
 ·exact Pz (x.above y c (Cv h))
 ·have hi:i<vs.length:=by
   unfold start at h2;by_cases hi:i<vs.length
   ·exact hi
   ·rw [Bo (by simpa using hi)]at h2
    rw[Dr]at h2;split at h2<;>cases h2
  have D:vs[i]?=b3 v:=by
   unfold start at h2;rw[An (by simpa using hi),Ds]at h2;cases e:vs[i]? with
   |none=>rw[e]at h2;cases h2
   |some a=>rw[e]at h2;cases h2;rfl
  obtain⟨u,t,B⟩:=r.get D;have m:ps[i]?=b3 y:=by rw[<-S.pre,Df (by lia)];exact h1
  have l:ps.Nodup:=by rw[<-S.pre];exact S.nd.sublist (List.take_sublist _ _)
  refine⟨u,B,?_⟩;rcases S.par y (Dt m)with k|k
  ·exact .inl ⟨k,KZ l m t k⟩
  ·obtain⟨c,e⟩:=GV (n:=s.heap.objs.size+1) k
   refine .inr ⟨.inl k,c,e,?_⟩;have q:=x.cell y c e;rw[KW l m t (by show scope.names.lookup y≠_;rw[k];decide)]at q;exact q
 ·exact d.hok.fresh (Pz (x.above y c (Cv h)))
 ·unfold start
  show _=N.length;rw[Bv,Ci,Ml];lia
def Yo{CX:CXT}{P:Aw}{w:Uj}{K:Ah}{mg:Ue->Option Ua}{base:Uk}{k:Nat}{f:Ub}{name qual:Ue}{c:Arguments}{body:List Um}{scope:Ur}{D kV doc C a ct M:Ua}{F od:Option Ub}{m:Array (Option Ua)}{N ps:List Ue}{sp:Sp}(O:K.lookup f=b3 ⟨M,od,.func (Ma name qual c body scope D kV doc C F a ct),m⟩)(B:Od K a qual=ba)(S:cD N ps scope)(len:∀vs H Q E,sp vs H Q E->vs.length=ps.length)(ar:∀(A:Cb) (outer:List Env) (s:Ae) (H:Hp) (vs:List V) (Q:VK) (E:XK),Y0 k (A.deeper (envOfC qual scope s.heap.objs.size f a))->sp vs H Q E->∃t,WU (QZ CX P w K mg base N qual scope f a A outer s H E) body t/\t {nx:=λ_ H'=>Q .non H',rt:=Q} (start N vs) H):aI P w K mg base CX (k+1) f (Ma name qual c body scope D kV doc C F a ct) ps sp:=by
 refine⟨len,λA outer s H args L vs Q E z j Y r h=>?_⟩;have hl:=len _ _ _ _ h;have G:K.In s.heap:=j.mod.kin.keeps λb o e=>(j.bs b o e).1;have p:s.heap.NoLimit:=j.mod.nolimit.keeps λb o e=>(j.bs b o e).1;have Z:∀y∈ps.zip L,scope.names.lookup y.1=b3 .local∨(scope.names.lookup y.1=b3 .cell/\((Up (s.heap.objs.size+1) scope.names []).lookup y.1).isSome=ba):=λ⟨n,v⟩ R=>by
  rcases S.par n (Js R).1 with q|q
  ·exact .inl q
  ·exact .inr ⟨q,Lz _ _ _ (.inl q)⟩
 refine Mm z.depth (G _ _ O) rfl S.co S.gen rfl (W.codeRec_of G B) (Y _ _ _ _ ?_);refine Kh S.kind Z λenv X s1 x=>?_;subst X;refine⟨p.keeps x.toInCall.keep,codeAny_func ?_⟩;obtain⟨t,T,U⟩:=ar A outer s H vs Q E (z.deeper _) h;have I:cM (QZ CX P w K mg base N qual scope f a A outer s H E) [] (start N vs) H s1:=LH S z.hd j hl r x;refine Cd (T [] s1 (start N vs) H _ I U) (λfl s' g=>?_) λe s' g=>g;have i:∀{d:St}{H':Hp}{v:V}{u:Ua},cM (QZ CX P w K mg base N qual scope f a A outer s H E) [] d H' s'->b7 v u->Q v H'->CE outer P w H s Q u s':=
  λ{d H' v u} J l q=>⟨v,H',J.os,J.bare,J.base,J.hok,l,q⟩
 cases fl with
 |ret u=>
  obtain⟨v,d,H',J,l,q⟩:=g;exact i J l q
 |next=>
  obtain⟨d,H',J,q⟩:=g;exact i (v:=V.non) (u:=Value.none) J rfl q
 |brk=>
  obtain⟨_,_,_,q⟩:=g;exact Gv q
 |cont=>
  obtain⟨_,_,_,q⟩:=g;exact Gv q
section
variable{X:Cx}{x:Ue}{p pos:Pos}{e:Uh}{es:List Uh}{t:TA}{id T:String}{r:List V->Hp->VK->Prop}
def tCB(r:List V->Hp->VK->Prop)(t:TA):TE:=λσ H Q=>t σ H λvs H1=>r vs H1 Q
def NU(hc:aD X (.builtin id) r)(j:Gl X x)(i:X.mg x=b4)(f:Bm x=b3 (.builtin id))(l:PA X (e::es) t)(g:x≠ "__name__":=by decide)(b:(x==("__debug__":Ue))=bb:=by decide)(k:Uc (e::es) X.env=(bb,eval e X.env)::Uc es X.env:=by rfl)(a:(Fa pos (Uc es X.env)).any (·.1)=bb:=by rfl):PE X (.Call (.Name x p) (e::es) [] pos) (tCB r t):=by intro aa s σ H Q I h;refine Fd (SJ I j i f ?_ g b);exact PyProof.Rows.callWith_builtin1 (ZT (l pos aa s σ H _ I h) λc s1 ⟨vs,H1,m,d,q1⟩=>hc aa s1 σ H1 vs c Q m d q1) k a
def WC(hc:aD X (.type T) r)(j:Gl X x)(i:X.mg x=b4)(f:Bm x=b3 (.type T))(l:PA X (e::es) t)(g:x≠ "__name__":=by decide)(b:(x==("__debug__":Ue))=bb:=by decide)(k:Uc (e::es) X.env=(bb,eval e X.env)::Uc es X.env:=by rfl)(a:(Fa pos (Uc es X.env)).any (·.1)=bb:=by rfl):PE X (.Call (.Name x p) (e::es) [] pos) (tCB r t):=by intro aa s σ H Q I h;refine Fd (SJ I j i f ?_ g b);exact El (ZT (l pos aa s σ H _ I h) λc s1 ⟨vs,H1,m,d,q1⟩=>hc aa s1 σ H1 vs c Q m d q1) k a
end
end L2
namespace HT
open PySem PyProof.Rows
section
variable{prog:Aw}{w:Uj}{A:Cb}{E:Ua->Ae->Prop}{s:Ae}
def zFC{t b:Ub}{vs a:List Ua}{Q:Ua->Ae->Prop}(m:IsTup s.heap t vs.toArray)(o:IsTup s.heap b a.toArray)(l:vs≠[])(h1:a=[]->Q (.ref t) s)(h2:a≠[]->Q (.ref s.heap.objs.size) {s with heap:=s.heap.push {cls:=.type "tuple",data:=.seq (vs++a).toArray}})(hsz:vs.length+a.length<=sizeLine):Ud (Uf prog w) A (Fq .Add (.ref t) (.ref b)) Q E s:=by
 obtain⟨⟨cls,dd,data,j⟩,i,hc,n,hd⟩:=id m;obtain⟨⟨p,h,data2,d⟩,c,g,k,f⟩:=id o;simp only at hc hd g f;subst hc hd g f;have e:vs.toArray++a.toArray=(vs++a).toArray:=by simp
 by_cases hw:a=[]
 ·exact Mn ⟨_,i,rfl⟩ ⟨_,c,rfl⟩ Mb Oe Hv Ho (Hh _ _)
   (tuple_addW1 t b vs.toArray a.toArray n k dd h j d (by simpa using l) (by simp[hw])) ⟨i,c,h1 hw⟩
 ·refine Mn ⟨_,i,rfl⟩ ⟨_,c,rfl⟩ Mb Oe Hv Ho (Hh _ _)
   (tuple_addW2 t b vs.toArray a.toArray n k dd h j d (by simpa using l) (by simpa using hw) (by rw[Aj,Aj];exact hsz)) ⟨i,c,?_⟩
  rw[e];exact h2 hw
noncomputable def sIx(n d:Nat):Option Int->Nat
 |none=>d
 |some v=>if v<0 then(v+(n:Int)).toNat else min v.toNat n
def ID(n d:Nat):sIx n d b4=d:=rfl
def EG(n d k:Nat):sIx n d (b3 (k:Int))=min k n:=by show(if(k:Int)<0 then((k:Int)+(n:Int)).toNat else min (k:Int).toNat n)=min k n;rw[if_neg (by lia),Ib]
def eX(n d:Nat)(hd:d<=n)(o:Option Int):sIx n d o<=n:=by
 cases o with
 |none=>exact hd
 |some v=>
  show(if v<0 then(v+(n:Int)).toNat else min v.toNat n)<=n;by_cases a:v<0
  ·rw[if_pos a];lia
  ·rw[if_neg a];exact Nat.min_le_right _ _
def C6(v:Int)(n d:Nat):(if v<0 then max (v+(n:Int)) 0 else min v (n:Int))=((sIx n d (b3 v):Nat):Int):=by
 show(if v<0 then max (v+(n:Int)) 0 else min v (n:Int))=(((if v<0 then(v+(n:Int)).toNat else min v.toNat n):Nat):Int);by_cases a:v<0
 ·simp only[if_pos a];lia
 ·simp only[if_neg a];lia
def E3(lo hi:Option Int)(n:Nat):Gz lo hi 1 (n:Int)=(((sIx n 0 lo:Nat):Int),((sIx n n hi:Nat):Int)):=by
 have h1:¬((1:Int)<0):=by lia
 unfold Gz;simp only[h1,if_false];refine Prod.ext ?_ ?_
 ·cases lo with
  |none=>rfl
  |some v=>exact C6 v n 0
 ·cases hi with
  |none=>rfl
  |some v=>exact C6 v n n
def FW(i j:Nat):Fv (i:Int) (j:Int) 1=j-i:=by
 unfold Fv;have h1:(1:Int)>0:=by lia
 simp only[h1,if_true,Int.ediv_one];split<;>lia
def OC{v:Ua}{o:Option Int}{Q:Option Int->Ae->Prop}(p:IsPart v o)(h:Q o s):Ud (Uf prog w) A (Qw v) Q E s:=by
 cases p with
 |none=>exact slicePart_none h
 |int i t=>exact slicePart_int h
def WF{e:Ub}{d c:Ua}{lo hi:Option Int}{n:Nat}{Q:Int×Int×Nat->Ae->Prop}(g:s.heap.IsSliceOf e d c .none)(f:IsPart d lo)(pu:IsPart c hi)(h:Q (((sIx n 0 lo:Nat):Int),1,sIx n n hi-sIx n 0 lo) s):Ud (Uf prog w) A (Ki (.ref e) (pure (n:Int))) Q E s:=by obtain⟨os,a,i,b⟩:=id g;unfold Ki Ru;refine Ac (Ac (Eo a b (x:=d) rfl (Ac (Eo a b (x:=c) rfl (Ac (Eo a b (x:=.none) rfl (Ai ?_)))))));refine Ac (slicePart_none ?_);show Ud _ _ (if((1:Int)==0)=ba then _ else _) _ _ s;rw[if_neg (by decide)];refine Ac (OC f (Ac (OC pu (Ac (Ai ?_)))));show Ud _ _ (match Gz lo hi 1 (n:Int)with|(lo,hi)=>pure (lo,(1:Int),Fv lo hi 1)) _ _ s;rw[E3 lo hi n];show Ud _ _ (pure (((sIx n 0 lo:Nat):Int),(1:Int),Fv ((sIx n 0 lo:Nat):Int) ((sIx n n hi:Nat):Int) 1)) _ _ s;rw[FW];exact Ai h
def fS(xs:Array Ua)(i k:Nat):((Bf k).filterMap λ(m:Nat)=>xs[((i:Int)+(m:Int)*1).toNat]?).toArray=((xs.toList.drop i).take k).toArray:=by
 have e:(λ(m:Nat)=>xs[((i:Int)+(m:Int)*1).toNat]?)=λm=>xs[i+m]? :=by
  funext m;have:((i:Int)+(m:Int)*1).toNat=i+m:=by lia
  rw[this]
 rw[e];have:=pick_run xs i k
 rw[List.filterMap_map]at this;have a:((λx=>xs[x]?)∘λx=>i+x)=λm=>xs[i+m]? :=rfl;rw[a]at this;rw[this]
def Q2{t c:Ub}{items:Array Ua}{j i:Ua}{lo hi:Option Int}{Q:Ua->Ae->Prop}(a:IsTup s.heap t items)(k:s.heap.IsSliceOf c j i .none)(l:IsPart j lo)(pu:IsPart i hi)(hw:¬(sIx items.size 0 lo=0/\sIx items.size items.size hi=items.size))(h:Q (.ref s.heap.objs.size) {s with heap:=s.heap.push {cls:=.type "tuple",data:=.seq ((items.toList.drop (sIx items.size 0 lo)).take (sIx items.size items.size hi-sIx items.size 0 lo)).toArray}})(hsz:items.size<=sizeLine):Ud (Uf prog w) A (Lk (.ref t) (.ref c)) Q E s:=by
 have b:sizeOk (.seq ((items.toList.drop (sIx items.size 0 lo)).take (sIx items.size items.size hi-sIx items.size 0 lo)).toArray):=by show((items.toList.drop (sIx items.size 0 lo)).take (sIx items.size items.size hi-sIx items.size 0 lo)).toArray.size<=sizeLine;rw[Aj,Cr,Qj,Gf];lia
 have o:sIx items.size items.size hi<=items.size:=eX _ _ (Aq _) hi;obtain⟨os,d,f,n⟩:=id k;have g:s.TypeIs (.ref c) "slice":=⟨os,d,f⟩;unfold Lk;try with_reducible refine Br ?_
 first|refine Ac (Ai ?_)|skip
 refine Ac (Ic a.typeIs (by decide) ?_);refine Ac (Cw (name:=Be "__getitem__") a.typeIs Ew
  (Es Ew a.typeIs entry_tuple_getitem ?_ (args_tuple_getitem _ _)))
 show Ud _ _ (Kj (.ref t)>>=_) _ _ s;refine Ac (tupleItemsOf_ a ?_);refine Ac (Kq g ?_);rw[if_pos (by decide)];refine Ac (WF k l pu ?_);have e:¬((((sIx items.size 0 lo:Nat):Int)==0&&(1:Int)==1&&(sIx items.size items.size hi-sIx items.size 0 lo)==items.size)=ba):=by intro q;rw[Af,Af]at q;have q1:((sIx items.size 0 lo:Nat):Int)=0:=eq_of_beq q.1.1;have q2:sIx items.size items.size hi-sIx items.size 0 lo=items.size:=eq_of_beq q.2;exact hw ⟨by lia,by lia⟩
 show Ud _ _ (if(((sIx items.size 0 lo:Nat):Int)==0&&(1:Int)==1&&(sIx items.size items.size hi-sIx items.size 0 lo)==items.size)=ba then _ else _) _ _ s;rw[if_neg e,fS]
 first
  |exact Ac (m:=Gc _) (Dq (Ai ⟨_,rfl,Ai h⟩) b)
  |exact Ac (m:=Gc _) (Dq (Ac (Ai (Ai ⟨_,rfl,Ai h⟩))) b)
  |exact Ac (Ac (m:=Gc _) (Dq (Ai (Ai ⟨_,rfl,Ai h⟩)) b))
  |exact Ac (Ac (m:=Gc _) (Dq (Ai ⟨_,rfl,Ai h⟩) b))
end
end HT
namespace L2
open PySem PySem.Spec PyProof.Rows
abbrev TO:=St->Hp->(Option Int->Hp->Prop)->Prop
def PO(X:Cx)(e:Option Uh)(t:TO):Prop:=
 ∀(aa:List (Ub×Ul)) (s:Ae) (σ:St) (H:Hp) (Q:Option Int->Hp->Prop),cM X aa σ H s->t σ H Q->
  Ud (Uf X.prog X.w) X.A (evalPart e X.env) (λu s'=>∃o H',cM X aa σ H' s'/\IsPart u o/\Q o H') X.xe s
def lD:TO:=λ_ H Q=>Q b4 H
def lY(t:TE):TO:=λσ H Q=>t σ H λx H1=>∃i,x=.int i/\Q (b3 i) H1
section
variable{X:Cx}{e:Uh}{te:TE}{lo hi:Option Uh}{tl th:TO}{pos p2:Pos}
def zEA:PO X b4 lD:=by intro aa s σ H Q I h;rw[Of];exact Ai ⟨b4,H,I,.none,h⟩
def oQ(h:PE X e te):PO X (b3 e) (lY te):=by intro aa s σ H Q I hw;rw[evalPart_some];refine ZT (h aa s σ H _ I hw) λu s1 ⟨x,H1,b,a,q1⟩=>?_;obtain⟨i,rfl,q⟩:=q1;obtain⟨t,rfl⟩:=a;exact⟨b3 i,H1,b,.int i t,q⟩
def SlR(X:Cx)(r:V->Option Int->Option Int->Hp->VK->Prop):Prop:=
 ∀(aa:List (Ub×Ul)) (s:Ae) (σ:St) (H:Hp) (x:V) (v b a:Ua) (lo hi:Option Int) (c:Ub) (Q:VK),cM X aa σ H s->b7 x v->s.heap.IsSliceOf c b a .none->IsPart b lo->IsPart a hi->r x lo hi H Q->
  ∃T id,typeLookup (.type T) "__getitem__"=pure (b3 (.builtin id))/\s.TypeIs v T/\Ud (Uf X.prog X.w) X.A (Lk v (.ref c)) (EP X aa σ Q) X.xe s
def SlR.or{r r':V->Option Int->Option Int->Hp->VK->Prop}(h:SlR X r)(h':SlR X r'):SlR X (λx lo hi H Q=>r x lo hi H Q∨r' x lo hi H Q):=by
 intro aa s σ H x v b a lo hi c Q I d f e pu q;rcases q with q|q
 ·exact h aa s σ H x v b a lo hi c Q I d f e pu q
 ·exact h' aa s σ H x v b a lo hi c Q I d f e pu q
def tSl(r:V->Option Int->Option Int->Hp->VK->Prop)(te:TE)(tl th:TO):TE:=λσ H Q=>te σ H λx H1=>tl σ H1 λl H2=>th σ H2 λu a=>r x l u a Q
def gZ{r:V->Option Int->Option Int->Hp->VK->Prop}(n:SlR X r)(p:PE X e te)(hl:PO X lo tl)(k:PO X hi th):PE X (.Subscript e (.Slice lo hi b4 p2) pos) (tSl r te tl th):=by intro aa s σ H Q I h;refine Subscript_ (ZT (p aa s σ H _ I h) λv s1 ⟨x,H1,C,i,q1⟩=>?_);refine wpAny_Slice (ZT (hl aa s1 σ H1 _ C q1) λd g ⟨l,H2,B,j,q2⟩=>ZT (k aa g σ H2 _ B q2) λc a ⟨u,f,z,pu,q3⟩=>?_);rw[Of];refine Ai ?_;have y:cM X aa σ f {a with heap:=a.heap.push {cls:=.type "slice",data:=.fields #[d,c,.none]}}:=z.kept (t':=a.toks) λb D q=>Ad _ q;obtain⟨T,id,t,m,o⟩:=n aa {a with heap:=a.heap.push {cls:=.type "slice",data:=.fields #[d,c,.none]}} σ f x v d c l u a.heap.objs.size Q y i (Tx ..) j pu q3;show Ud (Uf X.prog X.w) X.A (subscriptTail e (.Slice lo hi b4 p2) v (.ref a.heap.objs.size)) (EP X aa σ Q) X.xe {a with heap:=a.heap.push {cls:=.type "slice",data:=.fields #[d,c,.none]}};exact Sr (ops:=[.ref a.heap.objs.size,v]) m t o (by with_unfolding_all rfl)
def GW(xs:List V)(lo hi:Option Int):List V:=(xs.drop (HT.sIx xs.length 0 lo)).take (HT.sIx xs.length xs.length hi-HT.sIx xs.length 0 lo)
def PK(xs:List V)(lo hi:Option Int):(GW xs lo hi).length<=xs.length:=by unfold GW;rw[Cr,Qj];lia
def rSlT(K:Ah):V->Option Int->Option Int->Hp->VK->Prop:=λx lo hi H Q=>∃a xs,x=.ref a/\WS K H a xs∧
 ¬(HT.sIx xs.length 0 lo=0/\HT.sIx xs.length xs.length hi=xs.length)/\∀p,H p=b4->Q (.ref p) (upd H p (.tup (GW xs lo hi)))
def zHC:SlR X (rSlT X.K):=by
 intro aa s σ H x v k j lo hi l Q I e i f pu h;obtain⟨a,xs,rfl,g,hw,q⟩:=h;cases e;obtain⟨its,r,d,hz⟩:=I.tuple g;have c:its.toArray.size=xs.length:=by rw[Aj];exact r.length.symm
 refine⟨"tuple",_,PyProof.Rows.slot_tuple_getitem.lookup,d.typeIs,?_⟩;refine HT.Q2 d i f pu (by rw[c];exact hw) ?_ (by rw[c];exact hz);rw[c];refine⟨.ref s.heap.objs.size,_,I.laid (t':=s.toks) (o:=.tup (GW xs lo hi)) (λb m q=>Ad _ q) (Aq _) ?_,rfl,q _ (I.hok.fresh (Aq _))⟩;exact⟨Fo (PK xs lo hi) hz,_,(r.drop (HT.sIx xs.length 0 lo)).take (HT.sIx xs.length xs.length hi-HT.sIx xs.length 0 lo),Jp _ _⟩
def bX.nil_iff{xs:List V}{a:List Ua}(r:bX xs a):a=[]↔xs=[]:=by
 cases r with
 |nil=>simp
 |cons _ _=>simp
end
noncomputable def BC(n:Nat)(i:Int):Option Nat:=if 0<=i then(if i<n then b3 i.toNat else b4)else if -(n:Int)<=i then b3 (i+n).toNat else b4
def UA{α:Type}(xs:List α)(i:Int):Option α:=(BC xs.length i).bind λj=>xs[j]?
def DJ{n:Nat}{i:Int}{j:Nat}(h:BC n i=b3 j):seqIndex? i n=b3 j/\j<n/\ -(n:Int)<=i/\i<n:=by
 unfold BC at h;by_cases a:0<=i
 ·rw[if_pos a]at h
  by_cases h1:i<n
  ·rw[if_pos h1]at h
   have e:i.toNat=j:=Cg h;exact⟨by rw[Rg a h1,e],by lia,by lia,h1⟩
  ·rw[if_neg h1]at h;cases h
 ·rw[if_neg a]at h
  by_cases h1: -(n:Int)<=i
  ·rw[if_pos h1]at h
   have e:(i+n).toNat=j:=Cg h;exact⟨by rw[Qc (by lia) h1,e],by lia,h1,by lia⟩
  ·rw[if_neg h1]at h;cases h
def JI{α:Type}{xs:List α}{i:Int}{v:α}(h:UA xs i=b3 v):∃j,seqIndex? i xs.length=b3 j/\xs[j]?=b3 v/\j<xs.length/\ -(xs.length:Int)<=i/\i<xs.length:=by
 unfold UA at h;cases e:BC xs.length i with
 |none=>rw[e]at h;cases h
 |some j=>
  rw[e]at h;obtain⟨h1,h2,b,a⟩:=DJ e;exact⟨j,h1,h,h2,b,a⟩
def QU{α:Type}(xs:List α)(v:α):UA (xs++[v]) (-1)=b3 v:=by
 have hl:(xs++[v]).length=xs.length+1:=by simp
 have e:BC (xs++[v]).length (-1)=b3 xs.length:=by unfold BC;rw[hl,if_neg (by decide),if_pos (by lia)];congr 1;lia
 unfold UA;rw[e];show(xs++[v])[xs.length]?=b3 v;simp
def W7(b:Uh):Prop:=∀o i,subscripted b bb o i=operate [o,i] (Lk o i)
def CY(X:Cx)(r:R2):Prop:=
 ∀(value a:Uh) (aa:List (Ub×Ul)) (s:Ae) (σ:St) (H:Hp) (x y:V) (v u:Ua) (Q:VK),cM X aa σ H s->b7 x v->b7 y u->r x y H Q->
  subscripted a bb v u=operate [v,u] (Lk v u)->Ud (Uf X.prog X.w) X.A (subscriptTail value a v u) (EP X aa σ Q) X.xe s
def MtR(X:Cx)(id:String)(r:V->List V->Hp->VK->Prop):Prop:=
 ∀(aa:List (Ub×Ul)) (s:Ae) (σ:St) (H:Hp) (x:V) (xs:List V) (v:Ua) (a:List Ua) (Q:VK),cM X aa σ H s->b7 x v->bX xs a->r x xs H Q->
  Ud (Uf X.prog X.w) X.A (call (.builtin id) (v::a)) (EP X aa σ Q) X.xe s
section
variable{X:Cx}{a b:Uh}{ta tb:TE}{pos:Pos}
def CY.or{r r':R2}(h:CY X r)(h':CY X r'):CY X (λx y H Q=>r x y H Q∨r' x y H Q):=by
 intro value a aa s σ H x y v u Q I c b q d;rcases q with q|q
 ·exact h value a aa s σ H x y v u Q I c b q d
 ·exact h' value a aa s σ H x y v u Q I c b q d
def NW{r:R2}(g:CY X r)(j:PE X a ta)(i:PE X b tb)(f:W7 b):PE X (.Subscript a b pos) (tOp r ta tb):=by intro aa s σ H Q I h;exact Subscript_ (binT j i I h λv u c x y H2 k e d q=>g a b aa c σ H2 x y v u Q k e d q (f _ _))
def rIxL(K:Ah):R2:=λx y H Q=>∃p xs i v,x=.ref p/\y=.int i/\X9 K H p xs/\UA xs i=b3 v/\Q v H
def rIxT(K:Ah):R2:=λx y H Q=>∃p xs i v,x=.ref p/\y=.int i/\WS K H p xs/\UA xs i=b3 v/\Q v H
def rIxS:R2:=λx y H Q=>∃z i c,x=.str z/\y=.int i/\z.length<=sizeLine/\UA z.cps.toList i=b3 c/\Q (.str ⟨#[c]⟩) H
def DK:CY X (rIxL X.K):=by
 intro value b aa s σ H x y v u Q I m l h f;obtain⟨p,xs,i,z,rfl,rfl,n,o,q⟩:=h;cases m;obtain⟨t,rfl⟩:=l;obtain⟨its,r,d,hz⟩:=I.list n;obtain⟨j,h1,h2,D,B,A⟩:=JI o;obtain⟨w,k,c⟩:=r.get h2;have hl:=r.length;have C:=QB;have a:EP X aa σ Q w s:=⟨z,H,I,c,q⟩;by_cases g:0<=i
 ·have e:i.toNat=j:=by rw[Rg g A]at h1;exact Cg h1
  exact item_listR d.isList g (by lia) (by rw[e];simpa using k) a f
 ·have e:(i+(its.toArray.size:Int)).toNat=j:=by rw[Qc (by lia) B]at h1;rw[Aj,<- hl];exact Cg h1
  exact Me (x:=w) d.isList.typeIs slot_list_getitem.lookup
   (wpAny_getItem_list_neg (Q:=λr s'=>r=w/\EP X aa σ Q r s') d.isList (by lia) (by rw[Aj]<;>lia) (by lia) (by rw[e];simpa using k) ⟨rfl,a⟩) f
def zJF:CY X (rIxT X.K):=by
 intro value a aa s σ H x y v u Q I f e h g;obtain⟨p,xs,i,z,rfl,rfl,k,l,q⟩:=h;cases f;obtain⟨t,rfl⟩:=e;obtain⟨its,r,d,hz⟩:=I.tuple k;obtain⟨j,h1,h2,B,A,o⟩:=JI l;obtain⟨w,m,b⟩:=r.get h2;have hl:=r.length;have n:=QB;have c:EP X aa σ Q w s:=⟨z,H,I,b,q⟩;exact Me (x:=w) d.typeIs slot_tuple_getitem.lookup
  (getItem_tuple (j:=j) (Q:=λr s'=>r=w/\EP X aa σ Q r s') d (by lia) (by lia) (by rw[Aj,<-hl];exact h1) (by simpa using m) ⟨rfl,c⟩) g
def dP:CY X rIxS:=by
 intro value a aa s σ H x y v u Q I d b h e;obtain⟨z,i,c,rfl,rfl,hz,f,q⟩:=h;obtain⟨t,rfl⟩:=d;obtain⟨t',rfl⟩:=b;obtain⟨j,h1,h2,o,k,g⟩:=JI f;have hl:z.cps.toList.length=z.length:=by simp[Str.length]
 rw[hl]at h1 k g;have n:=QB;exact Sr (typeIs_str s z t) slot_str_getitem.lookup (getItem_str (c:=c) (by have m:decide (i< -(2 ^ 63:Int))=bb:=decide_eq_false (by lia);have l:decide (i≥2 ^ 63)=bb:=decide_eq_false (by lia);rw[m,l,Ss]) (by rw[h1];simpa using h2) ⟨.str ⟨#[c]⟩,H,I.tok _,⟨_,rfl⟩,q⟩) e
def rIx(K:Ah):R2:=λx y H Q=>rIxL K x y H Q∨rIxT K x y H Q∨rIxS x y H Q
def zJH:CY X (rIx X.K):=DK.or (zJF.or dP)
def FH(its:List Ua)(n j:Nat)(u:Ua):Dg (·.setIfInBounds j u) {cls:=.type "list",data:=.seq its.toArray n}={cls:=.type "list",data:=.seq (its.set j u).toArray n}:=by simp[Dg]
def KJ(lo hi:Option Int)(n:Nat):(Hd lo hi b4 n).1=((HT.sIx n 0 lo:Nat):Int)/\(Hd lo hi b4 n).2.1=((HT.sIx n n hi:Nat):Int)/\(Hd lo hi b4 n).2.2=1:=by
 refine⟨?_,?_,rfl⟩
 ·cases lo with
  |none=>simp[Hd,HT.sIx]
  |some i=>
   simp only[Hd,HT.sIx,Qk,show(1:Int)>0 by decide,if_true];by_cases h:i<0
   ·simp only[h,if_true]<;>lia
   ·simp only[h,if_false]<;>lia
 ·cases hi with
  |none=>simp[Hd,HT.sIx]
  |some i=>
   simp only[Hd,HT.sIx,Qk,show(1:Int)>0 by decide,if_true];by_cases h:i<0
   ·simp only[h,if_true]<;>lia
   ·simp only[h,if_false]<;>lia
def MW(its:List Ua)(lo hi:Option Int):slicePick its.toArray lo hi b4=((its.drop (HT.sIx its.length 0 lo)).take (HT.sIx its.length its.length hi-HT.sIx its.length 0 lo)).toArray:=by obtain⟨h1,h2,a⟩:=KJ lo hi its.toArray.size;unfold slicePick;rw[h1,h2,a];simp only[sliceRange_one,pick_run,Aj]<;>rfl
def rSlL(K:Ah):V->Option Int->Option Int->Hp->VK->Prop:=λx lo hi H Q=>∃a xs,x=.ref a/\X9 K H a xs/\∀p,H p=b4->Q (.ref p) (upd H p (.lst (GW xs lo hi)))
def oK:SlR X (rSlL X.K):=by intro aa s σ H x v k j lo hi l Q I d g e pu h;obtain⟨a,xs,rfl,f,q⟩:=h;cases d;obtain⟨its,r,c,hz⟩:=I.list f;have i:=r.length;refine⟨"list",_,slot_list_getitem.lookup,c.isList.typeIs,?_⟩;refine wpAny_getItem_list_slice c.isList g e pu .none (by simp) ?_ (by rw[Aj]<;>lia);rw[MW,<-i];refine⟨.ref s.heap.objs.size,_,I.laid (t':=s.toks) (o:=.lst (GW xs lo hi)) (λb m q=>Ad _ q) (Aq _) ?_,rfl,q _ (I.hok.fresh (Aq _))⟩;exact⟨Fo (PK xs lo hi) hz,_,0,(r.drop (HT.sIx xs.length 0 lo)).take (HT.sIx xs.length xs.length hi-HT.sIx xs.length 0 lo),As _ rfl⟩
def JK:aD X (.builtin "len") (λxs H Q=>∃p ys,xs=[.ref p]/\(X9 X.K H p ys∨WS X.K H p ys)/\Q (.int ys.length) H):=by
 intro aa s σ H xs e Q I r h;obtain⟨p,ys,rfl,a,q⟩:=h;obtain⟨u,rfl,d⟩:=SZ r;cases d;have f:=QB;rcases a with a|a
 ·obtain⟨its,r',b,hz⟩:=I.list a
  have c:=r'.length;exact Calls.call_len_list b.isList (by simp only[Aj]<;>lia) ⟨.int ys.length,H,I.tok _,⟨s.toks+1,by rw[Aj,c]⟩,q⟩
 ·obtain⟨its,r',b,hz⟩:=I.tuple a
  have c:=r'.length;exact len_tuple b (by simp only[Aj]<;>lia) ⟨.int ys.length,H,I.tok _,⟨s.toks+1,by rw[Aj,c]⟩,q⟩
def JL:aD X (.builtin "len") (λxs H Q=>∃z,xs=[.str z]/\z.length<=sizeLine/\Q (.int z.length) H):=by intro aa s σ H xs a Q I r h;obtain⟨z,rfl,hz,q⟩:=h;obtain⟨u,rfl,t,rfl⟩:=SZ r;have b:=QB;exact len_str (by lia) ⟨.int z.length,H,I.tok _,⟨_,rfl⟩,q⟩
def aD.or{f:Ua}{r r':List V->Hp->VK->Prop}(h:aD X f r)(h':aD X f r'):aD X f (λxs H Q=>r xs H Q∨r' xs H Q):=by
 intro aa s σ H xs a Q I b q;rcases q with q|q
 ·exact h aa s σ H xs a Q I b q
 ·exact h' aa s σ H xs a Q I b q
def JM:aD X (.type "list") (λxs H Q=>∃p ys,xs=[.ref p]/\(X9 X.K H p ys∨WS X.K H p ys)/\∀l,H l=b4->Q (.ref l) (upd H l (.lst ys))):=by
 intro aa s σ H xs k Q I r h;obtain⟨p,ys,rfl,c,q⟩:=h;obtain⟨u,rfl,i⟩:=SZ r;cases i;have d:∀(its:List Ua),bX ys its->ys.length<=sizeLine->∀(h':Uk) (a:Nat),(∀b o',s.heap.get? b=b3 o'->h'.get? b=b3 o')->
   h'.get? s.heap.objs.size=b3 {cls:=.type "list",dict:=b4,data:=.seq its.toArray a,slots:= #[]}->EP X aa σ Q (.ref s.heap.objs.size) {s with heap:=h'}:=λits r' hz h' a kp e=>
  ⟨.ref s.heap.objs.size,_,I.laid (t':=s.toks) kp (Aq _) (show aG X.prog X.w _ h' _ (.lst ys) from⟨hz,its,a,r',e⟩),rfl,q _ (I.hok.fresh (Aq _))⟩
 rcases c with c|c
 ·obtain⟨its,r',f,hz⟩:=I.list c
  have j:=r'.length;obtain⟨o,g,hc,n,hd⟩:=f.isList;exact call_list_seq p (.inl rfl) g hc hd (λh' a kp e=>d its r' hz h' a kp e) (by simp only[Aj]<;>lia)
 ·obtain⟨its,r',f,hz⟩:=I.tuple c
  have j:=r'.length;obtain⟨o,g,hc,n,hd⟩:=f;exact call_list_seq p (.inr rfl) g hc hd (λh' a kp e=>d its r' hz h' a kp e) (by simp only[Aj]<;>lia)
def MQ:aD X (.type "tuple") (λxs H Q=>∃p ys,xs=[.ref p]/\((X9 X.K H p ys/\∀l,H l=b4->Q (.ref l) (upd H l (.tup ys)))∨(WS X.K H p ys/\Q (.ref p) H))):=by
 intro aa s σ H xs i Q I r h;obtain⟨p,ys,rfl,h⟩:=h;obtain⟨u,rfl,f⟩:=SZ r;cases f;rcases h with⟨c,q⟩|⟨c,q⟩
 ·obtain⟨its,r',a,hz⟩:=I.list c
  have j:=r'.length;refine call_tuple_list a.isList (λh' kp=>?_) (by simp only[Aj]<;>lia);have d:cM X aa σ H {s with heap:=h'}:=I.kept (t':=s.toks) kp;have g:cM X aa σ (upd H h'.objs.size (.tup ys)) {s with heap:=h'.push {cls:=.type "tuple",data:=.seq its.toArray}}:=
   d.laid (t':=s.toks) (λb o e=>Ad _ e) (Aq _) (show aG X.prog X.w _ _ _ (.tup ys) from⟨hz,its,r',Jp _ _⟩)
  exact⟨.ref h'.objs.size,_,g,rfl,q _ (d.hok.fresh (Aq _))⟩
 ·obtain⟨its,r',a,hz⟩:=I.tuple c
  exact call_tuple_same a ⟨.ref p,H,I,rfl,q⟩
def tyV(K:Ah)(T:String)(x:V)(H:Hp):Prop:=match x with
 |.str _=>T= "str"
 |.int _=>T= "int"
 | .ref p => (T = "list" /\ ∃ xs,X9 K H p xs) ∨ (T = "tuple" /\ ∃ o,K.lookup p = b3 o /\ o.cls = .type "tuple" /\ o.dict = b4) ∨
   (T= "dict" /\((∃kvs,H p=b3 (.dK kvs))∨∃kvs,H p=b3 (.dT kvs)))∨(T= "set" /\∃S n,H p=b3 (.set S n))
 |_=>False
def nR{aa:List (Ub×Ul)}{σ:St}{H:Hp}{s:Ae}{T:String}{x:V}{v:Ua}(I:cM X aa σ H s)(r:b7 x v)(ty:tyV X.K T x H):s.TypeIs v T/\∀a,v=.ref a->∃f,s.heap.get? a=b3 f/\f.dict=b4:=by
 cases x with
 |str z=>
  obtain⟨t,rfl⟩:=r;cases (show T= "str" from ty);exact⟨typeIs_str s z t,λ_ e=>nomatch e⟩
 |int i=>
  obtain⟨t,rfl⟩:=r;cases (show T= "int" from ty);exact⟨Mx s i t,λ_ e=>nomatch e⟩
 |ref p=>
  cases r;rcases ty with⟨rfl,xs,g⟩|⟨rfl,o,hk,hc,hd⟩|⟨rfl,hk⟩|⟨rfl,S,n,hk⟩
  ·obtain⟨its,_,d,_⟩:=I.list g
   refine⟨d.isList.typeIs,λa e=>?_⟩;cases e;obtain⟨o,n,e,c,hd,_⟩:=d;exact⟨o,e,hd⟩
  ·refine ⟨⟨o,I.kIn p o hk,hc⟩,λa e => ?_⟩
   cases e;exact⟨o,I.kIn _ o hk,hd⟩
  ·have z: ∃o,s.heap.get? p=b3 o/\o.ExactDict:=by
    rcases hk with⟨kvs,hk⟩|⟨kvs,hk⟩
    ·obtain⟨_,_,_,_,o,_,_,e,ex,_⟩:=I.hok p _ hk
     exact⟨o,e,ex⟩
    ·obtain⟨_,_,_,_,o,_,_,e,ex,_⟩:=I.hok p _ hk
     exact⟨o,e,ex⟩
   obtain⟨o,e,ex⟩:=z;refine⟨⟨o,e,ex.1⟩,λa b=>?_⟩;cases b;exact⟨o,e,ex.2.1⟩
  ·obtain⟨o,_,_,_,e,ex,_⟩:=I.hok p _ hk
   refine⟨⟨o,e,ex.1⟩,λa b=>?_⟩;cases b;exact⟨o,e,ex.2.1⟩
 |_=>exact Gv ty
def tBM(K:Ah)(T:String)(r:V->List V->Hp->VK->Prop)(to:TE)(t:TA):TE:=λσ H Q=>to σ H λx H1=>tyV K T x H1/\t σ H1 λxs H2=>r x xs H2 Q
variable{o e:Uh}{es:List Uh}{to:TE}{t:TA}{name:Ue}{ao ae:Pos}{T id:String}{r:V->List V->Hp->VK->Prop}
def fK(pa:PlainAttrs T)(slot:Slot T name id)(a:Qd (.builtin id)=pure (.type "method_descriptor"))(l:MtR X id r)(k:PE X o to)(m:PA X (e::es) t)(p:Gh o name X.env (eval o X.env)=eval o X.env:=by rfl)(n:((Fa ae (Uc (e::es) X.env)).all (λx=> !x.1)&&(Ll ae (He [] X.env)).all (λx=>x.1.isSome)&&decide ((e::es).length+([]:List Hf).length+(if([]:List Hf).isEmpty then 0 else 1)<30))=ba:=by rfl)(q:(ao.endLine==ae.line)=ba:=by rfl)(j:Uc (e::es) X.env=(bb,eval e X.env)::Uc es X.env:=by rfl)(u:(Fa ae (Uc es X.env)).any (·.1)=bb:=by rfl):PE X (.Call (.Attribute o name ao) (e::es) [] ae) (tBM X.K T r to t):=by intro aa s σ H Q I h;refine wpAny_Call_method_late p n q rfl (ZT (k aa s σ H _ I h) λv s1 ⟨x,H1,d,b,ty,q1⟩=>?_);obtain⟨h1,h2⟩:=nR d b ty;refine⟨T,id,pa,slot,a,h1,h2,?_⟩;have c:=m ae aa s1 σ H1 _ d q1;rw[j]at c⊢;refine Go (by show(bb || (Fa ae (Uc es X.env)).any (·.1))=bb;rw[u]<;>rfl) (Fy ?_);exact ZT c λf g ⟨vs,H2,w,i,q2⟩=>l aa g σ H2 x vs v f Q w b i q2
end
def MtM(X:Cx)(id:String)(r:V->List V->Hp->VK->Prop):Prop:=
 ∀(aa:List (Ub×Ul)) (s:Ae) (σ:St) (H:Hp) (x:V) (xs:List V) (v:Ua) (a:List Ua) (Q:VK),cM X aa σ H s->b7 x v->bX xs a->r x xs H Q->
  Ud (Uf X.prog X.w) X.A (call (.builtin id) (v::a)) (EP X aa σ Q) X.xe s
theorem bX.one:∀{x:V}{a:List Ua},bX [x] a->∃u,a=[u]/\b7 x u
 |_,_,.cons r .nil=>⟨_,rfl,r⟩
theorem bX.eraseIdx:∀{xs:List V}{a:List Ua}(i:Nat),bX xs a->bX (xs.eraseIdx i) (a.eraseIdx i)
 |_,_,_,.nil=>.nil
 |_,_,0,.cons _ t=>t
 |_,_,i+1,.cons r t=>.cons r (bX.eraseIdx i t)
section
variable{X:Cx}{aa:List (Ub×Ul)}{σ:St}{H:Hp}{s:Ae}{l b:Ub}{xs ys zs:List V}
def cM.lset{its its':List Ua}{n:Nat}{f:Array Ua->Array Ua}{t':Nat}(I:cM X aa σ H s)(g:H l=b3 (.lst xs))(e:s.heap.get? l=b3 {cls:=.type "list",data:=.seq its.toArray n})(c:f its.toArray=its'.toArray)(a:bX ys its')(hz:ys.length<=sizeLine):cM X aa σ (upd H l (.lst ys)) {s with heap:=s.heap.update l (Dg f),toks:=t'}:=by have q:=PySem.IsL.update e f;rw[c]at q;refine I.write (x:=l) (e:=l) (by rw[g];exact trivial) (.inl rfl) (λh u d b=>(Eu s.heap (Dg f) (Di d)).trans b) ⟨_,q⟩ ?_;exact⟨hz,its',_,a,q⟩
def cM.lnew{its:List Ua}{t':Nat}(I:cM X aa σ H s)(a:bX ys its)(hz:ys.length<=sizeLine):cM X aa σ (upd H s.heap.objs.size (.lst ys)) {s with heap:=s.heap.push {cls:=.type "list",data:=.seq its.toArray},toks:=t'}:=
 I.laid (λ_ _ q=>Ad _ q) (Aq _) ⟨hz,its,0,a,As _ rfl⟩
def cM.fresh(I:cM X aa σ H s):H s.heap.objs.size=b4:=I.hok.fresh (Aq _)
def cM.lstM(I:cM X aa σ H s)(a:H l=b3 (.lst xs)):xs.length<=sizeLine/\∃(its:List Ua) (n:Nat),bX xs its/\xs.length=its.length/\s.heap.get? l=b3 {cls:=.type "list",data:=.seq its.toArray n}:=by obtain⟨z,its,n,r,e⟩:=I.hok l _ a;exact⟨z,its,n,r,r.length,e⟩
def dF{n:Nat}(h:n<=sizeLine):Ea n=bb:=by unfold Ea;exact decide_eq_false (by lia)
end
section
variable{X:Cx}
def D5:V->List V->Hp->VK->Prop:=λx vs H Q=>∃l xs y,x=.ref l/\vs=[y]/\H l=b3 (.lst xs)/\xs.length<sizeLine/\Q .non (upd H l (.lst (xs++[y])))
def aR:MtM X "list.append" D5:=by intro aa s σ H x vs v f Q I b c h;obtain⟨l,xs,y,rfl,rfl,a,hz,q⟩:=h;cases b;obtain⟨u,rfl,d⟩:=c.one;obtain⟨z,its,n,r,hl,e⟩:=I.lstM a;refine Fj Og ⟨_,e,rfl⟩ Np (Na _ _) (Pd l its.toArray n u (by rw[Aj];lia)) ⟨e,?_⟩;refine⟨.non,_,I.lset (its':=its++[u]) a e (by simp) (r.append (.cons d .nil)) ?_,rfl,q⟩;rw[Bv,Eb];lia
end
section
variable{prog:Aw}{w:Uj}{A:Cb}{E:Ua->Ae->Prop}{s:Ae}
set_option maxRecDepth 100000 in
end
section
variable{κ:Type}[DecidableEq κ]
noncomputable def TH(kvs:List (κ×V))(k:κ):Option V:=(kvs.find? λa=>decide (a.1=k)).map (·.2)
noncomputable def XN(kvs:List (κ×V))(k:κ)(v:V):List (κ×V):=
 if(kvs.any λa=>decide (a.1=k))=ba then kvs.map (λa=>if a.1=k then(a.1,v)else a)else kvs++[(k,v)]
def RK{p:κ×V}{r:List (κ×V)}{k:κ}(e:p.1=k):TH (p::r) k=b3 p.2:=by simp[TH,Gs,e]
def UY{p:κ×V}{r:List (κ×V)}{k:κ}(e:¬p.1=k):TH (p::r) k=TH r k:=by simp[TH,Gs,e]
theorem OE(k:κ):∀kvs:List (κ×V),(kvs.any λa=>decide (a.1=k))=(TH kvs k).isSome
 |[]=>rfl
 |p::r=>by
  rw[Jb];by_cases e:p.1=k
  ·simp only[RK e,decide_eq_true e,Bool.true_or,Oh]
  ·rw[UY e,decide_eq_false e,Su];exact OE k r
def PN(kvs:List (κ×V))(k:κ)(v:V):(XN kvs k v).length<=kvs.length+1:=by
 unfold XN;split
 ·rw[Ci];lia
 ·rw[Bv,Bw,Mo];lia
def jE{kvs:List (κ×V)}{k:κ}(v:V)(h:TH kvs k=b4):XN kvs k v=kvs++[(k,v)]:=by unfold XN;rw[OE,h];exact if_neg (by decide)
def PZ.isSome_eq{o:Option V}{u:Option Ua}(r:PZ o u):o.isSome=u.isSome:=by
 cases o with
 |none=>cases u with
  |none=>rfl
  |some _=>exact(show False from r).elim
 |some _=>cases u with
  |none=>exact(show False from r).elim
  |some _=>rfl
def PZ.getD{o:Option V}{u:Option Ua}{d:V}{d':Ua}(r:PZ o u)(a:b7 d d'):b7 (o.getD d) (u.getD d'):=by
 cases o with
 |none=>cases u with
  |none=>exact a
  |some _=>exact(show False from r).elim
 |some _=>cases u with
  |none=>exact(show False from r).elim
  |some _=>exact r
def KV.val{kvs:List (κ×V)}{vs:List (κ×Ua)}(r:KV kvs vs)(k:κ):PZ (TH kvs k) (Pe vs k):=by
 unfold KV at r;induction r with
 |nil=>exact True.intro
 | @cons p q ps a h t d=>
  obtain⟨h1,h2⟩:=h;by_cases e:p.1=k
  ·have c:q.1=k:=h1.symm.trans e
   have b:Pe (q::a) k=b3 q.2:=by simp[Pe,Gs,c]
   rw[RK e,b];exact h2
  ·have c : ¬ q.1 = k := λz => e (h1.trans z)
   have b:Pe (q::a) k=Pe a k:=by simp[Pe,Gs,c]
   rw[UY e,b];exact d
def KV.any{kvs:List (κ×V)}{vs:List (κ×Ua)}(r:KV kvs vs)(k:κ):(kvs.any λa=>decide (a.1=k))=vs.any λa=>decide (a.1=k):=by
 unfold KV at r;induction r with
 |nil=>rfl
 |cons h t b=>rw[Jb,Jb,b,h.1]
def KV.repl{kvs:List (κ×V)}{vs:List (κ×Ua)}(r:KV kvs vs)(k:κ){y:V}{u:Ua}(b:b7 y u):KV (kvs.map λa=>if a.1=k then(a.1,y)else a) (vs.map λa=>if a.1=k then(a.1,u)else a):=by
 unfold KV at r⊢;induction r with
 |nil=>exact .nil
 | @cons p q ps d h t c=>
  rw[Ba,Ba];refine .cons ?_ c;obtain⟨h1,h2⟩:=h;by_cases e:p.1=k
  ·rw[if_pos e,if_pos (h1.symm.trans e)];exact⟨h1,b⟩
  ·rw[if_neg e,if_neg (λz=>e (h1.trans z))];exact⟨h1,h2⟩
def KV.put{kvs:List (κ×V)}{vs:List (κ×Ua)}(r:KV kvs vs)(k:κ){y:V}{u:Ua}(a:b7 y u):KV (XN kvs k y) (Tk vs k u):=by
 unfold XN Tk;rw[r.any k];by_cases e:(vs.any λb=>decide (b.1=k))=ba
 ·rw[if_pos e,if_pos e];exact r.repl k a
 ·rw[if_neg e,if_neg e];exact Tv r ⟨rfl,a⟩
def KV.length{kvs:List (κ×V)}{vs:List (κ×Ua)}(r:KV kvs vs):kvs.length=vs.length:=Oa r
end
def LL{P:Aw}{w:Uj}{k:aY}{u:Ua}(r:b7 (kV k) u):(a9 P w).is k u=ba:=by
 cases k with
 |inl i=>obtain⟨t,e⟩:=(show∃t,u=Qz i t from r);subst e;exact HE P w i t
 |inr x=>obtain⟨t,e⟩:=(show∃t,u=Ra x t from r);subst e;exact HF P w x t
theorem LJ{P:Aw}{w:Uj}:∀{ks:List aY}{a:List Ua},bX (ks.map kV) a->ItemsAre (a9 P w) ks a
 |[],_,r=>by rw[Et]at r;cases r;exact .nil
 |k::ks,_,r=>by
  rw[Ba]at r;cases r with
  |cons h t=>exact .cons (LL h) (LJ t)
abbrev KT(H:Hp):List (List aY×V)->List (List aY×Ub×Ua)->Prop:=Paired λp q=>p.1=q.1/\H q.2.1=b3 (.tup (p.1.map kV))/\b7 p.2 q.2.2
def KT.val{H:Hp}{kvs:List (List aY×V)}{xs:List (List aY×Ub×Ua)}(r:KT H kvs xs)(k:List aY):PZ (TH kvs k) ((atKey xs k).map (·.2)):=by
 induction r with
 |nil=>exact True.intro
 | @cons p q ps a h t d=>
  obtain⟨h1,_,h2⟩:=h;by_cases e:p.1=k
  ·have c:q.1=k:=h1.symm.trans e
   have b:atKey (q::a) k=b3 q.2:=by simp[atKey,Gs,c]
   rw[RK e,b];exact h2
  ·have c : ¬ q.1 = k := λz => e (h1.trans z)
   have b:atKey (q::a) k=atKey a k:=by simp[atKey,Gs,c]
   rw[UY e,b];exact d
def KT.repl{H:Hp}{kvs:List (List aY×V)}{xs:List (List aY×Ub×Ua)}(r:KT H kvs xs)(k:List aY){y:V}{u:Ua}(b:b7 y u):KT H (kvs.map λa=>if a.1=k then(a.1,y)else a) (xs.map (putAt k u)):=by
 induction r with
 |nil=>exact .nil
 | @cons p q ps f h t c=>
  rw[Ba,Ba];refine .cons ?_ c;obtain⟨h1,h2,d⟩:=h;unfold putAt;by_cases e:p.1=k
  ·rw[if_pos e,if_pos (h1.symm.trans e)];exact⟨h1,h2,b⟩
  ·rw[if_neg e,if_neg (λz=>e (h1.trans z))];exact⟨h1,h2,d⟩
def KT.put{H:Hp}{kvs:List (List aY×V)}{xs:List (List aY×Ub×Ua)}(r:KT H kvs xs)(k:List aY){b:Ub}{y:V}{u:Ua}(d:H b=b3 (.tup (k.map kV)))(a:b7 y u):KT H (XN kvs k y) (storedH xs k b u):=by
 have e:(kvs.any λc=>decide (c.1=k))=(atKey xs k).isSome:=by rw[OE,(r.val k).isSome_eq,Option.isSome_map]
 unfold XN storedH;rw[e];by_cases q:(atKey xs k).isSome=ba
 ·rw[if_pos q,if_pos q];exact r.repl k a
 ·rw[if_neg q,if_neg q];exact Tv r ⟨rfl,d,a⟩
def KT.keeps{H H':Hp}{kvs:List (List aY×V)}{xs:List (List aY×Ub×Ua)}(r:KT H kvs xs)(a:∀b ys,H b=b3 (.tup ys)->H' b=b3 (.tup ys)):KT H' kvs xs:=
 Paired.mapP r λ_ _ z=>⟨z.1,a _ _ z.2.1,z.2.2⟩
section
variable{P:Aw}{w:Uj}{H:Hp}{h:Uk}{a:Ub}
def Ww{u:HO}(ok:U2 P w H h)(e:Rd H a u):aG P w H h a u:=e.ok ok
def K6{kvs:List (aY×V)}(ok:U2 P w H h)(e:Rd H a (.dK kvs)):kvs.length<=sizeLine/\(a==Ga)=bb/\∃vs,KV kvs vs/\h.DictOf (a9 P w) a vs:=
 show aG P w H h a (.dK kvs) from Ww ok e
def gV{kvs:List (aY×V)}(ok:U2 P w H h)(e:H a=b3 (.dK kvs)):kvs.length<=sizeLine/\(a==Ga)=bb/\∃vs,KV kvs vs/\h.DictOf (a9 P w) a vs:=K6 ok (Rd.of e)
def NO{ks:List aY}(ok:U2 P w H h)(e:H a=b3 (.tup (ks.map kV))):(tupleKind (a9 P w)).is h ks a:=by obtain⟨_,its,r,o,h1,h2,n,b⟩:=(show aG P w H h a (.tup (ks.map kV)) from ok a _ e);exact⟨o,its.toArray,n,h1,h2,b,by simpa using LJ r⟩
def K9{kvs:List (List aY×V)}(ok:U2 P w H h)(e:Rd H a (.dT kvs)):kvs.length<=sizeLine/\(a==Ga)=bb∧ ∃xs,KT H kvs xs/\h.DictOfH (tupleKind (a9 P w)) a xs:=by
 obtain⟨z,y,xs,r,o,es,j,h1,h2,i,g,f⟩:=(show aG P w H h a (.dT kvs) from Ww ok e);refine⟨z,y,xs,r,o,es,j,h1,h2,i,g,λx b=>?_,f⟩;have all:∀{l:List (List aY×V)}{m:List (List aY×Ub×Ua)},KT H l m->∀x∈m,(tupleKind (a9 P w)).is h x.1 x.2.1:=by
  intro l m q;induction q with
  |nil=>intro x b;exact nomatch b
  | @cons p q ps k c t d=>
   intro x b;rcases Ak.mp b with e|b
   ·subst e
    exact NO ok (by rw[<-c.1];exact c.2.1)
   ·exact d x b
 exact all r x b
def dO{kvs:List (List aY×V)}(ok:U2 P w H h)(e:H a=b3 (.dT kvs)):kvs.length<=sizeLine/\(a==Ga)=bb∧ ∃xs,KT H kvs xs/\h.DictOfH (tupleKind (a9 P w)) a xs:=K9 ok (Rd.of e)
end
def PX(H:Hp)(a:Ub)(y:V)(r:Option V):Prop:=
 (∃kvs k,Rd H a (.dK kvs)/\y=kV k/\r=TH kvs k)∨∃kvs k b,Rd H a (.dT kvs)/\y=.ref b/\H b=b3 (.tup (k.map kV))/\r=TH kvs k
def DPut(H:Hp)(a:Ub)(y v:V)(H':Hp):Prop:=
 (∃kvs k,H a=b3 (.dK kvs)/\y=kV k/\kvs.length<sizeLine/\H'=upd H a (.dK (XN kvs k v)))∨
 ∃kvs k b,H a=b3 (.dT kvs)/\y=.ref b/\H b=b3 (.tup (k.map kV))/\kvs.length<sizeLine/\H'=upd H a (.dT (XN kvs k v))
def PX.k{H:Hp}{a:Ub}{kvs:List (aY×V)}{k:aY}(e:H a=b3 (.dK kvs)):PX H a (kV k) (TH kvs k):=.inl ⟨kvs,k,Rd.of e,rfl,rfl⟩
def DPut.k{H:Hp}{a:Ub}{kvs:List (aY×V)}{k:aY}{v:V}(e:H a=b3 (.dK kvs))(hl:kvs.length<sizeLine):DPut H a (kV k) v (upd H a (.dK (XN kvs k v))):=.inl ⟨kvs,k,e,rfl,hl,rfl⟩
section
variable{X:Cx}{aa:List (Ub×Ul)}{σ:St}{H:Hp}{s:Ae}{a:Ub}{y v:V}{u r:Ua}{o:Option V}{A:Cb}{E:Ua->Ae->Prop}
def cM.big(I:cM X aa σ H s):Ga<s.heap.objs.size:=by have h:Ug<s.heap.objs.size:=(I.mod.glob.keeps I.bk).lt;exact Qe (by decide) h
def AX{Q:Ua->Ae->Prop}(n:A.units+1<cLine)(I:cM X aa σ H s)(g:PX H a y (b3 v))(m:b7 y u)(h:∀f s',cM X aa σ H s'->b7 v f->Q f s'):Ud (Uf X.prog X.w) A (Lk (.ref a) u) Q E s:=by
 rcases g with⟨kvs,k,e,j,l⟩|⟨kvs,k,b,e,j,r,l⟩
 ·subst j
  obtain⟨z,hd,vs,d,dd⟩:=K6 I.hok e;obtain⟨f,hw,c⟩:=PZ.some_of (v:=v) (o:=Pe vs k) (by rw[l];exact d.val k);exact wpAny_getItem_of (LL m) dd.mapOf hw (h f _ (I.tok _) c)
 ·subst j
  cases (show u=Bu b from m);obtain⟨z,hd,xs,d,dd⟩:=K9 I.hok e;obtain⟨f,hw,c⟩:=PZ.some_of (v:=v) (o:=(atKey xs k).map (·.2)) (by rw[l];exact d.val k);obtain⟨p,q,i⟩:=Ao.mp hw;refine wpAny_getItem_heap (Hq n) (NO I.hok r) dd q ?_;rw[i];exact h f _ (I.tok _) c
def C8{h':Uk}{t':Nat}{c:HO}(I:cM X aa σ H s)(d:Mut (H a))(f:Fp a s.heap h')(g:∃q,h'.get? a=b3 q)(new:aG X.prog X.w (upd H a c) h' a c):cM X aa σ (upd H a c) {s with heap:=h',toks:=t'}:=
 I.write (x:=a) (e:=a) d (.inl rfl) (λb q h z=>(f.2 b h).trans z) g new
def Vx{P:Aw}{w:Uj}{H':Hp}{h':Uk}{kvs:List (aY×V)}{vs:List (aY×Ua)}(z:kvs.length<=sizeLine)(hd:(a==Ga)=bb)(b:KV kvs vs)(dd:h'.DictOf (a9 P w) a vs):aG P w H' h' a (.dK kvs):=⟨z,hd,vs,b,dd⟩
def AY{H':Hp}{Q:Unit->Ae->Prop}(B:A.units+1<cLine)(I:cM X aa σ H s)(g:DPut H a y v H')(o:b7 y u)(p:b7 v r)(h:∀s',cM X aa σ H' s'->Q () s'):Ud (Uf X.prog X.w) A (Pa (.ref a) u r) Q E s:=by
 rcases g with⟨kvs,k,e,m,l,n⟩|⟨kvs,k,b,e,m,x,l,n⟩
 ·subst m n
  obtain⟨z,hd,vs,d,dd⟩:=gV I.hok e;have hz:vs.length<=sizeLine:=by rw[<-d.length];exact z
  have hl:(XN kvs k v).length<=sizeLine:=by have:=PN kvs k v;lia
  refine wpAny_setItem_pairs (hsz:=hz) (LL o) dd λh' f j=>h _ ?_;have C:∃q,h'.get? a=b3 q:=let ⟨q,_,_,i,_⟩:=f;⟨q,i⟩
  exact C8 I (by rw[e];exact True.intro) j C (Vx hl hd (d.put k p) f)
 ·subst m n
  cases (show u=Bu b from o);obtain⟨z,hd,xs,d,dd⟩:=dO I.hok e;have hz:xs.length<=sizeLine:=by rw[<-Oa d];exact z
  have hl:(XN kvs k v).length<=sizeLine:=by have:=PN kvs k v;lia
  refine wpAny_setItem_heap (hsz:=hz) (Hq B) (NO I.hok x) dd λh' f j=>h _ ?_;obtain⟨q,es,J,i,h2,G,F,_,D⟩:=f;refine C8 I (by rw[e];exact True.intro) j ⟨q,i⟩ ⟨hl,hd,_,(d.put k x p).keeps λc ys t=>?_,q,es,J,i,h2,G,F,D⟩;rw[cB (Q7 t e (λz=>nomatch z))];exact t
end
def GX{X:Cx}{aa:List (Ub×Ul)}{σ:St}{H:Hp}{s:Ae}{a:Ub}{y:V}{o:Option V}(I:cM X aa σ H s)(g:PX H a y o):s.TypeIs (.ref a) "dict":=by
 rcases g with⟨kvs,k,e,_,_⟩|⟨kvs,k,b,e,_,_,_⟩
 ·obtain⟨_,_,vs,_,dd⟩:=K6 I.hok e
  exact dd.typeIs
 ·obtain⟨_,_,xs,_,dd⟩:=K9 I.hok e
  exact dd.typeIs
def jD(td ty tv:TE):TS:=λD σ H=>tv σ H λv H1=>td σ H1 λx H2=>ty σ H2 λy c=>∃a b,x=.ref a/\DPut c a y v b/\D.nx σ b
section
variable{X:Cx}{o i e value:Uh}{pos ai du:Pos}{td ty tv:TE}
def qE(j:X.A.units+1<cLine)(l:PE X o td)(hi:PE X i ty)(f:PE X value tv)(k:Hk value (b3 (.Subscript o i ai)) pos.line X.env=pure bb):PS X (.Assign [.Subscript o i ai] value pos) (jD td ty tv):=by intro aa s σ H D I h;refine wpAny_Assign_Subscript (ZT (f aa s σ H _ I h) λr s1 ⟨v,H1,q,e,q1⟩=>ZT (l aa s1 σ H1 _ q q1) λu b ⟨x,H2,p,d,q2⟩=>ZT (hi aa b σ H2 _ p q2) λB z ⟨y,C,n,c,a,t,ex,g,q3⟩=>?_) k;subst ex;obtain rfl:u=Bu a:=d;exact AY j n g c e λw m=>⟨σ,t,m,q3⟩
end
def dM{P:Aw}{w:Uj}{H:Hp}(h:Uk)(a:Ga<h.objs.size):aG P w H (h.push {cls:=.type "dict",data:=.dict #[]}) h.objs.size (.dK []):=
 ⟨Ep _,beq_eq_false_iff_ne.mpr (Di (Bb a)),[],.nil,Rh h⟩
def pQ:TE:=λ_ H Q=>∀p,H p=b4->Q (.ref p) (upd H p (.dK []))
section
variable{X:Cx}{pos:Pos}
def HR:PE X (.Dict [] [] pos) pQ:=λaa s σ H Q I h=>
 wpAny_Dict_empty ⟨.ref s.heap.objs.size,_,I.laid (a:=s.heap.objs.size) (o:=.dK []) (t':=s.toks) (λ_ _ q=>Ad _ q) (Aq _) (dM s.heap I.big),rfl,h _ (I.hok.fresh (Aq _))⟩
end
def NQ(kvs more:List (aY×V)):List (aY×V):=more.foldl (λacc a=>XN acc a.1 a.2) kvs
def KV.merge:∀{more:List (aY×V)}{a:List (aY×Ua)}{kvs:List (aY×V)}{vs:List (aY×Ua)},KV more a->KV kvs vs->KV (NQ kvs more) (merged vs a):=by
 intro more a kvs vs r;unfold KV at r;induction r generalizing kvs vs with
 |nil=>intro q;exact q
 | @cons p q ps d h t c=>
  intro b;have e:KV (XN kvs p.1 p.2) (Tk vs q.1 q.2):=by
   have:=b.put p.1 h.2
   rw[<-h.1];exact this
  exact c e
structure M1(X:Cx)(o:Uh)(m:Ue)(ao:Pos)(e:Uh)(ae:Pos):Prop where
 base:Gh o m X.env (eval o X.env)=eval o X.env
 few:((Fa ae (Uc [e] X.env)).all (λx=> !x.1)&&(Ll ae (He [] X.env)).all (λx=>x.1.isSome)
  && decide (([e]:List Uh).length+([]:List Hf).length+(if([]:List Hf).isEmpty then 0 else 1)<30))=ba
 line:(ao.endLine==ae.line)=ba
 trees:Fa ae (Uc [e] X.env)=[(bb,eval e X.env)]
structure M2(X:Cx)(o:Uh)(m:Ue)(ao:Pos)(e f:Uh)(ae:Pos):Prop where
 base:Gh o m X.env (eval o X.env)=eval o X.env
 few:((Fa ae (Uc [e,f] X.env)).all (λx=> !x.1)&&(Ll ae (He [] X.env)).all (λx=>x.1.isSome)
  && decide (([e,f]:List Uh).length+([]:List Hf).length+(if([]:List Hf).isEmpty then 0 else 1)<30))=ba
 line:(ao.endLine==ae.line)=ba
 trees:Fa ae (Uc [e,f] X.env)=[(bb,eval e X.env),(bb,eval f X.env)]
def IsD(H:Hp)(a:Ub):Prop:=(∃kvs,Rd H a (.dK kvs))∨∃kvs,Rd H a (.dT kvs)
def Xl{X:Cx}{aa:List (Ub×Ul)}{σ:St}{H:Hp}{s:Ae}{a:Ub}(I:cM X aa σ H s)(d:IsD H a):s.TypeIs (.ref a) "dict" /\(∀b,Bu a=.ref b->∃c,s.heap.get? b=b3 c/\c.dict=b4)/\(a==Ga)=bb:=by
 rcases d with⟨kvs,e⟩|⟨kvs,e⟩
 ·obtain⟨_,hd,vs,_,dd⟩:=K6 I.hok e
  refine⟨dd.typeIs,λb q=>?_,hd⟩;cases q;obtain⟨c,_,_,h1,h2,_⟩:=dd;exact⟨c,h1,h2.2.1⟩
 ·obtain⟨_,hd,xs,_,dd⟩:=K9 I.hok e
  refine⟨dd.typeIs,λb q=>?_,hd⟩;cases q;obtain⟨c,_,_,h1,h2,_⟩:=dd;exact⟨c,h1,h2.2.1⟩
section
variable{X:Cx}{aa:List (Ub×Ul)}{σ:St}{H:Hp}{s:Ae}{a:Ub}{y d:V}{u r:Ua}{o:Option V}{A:Cb}{E:Ua->Ae->Prop}
def oZ{Q:Ua->Ae->Prop}(j:A.units+1<cLine)(I:cM X aa σ H s)(g:PX H a y o)(i:b7 y u)(h:∀f s',cM X aa σ H s'->b7 (o.getD .non) f->Q f s'):Ud (Uf X.prog X.w) A (call (.builtin "dict.get") [.ref a,u]) Q E s:=by
 rcases g with⟨kvs,k,e,d,l⟩|⟨kvs,k,b,e,d,m,l⟩
 ·subst d
  obtain⟨z,hd,vs,c,dd⟩:=K6 I.hok e;refine Mp Ec dd.typeIs Fm (Hr _ _) (meets_dict_get (a9 X.prog X.w) a (LL i) hd) ⟨_,dd.mapOf,h _ _ (I.tok _) ?_⟩;rw[l];exact(c.val k).getD rfl
 ·subst d
  cases (show u=Bu b from i);obtain⟨z,hd,xs,c,dd⟩:=K9 I.hok e;refine Mp Ec dd.typeIs Fm (Hr _ _) (meetsH_dict_get (tupleKind (a9 X.prog X.w)) a b hd) ⟨Hq j,k,xs,NO I.hok m,dd,h _ _ (I.tok _) ?_⟩;rw[l];exact(c.val k).getD rfl
def eN{Q:Ua->Ae->Prop}(n:A.units+1<cLine)(I:cM X aa σ H s)(g:PX H a y o)(j:b7 y u)(m:b7 d r)(h:∀i s',cM X aa σ H s'->b7 (o.getD d) i->Q i s'):Ud (Uf X.prog X.w) A (call (.builtin "dict.get") [.ref a,u,r]) Q E s:=by
 rcases g with⟨kvs,k,e,f,l⟩|⟨kvs,k,b,e,f,p,l⟩
 ·subst f
  obtain⟨z,hd,vs,c,dd⟩:=K6 I.hok e;refine Mp Ec dd.typeIs Fm (Lm _ _ _) (meets_dict_get_default (a9 X.prog X.w) a (LL j) hd r) ⟨_,dd.mapOf,h _ _ (I.tok _) ?_⟩;rw[l];exact(c.val k).getD m
 ·subst f
  cases (show u=Bu b from j);obtain⟨z,hd,xs,c,dd⟩:=K9 I.hok e;refine Mp Ec dd.typeIs Fm (Lm _ _ _) (meetsH_dict_get_default (tupleKind (a9 X.prog X.w)) a b hd r) ⟨Hq n,k,xs,NO I.hok p,dd,h _ _ (I.tok _) ?_⟩;rw[l];exact(c.val k).getD m
end
def gL(td ty tx:TE):TE:=λσ H Q=>td σ H λx H1=>∃a,x=.ref a/\IsD H1 a/\ty σ H1 λy H2=>tx σ H2 λz b=>∃o,PX b a y o/\Q (o.getD z) b
section
variable{X:Cx}{o e f:Uh}{ao ae:Pos}{td ty tx:TE}
def jQ(p:X.A.units+1<cLine)(q:PE X o td)(t:PE X e ty)(r:PE X f tx)(m:M2 X o "get" ao e f ae):PE X (.Call (.Attribute o "get" ao) [e,f] [] ae) (gL td ty tx):=by
 intro aa s σ H Q I h;refine Pf m.base m.few m.line Ln Ec Mq (ZT (q aa s σ H _ I h) λu s1 ⟨x,H1,c,n,a,ex,d,q1⟩=>?_);subst ex;obtain rfl:u=Bu a:=n;obtain⟨j,i,_⟩:=Xl c d;refine⟨j,i,?_⟩;rw[m.trees];refine Go rfl (Fy (Gq (ZT (t aa s1 σ H1 _ c q1) λJ k ⟨y,H2,B,l,q2⟩=>
  Gq (ZT (r aa k σ H2 _ B q2) λfv F ⟨z,C,w,rz,G,g,q3⟩=>Ia ?_))))
 exact eN p w g l rz λD E v b=>⟨_,C,v,b,q3⟩
end
end L2
namespace Att
open PySem PySem.W PySem.Calls PyProof.Rows
def O9{P:Py}{h:Uk}:∀(ns:List Int) (vs:List Ua),WellAll P h vs (ns.map WData.int)->Sv vs ns:=by
 intro ns;induction ns with
 |nil=>
  intro vs w;rw[Et]at w;cases w;exact .nil
 |cons n ns c=>
  intro vs w;rw[Ba]at w;cases w with
  |cons a b=>
   cases a;exact .cons _ _ (c _ b)
def CD{l:OpenLaw}{n:Nat}(s:l.most=b3 n){P:Py}{h:Uk}{args:List WData}{b:List Ua}(c:l.row.toRowW.claim.pre args=ba)(g:WellAll P h b args):∃a vs ns,b=[Bu a]/\args=[WData.list (ns.map WData.int)]/\h.get? a=b3 {cls:=.type "list",data:=.seq vs.toArray}/\Sv vs ns/\ns.length<=n:=by
 have i:WShape.hasAll [] args [.list .int]=ba:=(pre_splitW c).1;have hc:l.pre.holds [] {args:=args}=ba:=(pre_splitW c).2;obtain⟨d,r,rfl,h1,h2⟩:=hasAllW_cons i;obtain rfl:=hasAllW_nil h2;obtain⟨xs,rfl,t⟩:=hasW_list h1;obtain⟨ns,rfl⟩:=items_int t;have u:ns.length<=n:=by
  unfold OpenLaw.pre at hc;have f:(WTm.not (.lt (.lit (.int (n:Int))) (.len (.arg 0)))).holds [] {args:=[.list (ns.map .int)]}=ba:=by have f:=(holds_andW hc).1;rw[s]at f;exact f
  have e:=condW_of f (w_not (w_lt w_lit (w_len_list (w_arg rfl))));rw[Ci]at e;refine Nat.le_of_not_lt λq=>?_;have m:(n:Int)<((ns.length:Nat):Int):=by lia
  first
   |(rw[decide_eq_true m]at e;exact absurd e (by decide))
   |(simp at e;lia)
 cases g with
 |cons k j=>
  cases j;cases k with
  |list p o=>exact⟨_,_,ns,rfl,rfl,p,O9 ns _ o,u⟩
def BZ(l:OpenLaw)(args:List WData):l.row.toRowW.claim.post args (.bool ba) args=ba:=
 postW_of (r:=l.row.toRowW) (X:=(ba==ba))
  (show Tz [] (.bool ba) .bool=ba by first|rfl|decide|simp[Tz,WShape.arms,WShape.armsAll])
  (show(WTm.eq .res (.lit (.bool ba))).value [] {args:=args,res:=b3 (.bool ba),after:=args}=b3 (.bool (ba==ba)) from w_eq_bool (w_res rfl) w_lit) rfl
def GO{l:OpenLaw}{n:Nat}{q:Aw}{loose:List Ue}{XP:(Ue->Option Ua)->Uk->Prop}{YP:Uj->Uk->Prop}{d:DefRec}(z:l.most=b3 n)(m:d.params.defaults=[])(call:∀(w:Uj) (s₀ b:Ae) (mg i:Ue->Option Ua) (fa:Ub) (o:Ul) (h cd doc:Ua) (a:Ub) (vs:List Ua) (ns:List Int),Ground q loose [] XP w s₀ mg i b.heap->YP w b.heap->b.heap.get? fa=b3 o->o.data=.func (docDef d.name d.params d.body d.scope h cd doc)->b.heap.CodeRec cd d.name->mg d.name=b3 (.ref fa)->b.heap.get? a=b3 {cls:=.type "list",data:=.seq vs.toArray}->Sv vs ns->ns.length<=n->b.gens= #[]->Jr (Uf l.prog w) Nq (.call (.ref fa) ⟨[.ref a],[]⟩) (λr s'=>r=.ok (.ret (.bool ba))/\OldK b.heap s'.heap/\s'.os=b.os/\Lj s'.gens) b):WalkO q loose XP YP l.row.toRowW d [] (λf vs=>Sh f vs):=by intro w s₀ b mg i G Y fa o h cd doc F kV y hd p u k C args s as e t v j B;obtain rfl:F=.none:=Dflts.none u m;obtain rfl:kV=.none:=Dflts.noKw u;obtain⟨a,vs,ns,rfl,rfl,g,c,H⟩:=CD z e j;refine enter_call (Ko (call w s₀ b mg i fa o h cd doc a vs ns G Y y (fd_plain hd) p k g c H C) λr s' x=>?_);obtain⟨rfl,h2,E,D⟩:=x;exact⟨.inl ⟨.bool ba,.bool ba,[],rfl,λ_=>rfl,.bool ba,BZ l _,λ_=>⟨Pg,λ_ A=>(nomatch A)⟩⟩,h2,E,D⟩
end Att
namespace L2
open PySem PySem.Spec PyProof.Rows
theorem MF:∀{vs:List Ua}{ns:List Int},Sv vs ns->bX (ns.map V.int) vs
 |_,_,.nil=>.nil
 |_,_,.cons n t h=>.cons ⟨t,rfl⟩ (MF h)
def Only(H:Hp):Prop:=∀b,H b=b4∨∃o xs,H b=b3 (.frz o (.lst xs))
def mR{P:Aw}{w:Uj}{K:Ah}{mg B:Ue->Option Ua}{CX:CXT}{k:Nat}{fa a:Ub}{fd:Dw}{x:Ue}{sp:Sp}{c:Ae}{vs:List Ua}{ns:List Int}(Q:K.In c.heap)(j:c.heap.Ns Ug mg)(f:c.heap.Ns builtinsNs B)(D:∀x:Ue,x≠ "__name__" ->B x=Bm x)(T:c.heap.NoLimit)(hg:c.gens= #[])(y:c.heap.get? a=b3 {cls:=.type "list",data:=.seq vs.toArray})(hi:Sv vs ns)(hl:ns.length<=sizeLine)(hr:Y0 k Nq)(F:∀base:Uk,K.In base->base.Ns Ug mg->aI P w K mg base CX k fa fd [x] sp)(Y:∀(s:Ae) (u:Ua),Pc s fd ⟨[u],[]⟩ [(x,u)])(C:∀H:Hp,Only H->X9 K H a (ns.map V.int)->sp [.ref a] H (λv _=>v=.bl ba) λ_ _ _=>False)(E:∀H e s',CX [] H c (λ_ _ _=>False) e s'->False):Jr (Uf P w) Nq (.call (.ref fa) ⟨[.ref a],[]⟩) (λr s'=>r=.ok (.ret (.bool ba))/\OldK c.heap s'.heap/\s'.os=c.os/\Lj s'.gens) c:=by
 have I:=MF hi;have X:=hi.length;have J: ∀H:Hp,Only H->X9 K H a (ns.map V.int)->U2 P w H c.heap->(∀b,H b≠b4->b=a)->(H a≠b4->K.lookup a=b4)->
   Jr (Uf P w) Nq (.call (.ref fa) ⟨[.ref a],[]⟩) (λr s'=>r=.ok (.ret (.bool ba))/\OldK c.heap s'.heap/\s'.os=c.os/\Lj s'.gens) c:=by
  intro H L hS i M hK;have N:∀{b:Ub}{o:Ul},c.heap.get? b=b3 o->H b=b4->(JT c.heap H).get? b=b3 o:=λe n=>kB e n;have A:∀{b:Ub}{o:Ul}{es:Array Mj}{p:Nat},c.heap.get? b=b3 o->o.data=.dict es p->H b=b4:=λ{b o es p} e d=>by
   cases q:H b with
   |none=>rfl
   |some u=>
    have G:b=a:=M b (by rw[q];simp);subst G;rw[y]at e;cases e;have d':Data.seq vs.toArray _=Data.dict es p:=d;cases d'
  have g:∀{b:Ub}{m:Ue->Option Ua},c.heap.Ns b m->(JT c.heap H).Ns b m:=λ{b m} ⟨o,es,p,e,d,r⟩=>⟨o,es,p,N e (A e d),d,r⟩;have l:K.In (JT c.heap H):=λb o e=>N (Q b o e) (by
   cases q:H b with
   |none=>rfl
   |some u=>
    have G:b=a:=M b (by rw[q];simp);subst G;rw[hK (by rw[q];simp)]at e;cases e)
  have hM:Mod K mg (JT c.heap H):=⟨l,g j,⟨B,g f,D⟩,let ⟨Z,h1,h2⟩:=T;⟨Z,g h1,h2⟩⟩;have e0:AA P w K mg (JT c.heap H) Nq [] c H:=⟨rfl,hM,λb o e=>oG e,Nat.le_of_eq (A9 _ _),trivial,λb f=>absurd (show b∈([]:List Ub) from f) (by simp),i,.of_eq hg⟩;refine Ko ((F _ l (g j)).run Nq [] c H ⟨[.ref a],[]⟩ [.ref a] [.ref a] _ _ hr e0 (Y c (.ref a)) (.cons rfl .nil) (C H L hS)) λr s' h=>?_;cases r with
  |error e=>exact(E H e s' h).elim
  |ok fl=>
   cases fl with
   |next=>exact Gv h
   |brk=>exact Gv h
   |cont=>exact Gv h
   |ret u=>
    obtain⟨v,H',os,t,un,U,r',q⟩:=h;have S:v=.bl ba:=q;subst S;obtain rfl:u=Gk ba:=r';refine⟨rfl,OldK.of_keep λb o e=>?_,os,t⟩;cases q:H b with
    |none=>exact un.keep b o e q (by intro z;exact absurd (show b∈([]:List Ub) from z) (by simp)) (by simp)
    |some u=>
     rcases L b with z|⟨W,xs,z⟩
     ·rw[q]at z;cases z
     ·have R:=un.frzs b W _ z
      obtain⟨O,_⟩:=i b _ z;obtain⟨e2,_⟩:=U b _ R;rw[e]at O;cases O;exact e2
 cases hk:K.lookup a with
 |some o=>
  have e:=Q a o hk;rw[y]at e;cases e;refine J (λ_=>b4) (λ_=>.inl rfl) (.inr ⟨_,vs.toArray,_,hk,rfl,rfl,rfl,by rw[Aj,X];exact hl,by simpa using I⟩) (λb u z=>by have z':(b4:Option HO)=b3 u:=z;cases z') (λb z=>absurd rfl z) λz=>absurd rfl z
 |none=>
  refine J (λb=>if b=a then b3 (.frz {cls:=.type "list",data:=.seq vs.toArray} (.lst (ns.map V.int)))else b4) (λb=>?_) (.inl (.inr ⟨{cls:=.type "list",data:=.seq vs.toArray},if_pos rfl⟩)) (λb u z=>?_) (λb z=>?_) λ_=>hk
  ·by_cases f:b=a
   ·exact .inr ⟨_,_,if_pos f⟩
   ·exact .inl (if_neg f)
  ·by_cases f:b=a
   ·have z':=(if_pos f).symm.trans z
    cases z';subst f;exact⟨y,by rw[Ci];exact hl,vs,_,I,y⟩
   ·have z':=(if_neg f).symm.trans z
    cases z'
  ·by_cases f:b=a
   ·exact f
   ·exact absurd (if_neg f) z
def lM{l:Tl}{n k:Nat}{q:Aw}{loose:List Ue}{XP:(Ue->Option Ua)->Uk->Prop}{YP:Uj->Uk->Prop}{d:DefRec}{K:Py->Ah}{CX:Uj->CXT}{sp:Uj->Sp}{x:Ue}(C:l.most=b3 n)(p:n<=sizeLine)(t:d.params.defaults=[])(B:Y0 k Nq)(J:∀(w:Uj) (h:Uk),YP w h->(K w.params).In h)(F:∀(w:Uj) (mg:Ue->Option Ua) (fa:Ub) (h:Uk),(K w.params).In h->h.Ns Ug mg->mg d.name=b3 (.ref fa)->∃fd:Dw,(∀(s:Ae) (u:Ua),Pc s fd ⟨[u],[]⟩ [(x,u)])∧ ∀base:Uk,(K w.params).In base->base.Ns Ug mg->aI l.prog w (K w.params) mg base (CX w) k fa fd [x] (sp w))(m:∀(w:Uj) (H:Hp) (a:Ub) (ns:List Int),ns.length<=n->Only H->X9 (K w.params) H a (ns.map V.int)->sp w [.ref a] H (λv _=>v=.bl ba) λ_ _ _=>False)(y:∀(w:Uj) (H:Hp) (s:Ae) (e:Ua) (s':Ae),CX w [] H s (λ_ _ _=>False) e s'->False):W.WalkO q loose XP YP l.row.toRowW d [] (λf vs=>Sh f vs):=by refine Att.GO C t λw s₀ i mg P fa o O cd doc a vs ns G Y Q hd E r j c z D=>?_;have A:=J w _ Y;obtain⟨fd,I,N⟩:=F w mg fa _ A G.T.g r;exact mR A G.T.g G.T.b G.T.builtins G.T.nolimit D j c (Fo z p) B N I (λH M L=>m w H a ns z M L) λH e s'=>y w H i e s'
def zA3{l:Tl}{n k:Nat}{q:Aw}{loose:List Ue}{XP:(Ue->Option Ua)->Uk->Prop}{YP:Uj->Uk->Prop}{d:DefRec}{K:Py->Ah}{CX:CXT}{sp:Ah->Sp}{x:Ue}(m:l.most=b3 n)(c:n<=sizeLine)(g:d.params.defaults=[])(j:Y0 k Nq)(o:∀(w:Uj) (h:Uk),YP w h->(K w.params).In h)(F:∀(w:Uj) (mg:Ue->Option Ua) (fa:Ub) (h:Uk),(K w.params).In h->h.Ns Ug mg->mg d.name=b3 (.ref fa)->∃fd:Dw,(∀(s:Ae) (u:Ua),Pc s fd ⟨[u],[]⟩ [(x,u)])∧ ∀base:Uk,(K w.params).In base->base.Ns Ug mg->aI l.prog w (K w.params) mg base CX k fa fd [x] (sp (K w.params)))(b:∀(K:Ah) (H:Hp) (a:Ub) (ns:List Int),ns.length<=n->Only H->X9 K H a (ns.map V.int)->sp K [.ref a] H (λv _=>v=.bl ba) λ_ _ _=>False)(i:∀(H:Hp) (s:Ae) (e:Ua) (s':Ae),CX [] H s (λ_ _ _=>False) e s'->False):W.WalkO q loose XP YP l.row.toRowW d [] (λf vs=>Sh f vs):=
 lM (K:=K) (CX:=λ_=>CX) (sp:=λw=>sp (K w.params)) m c g j o F (λw H a ns h1 h2 p=>b (K w.params) H a ns h1 h2 p) λ_ H s e s'=>i H s e s'
def YX(s:Um):Arguments:=match s with
 |.FunctionDef _ a _ _ _ _ _ _ _ _=>a
 |_=>{posonlyargs:=[],args:=[],vararg:=b4,kwonlyargs:=[],kw_defaults:=[],kwarg:=b4,defaults:=[]}
def aQ(s:Um):List Um:=match s with
 |.FunctionDef _ _ b _ _ _ _ _ _ _=>b
 |_=>[]
def cV(s:Um):Ur:=match s with
 |.FunctionDef _ _ _ _ _ _ a _ _ _=>a
 |_=>{kind:=.function,names:=[],isGenerator:=bb,isCoroutine:=bb}
abbrev CX0:CXT:=λ_ _ _ _ _ _=>False
abbrev E0:XK:=λ_ _ _=>False
def jI{X:Cx}:EZ CX0 X E0:=λ_ _ _ _ _ _ _ h=>h.elim
structure X1(K:Ah)(x qual:Ue)(st:Um)(f:Ub)(fd:Dw):Prop where
 ex:∃(oc:Ua) (od:Option Ub) (kV doc pm:Ua) (an:Option Ub) (cdv ct:Ua) (osl:Array (Option Ua)),
  fd=Ma x qual (YX st) (aQ st) (cV st) .none kV doc pm an cdv ct/\K.lookup f=b3 ⟨oc,od,.func fd,osl⟩/\Od K cdv qual=ba
 kp:Ja K (.ref f)=ba
section
variable{P:Aw}{w:Uj}{K:Ah}{mg:Ue->Option Ua}{base:Uk}
def X1.ok{x qual:Ue}{st:Um}{f:Ub}{fd:Dw}{N ps:List Ue}{k:Nat}{sp:Sp}(F:X1 K x qual st f fd)(S:cD N ps (cV st))(len:∀vs H Q E,sp vs H Q E->vs.length=ps.length)(i:∀(a:Ua) (A:Cb) (outer:List Env) (s:Ae) (H:Hp) (vs:List V) (Q:VK) (E:XK),Y0 k (A.deeper (envOfC qual (cV st) s.heap.objs.size f a))->sp vs H Q E->∃t,WU (QZ CX0 P w K mg base N qual (cV st) f a A outer s H E).nox (aQ st) t/\t {nx:=λ_ H'=>Q .non H',rt:=Q} (start N vs) H):aI P w K mg base CX0 (k+1) f fd ps sp:=by obtain⟨l,od,kV,doc,j,m,a,ct,d,rfl,e,c⟩:=F.ex;refine Yo e c S len λA outer s H vs Q E g b=>?_;obtain⟨t,h,q⟩:=i a A outer s H vs Q E g b;exact⟨t,h.nox,q⟩
def X1.binds{x qual:Ue}{st:Um}{f:Ub}{fd:Dw}{ps:List Ue}(F:X1 K x qual st f fd)(h:∀(kV doc c:Ua) (d:Option Ub) (a ct:Ua) (b:List Ua),b.length=ps.length->Qv (Ma x qual (YX st) (aQ st) (cV st) .none kV doc c d a ct) ⟨b,[]⟩=pure (ps.zip b)):QQ K fd ps []:=by obtain⟨i,od,kV,doc,c,d,a,ct,e,rfl,j,g⟩:=F.ex;exact .all (h kV doc c d a ct)
def JS{x qual:Ue}{st:Um}{f:Ub}{g:Ua}{od e:Option Ub}{b:Array (Option Ua)}{kV doc d a ct:Ua}(l:K.lookup f=b3 ⟨g,od,.func (Ma x qual (YX st) (aQ st) (cV st) .none kV doc d e a ct),b⟩)(c:Od K a qual=ba)(k:Ja K (.ref f)=ba):X1 K x qual st f (Ma x qual (YX st) (aQ st) (cV st) .none kV doc d e a ct):=⟨⟨g,od,kV,doc,d,e,a,ct,b,rfl,l,c⟩,k⟩
end
def Wx{A:Cb}{k:Nat}(a:Y0 k A):A.units+1<cLine:=Nat.lt_of_le_of_lt (Nat.add_le_add_left (by decide:1<=64) _) a.units
section
variable{X:Cx}
def pv(i:Nat){x:Ue}{pos:Pos}(c:X.N[i]?=b3 x:=by rfl)(b:Vis X.env.scope x:=by first|exact Cf rfl|exact Bk (Cf rfl)|exact Bk (Bk rfl))(hd:(x==("__debug__":Ue))=bb:=by decide)(a:(x==("__classdict__":Ue))=bb:=by decide):PE X (.Name x pos) (WH i):=FU c b hd a
end
def MS{A B:Prop}(h:B):if bb=ba then A else B:=by rw[if_neg Ek];exact h
def MT{A B:Prop}(h:A):if ba=ba then A else B:=by rw[if_pos rfl];exact h
def bH(H H':Hp):Prop:=∀b o,H b=b3 o->H' b=b3 o
def bH.refl(H:Hp):bH H H:=λ_ _ h=>h
def bH.trans{H H1 H2:Hp}(a:bH H H1)(b:bH H1 H2):bH H H2:=λc o h=>b c o (a c o h)
def bH.seq{K:Ah}{H H':Hp}{a:Ub}{xs:List V}(e:bH H H')(h:X9 K H a xs):X9 K H' a xs:=by
 rcases h with((h|⟨xs,sub,zs,z,(⟨y,h,h2,s⟩|⟨h,h2⟩)⟩)|⟨o,h⟩)|h
 ·exact .inl (.inl (.inl (e _ _ h)))
 ·exact .inl (.inl (.inr ⟨xs,sub,zs,z,.inl ⟨y,e _ _ h,e _ _ h2,s⟩⟩))
 ·exact .inl (.inl (.inr ⟨xs,sub,zs,z,.inr ⟨e _ _ h,h2⟩⟩))
 ·exact .inl (.inr ⟨o,e _ _ h⟩)
 ·exact .inr h
theorem JN{env:Env}{f:Ue×Uq->List (Ue×Ub)->Ut (ForInStep (List (Ue×Ub)))}(i:∀n k r,f (n,k) r=if(k==Bt)=ba then(cellOf env n>>=λc=>pure (Dv ((n,c)::r)))else pure (Dv r)):∀(names:List (Ue×Uq)) (b:List (Ue×Ub)),(∀y∈names,y.2=.free->∃c,env.cells.lookup y.1=b3 c)->∃cl,forIn names b f=(pure cl:Ut (List (Ue×Ub)))/\(∀x c,cl.lookup x=b3 c->b.lookup x=b3 c∨env.cells.lookup x=b3 c)∧(∀x c,b.lookup x=b3 c->∃g,cl.lookup x=b3 g)/\∀x,(x,Bt)∈names->∃c,cl.lookup x=b3 c
 |[],b,_=>⟨b,rfl,λ_ _ e=>.inl e,λ_ c e=>⟨c,e⟩,λ_ h=>nomatch h⟩
 | (n,k) :: r,b,h => by
  have o:∀y∈r,y.2=.free->∃c,env.cells.lookup y.1=b3 c:=λy p=>h y (Am _ p);by_cases hk:k=.free
  ·subst hk
   obtain⟨c,hc⟩:=h (n,.free) Au rfl;have hc:env.cells.lookup n=b3 c:=hc;obtain⟨cl,m,l,d,j⟩:=JN i r ((n,c)::b) o;refine⟨cl,?_,λx g e=>?_,λx g e=>?_,λx a=>?_⟩
   ·rw [Jt,i,if_pos (show (Bt == Bt) = ba by decide)]
    have t:cellOf env n=pure c:=by unfold cellOf;rw[hc]
    rw[t,pure_bind,pure_bind];exact m
   ·rcases l x g e with q|q
    ·by_cases a:x=n
     ·subst a
      rw[Ed]at q;cases q;exact .inr hc
     ·rw[Co,beq_eq_false_iff_ne.mpr a]at q
      exact .inl q
    ·exact .inr q
   ·by_cases a:x=n
    ·subst a
     exact d x c (Ed ..)
    ·refine d x g ?_
     rw[Co,beq_eq_false_iff_ne.mpr a];exact e
   ·rcases Ak.mp a with q|q
    ·cases q
     exact d n c (Ed ..)
    ·exact j x q
  ·obtain⟨cl,m,l,d,j⟩:=JN i r b o
   refine⟨cl,?_,l,d,λx a=>?_⟩
   ·have s : ¬ (k == Bt) = ba := by simpa using hk
    rw[Jt,i,if_neg s,pure_bind];exact m
   ·rcases Ak.mp a with q|q
    ·cases q
     exact absurd rfl hk
    ·exact j x q
def C7{env:Env}{scope:Ur}(h:∀y∈scope.names,y.2=.free->∃c,env.cells.lookup y.1=b3 c):∃cl,closureFor scope env=pure cl/\(∀x c,cl.lookup x=b3 c->env.cells.lookup x=b3 c)/\∀x,(x,Bt)∈scope.names->∃c,cl.lookup x=b3 c:=by
 simp only[closureFor];obtain⟨cl,a,d,_,b⟩:=JN (env:=env) (f:=λx r=>match x with
  |(name,kind)=>if(kind==Bt)=ba then(cellOf env name>>=λc=>pure (Dv ((name,c)::r)))else pure (Dv r)) (λ_ _ _=>rfl) scope.names [] h
 refine⟨cl,?_,λx c e=>?_,b⟩
 ·first
   |exact a
   |(refine Eq.trans (congrArg (λm=>m>>=pure) a) ?_;exact pure_bind _ _)
 ·rcases d x c e with q|q
  ·cases q
  ·exact q
def YM(ix:List Nat)(σ:St):St:=ix.map λi=>(σ[i]?).join
def PTs(Y:Cx)(a:List Uh)(b:TT):Prop:=
 ∀(aa:List (Ub×Ul)) (s:Ae) (σ:St) (H:Hp) (Q:Bool->Hp->Prop),cM Y aa σ H s->b σ H Q->
  Ud (Uf Y.prog Y.w) Y.A (forIn a ba λc r=>if r=ba then do let ok<-isTrue c Y.env (eval c Y.env);pure (Dv ok)else pure (Dv r)) (TP Y aa σ Q) Y.xe s
def tYes:TT:=λ_ H Q=>Q ba H
def gW{Y:Cx}:PTs Y [] tYes:=λ_ _ _ H _ I h=>wpAny_tests_nil ⟨H,I,h⟩
def iI{Y:Cx}{c:Uh}{a:TT}(h:PT Y c a):PTs Y [c] a:=λaa s σ H Q I hw=>wpAny_tests_one (h aa s σ H Q I hw)
structure Blk(Y:Cx)(tg:Uh)(ifs:List Uh)(elt:Uh)(g:TG)(tt:TT)(te:TE):Prop where
 tg:PG Y tg g
 ts:PTs Y ifs tt
 el:PE Y elt te
def AU{prog:Aw}{w:Uj}{A:Cb}{s:Ae}{l t iter:Uh}{j:List Uh}{scope:Ur}{pos:Pos}{it acc:Ua}{env:Env}{R:Result->Ae->Prop}(I:Nat->Ae->Prop)(turn:∀n s,I n s->Ud (Uf prog w) A (pyNext it) (λr b=>match r with
   |none=>R (.ok .next) b
   | some v => Ud (Uf prog w) A (Jq t it v) (λ_ s₀ => Ud (Uf prog w) A (assign t env v) (λ_ f =>
     Ud (Uf prog w) A (forIn j ba λc r=>if r=ba then do let ok<-isTrue c env (eval c env);pure (Dv ok)else pure (Dv r)) (λok a=>if ok=ba then Ud (Uf prog w) A (eval l env) (λx e=>
      Ud (Uf prog w) A (call (.builtin "list.append") [acc,x]) (λ_ d=>∃m,m<n/\I m d) (λ_ _=>False) e) (λ_ _=>False) a
      else∃m,m<n/\I m a) (λ_ _=>False) f)
     (λ_ _=>False) s₀) (λ_ _=>False) b) (λ_ _=>False) s)
  (n:Nat) (h:I n s):Jr (Uf prog w) A (.compLoop (.ListComp l [⟨t,iter,j,0⟩] scope pos) 0 it acc env) R s:=by
 refine codeAny_loop rfl I (λn s y=>?_) n h;show Ud _ A ((compTurn (.ListComp l [⟨t,iter,j,0⟩] scope pos) 0 it acc env).onRaise (λx=>do noteFrame x env;theTreesLotGoes x)) _ _ s;refine wpAny_noted ?_;rw[compTurn_list];refine Ac (Gg (Ac (Cd (turn n s y) (λr b i=>?_) λ_ _ h'=>h'.elim)));cases r with
 |none=>exact Ai i
 |some v=>
  refine Ac (Cd i (λ_ s₀ k=>?_) λ_ _ h'=>h'.elim);refine Ac (Cd k (λ_ f q=>?_) λ_ _ h'=>h'.elim);refine Ac (Cd q (λu a g=>?_) λ_ _ h'=>h'.elim);cases u with
  |false=>exact Ai ⟨rfl,g⟩
  |true=>exact Ac (Ac (Cd g (λx e p=>Ac (Cd p (λ_ d o=>Ai (Ai ⟨rfl,o⟩)) λ_ _ h'=>h'.elim)) λ_ _ h'=>h'.elim))
section
variable{X:Cx}{aa:List (Ub×Ul)}{σ:St}{H H':Hp}{s s1 s':Ae}{h'':Uk}
def cM.offNew{a:St}{H1:Hp}(d:cM X aa σ H1 s1)(i:cM X aa a H' s')(h:H' s1.heap.objs.size=b4)(f:∀b o,b≠s1.heap.objs.size->s'.heap.get? b=b3 o->h''.get? b=b3 o):cM X aa a H' {s' with heap:=h''}:=
 i.turned (t':=s'.toks) (it:=s1.heap.objs.size) f h (Hg d.lt) (.inr d.sz)
  (λx c e z => by
   obtain⟨v,q⟩:=d.cell x c e;have:=q.lt
   rw[z]at this;exact Ck _ this)
  λp g z=>by
   have:=Ap (d.pin p g).1
   rw[z]at this;exact Ck _ this
end
def Wp(D:Ub)(ix:List Nat)(nl:Nat)(J:It)(g:TG)(h:TT)(te:TE)(σ:St)(H0:Hp)(Q:Hp->Prop):Prop:=
 ∃W:Nat->Nat->List V->Hp->Prop,(∃m,W 0 m [] (upd H0 D (.lst [])))/\∀i m acc H1,W i m acc H1->
  (J.stop i H1/\Q H1)∨
  (J.go i H1/\ ∃N:List V->Hp->Prop,(∀d H',N d H'-> ∃c,c<m/\W (i+1) c d H')∧
   ∀x H2,J.yld i H1 x H2->g x (YM ix σ++Av nl b4) H2 λa j=>a.take ix.length=YM ix σ∧
    h a j λb f=>if b=ba then te a f λv e=>e D=b3 (.lst acc)/\acc.length<sizeLine/\N (acc++[v]) (upd e D (.lst (acc++[v])))else N acc f)
theorem RG{env:Env}{x:Ue}:∀{l:List (Ue×Uq)},l.lookup x=b3 .free->(l.map λ(n,k)=>if(k==Bt&&env.scope.kind== .function&&env.kindOf n==b3 .cell)then(n,Cm)else(n,k)).lookup x=b3 .cell∨(l.map λ(n,k)=>if(k==Bt&&env.scope.kind== .function&&env.kindOf n==b3 .cell)then(n,Cm)else(n,k)).lookup x=b3 .free
 |[],h=>by cases h
 | (n,k) :: r,h => by
  show Nr x ((if(k==Bt&&env.scope.kind== .function&&env.kindOf n==b3 .cell)=ba then(n,Cm)else(n,k))::_)=b3 .cell∨Nr x ((if(k==Bt&&env.scope.kind== .function&&env.kindOf n==b3 .cell)=ba then(n,Cm)else(n,k))::_)=b3 .free;by_cases c:x=n
  ·subst c
   rw[Ed]at h;cases h;by_cases hc:(Bt==Bt&&env.scope.kind== .function&&env.kindOf x==b3 .cell)=ba
   ·left
    rw[if_pos hc,Ed]
   ·right
    rw[if_neg hc,Ed]
  ·have a:(x==n)=bb:=beq_eq_false_iff_ne.mpr c
   simp only[Co,a]at h;have b:=RG (env:=env) h;by_cases hc:(k==Bt&&env.scope.kind== .function&&env.kindOf n==b3 .cell)=ba
   ·rw[if_pos hc]
    simp only[Co,a];exact b
   ·rw[if_neg hc]
    simp only[Co,a];exact b
def IP(ix:List Nat)(nl:Nat)(a:TI)(g:TG)(b:TT)(te:TE):TE:=λσ H Q=>a σ H λJ H0=>∀D,H0 D=b4->Wp D ix nl J g b te σ H0 λH'=>Q (.ref D) H'
mutual
inductive Dp(K:Ah)(H:Hp):V->Nh->Prop
 |non:Dp K H .non .none
 |bl (b:Bool):Dp K H (.bl b) (.bool b)
 |int (i:Int):Dp K H (.int i) (.int i)
 |str (x:Ue):Dp K H (.str x) (.str x)
 |lst {a:Ub}{xs:List V}{ds:List Nh}:X9 K H a xs->MZ K H xs ds->Dp K H (.ref a) (.list ds)
 |tup {a:Ub}{xs:List V}{ds:List Nh}:WS K H a xs->MZ K H xs ds->Dp K H (.ref a) (.tuple ds)
inductive MZ(K:Ah)(H:Hp):List V->List Nh->Prop
 |nil:MZ K H [] []
 |cons {v:V}{vs:List V}{d:Nh}{ds:List Nh}:Dp K H v d->MZ K H vs ds->MZ K H (v::vs) (d::ds)
end
section
variable{X:Cx}{aa:List (Ub×Ul)}{σ:St}{H:Hp}{s:Ae}
mutual
theorem cM.reads(I:cM X aa σ H s):∀{v:V}{d:Nh}{u:Ua},Dp X.K H v d->b7 v u->∃as,Reads s.heap u d as
 |_,_,_,.non,r=>by cases r;exact⟨_,.none⟩
 |_,_,_,.bl b,r=>by cases r;exact⟨_,.bool b⟩
 |_,_,_,.int i,r=>by obtain⟨t,rfl⟩:=r;exact⟨_,.int i t⟩
 |_,_,_,.str x,r=>by obtain⟨t,rfl⟩:=r;exact⟨_,.str x t⟩
 |_,_,_,.lst q all,r=>by
  cases r;obtain⟨its,a,⟨o,n,e,c,_,d⟩,_⟩:=I.list q;obtain⟨as,h⟩:=cM.readsAll I all a;exact⟨_,.list e c d (by simpa using h)⟩
 |_,_,_,.tup q all,r=>by
  cases r;obtain⟨its,a,⟨o,e,c,n,d⟩,_⟩:=I.tuple q;obtain⟨as,h⟩:=cM.readsAll I all a;exact⟨_,.tuple e c d (by simpa using h)⟩
theorem cM.readsAll(I:cM X aa σ H s):∀{vs:List V}{ds:List Nh}{a:List Ua},MZ X.K H vs ds->bX vs a->∃as,ReadsAll s.heap a ds as
 |_,_,_,.nil,r=>by cases r;exact⟨_,.nil⟩
 | _,_,_,.cons h t,r => by
  cases r with
  |cons c b=>
   obtain⟨as,h1⟩:=cM.reads I h c;obtain⟨bs,h2⟩:=cM.readsAll I t b;exact⟨_,.cons h1 h2⟩
end
end
def rEqD(K:Ah):R2:=λx y H Q=>∃d e,Dp K H x d/\Dp K H y e/\Fb d=ba/\Fb e=ba/\Q (.bl (Jg d e)) H
def rNeD(K:Ah):R2:=λx y H Q=>∃d e,Dp K H x d/\Dp K H y e/\Fb d=ba/\Fb e=ba/\Q (.bl (!PyData.eqv d e)) H
section
variable{X:Cx}
def oT(g:X.A.units+64<cLine):XJ X (Ct .Eq) (rEqD X.K):=by intro aa s σ H x y v u Q I f c h;obtain⟨d,e,hd,i,b,a,q⟩:=h;obtain⟨as,h1⟩:=I.reads hd f;obtain⟨bs,h2⟩:=I.reads i c;exact eq_dataH h1 h2 b a g (JR I q rfl)
def Za(g:X.A.units+64<cLine):XJ X (Ct .NotEq) (rNeD X.K):=by intro aa s σ H x y v u Q I f c h;obtain⟨d,e,hd,i,b,a,q⟩:=h;obtain⟨as,h1⟩:=I.reads hd f;obtain⟨bs,h2⟩:=I.reads i c;exact ne_dataH h1 h2 b a g (JR I q rfl)
def rngP(p:Ub)(a b c:Int):Uk->Prop:=λh=>∃t u v,IsRange h p a b c t u v
inductive KQ:List Mj->List (Ue×V)->Prop
 |nil:KQ [] []
 |cons {e:Mj}{es:List Mj}{x:Ue}{t:Uv}{v:V}{D:List (Ue×V)}:e.key=.str x t->b7 v e.val->KQ es D->KQ (e::es) ((x,v)::D)
def KTab(K:Ah)(a:Ub)(D:List (Ue×V)):Prop:=
 (a==Ga)=bb/\∃o es b,K.lookup a=b3 o/\o.ExactDict/\o.data=.dict es b/\KQ es.toList D
def KQ.rows{es:List Mj}{D:List (Ue×V)}(h:KQ es D):KTD.Rows b7 es D:=by
 induction h with
 |nil=>exact .nil
 |cons h1 h2 _ a=>exact .cons h1 h2 a
def G6{A:Cb}{E:Ua->Ae->Prop}{s:Ae}{K:Ah}{prog:Aw}{w:Uj}{a:Ub}{D:List (Ue×V)}{k:Ue}{tk:Uv}{Q:Option Ua->Ae->Prop}(n:K.In s.heap)(T:KTab K a D)(h1:∀d v,Fw k D=b3 d->b7 d v->Q (b3 v) {s with toks:=s.toks+1})(h2:Fw k D=b4->Q b4 {s with toks:=s.toks+1}):Ud (Uf prog w) A (dictGet a (.str k tk)) Q E s:=by
 obtain⟨_,o,es,p,g,hc,hd,c⟩:=T;have g:=n _ _ g;have c:=c.rows;unfold dictGet;try with_reducible refine Br ?_
 refine Ac (wpAny_pyHash_str (Ac (KTD.kt_dictFind_strs (s:={s with toks:=s.toks+1}) g hd (by obtain⟨l⟩:=es;simpa using c.exact) ?_)));have f:Q (findBy (λk v=>v.isStr k) es k) {s with toks:=s.toks+1}:=by
  have m:findBy (λk v=>v.isStr k) es k=(es.toList.find? λe=>e.key.isStr k).map (·.val):=by obtain⟨l⟩:=es;simp[findBy]
  rw[m];cases b:Fw k D with
  |some d=>obtain⟨v,j,h⟩:=c.find_some b;rw[j];exact h1 d v b h
  |none=>rw[c.find_none b];exact h2 b
 rw[findBy_of_findIdx?]at f;cases hi:es.findIdx? λe=>e.key.isStr k with
 |none=>rw[hi]at f;exact Ai f
 |some i=>rw[hi]at f;exact Ac (wpAny_dictEntries (s:={s with toks:=s.toks+1}) g hd (Ai f))
def dE:CY X (λx y H Q=>∃a k D v,x=.ref a/\y=.str k/\KTab X.K a D/\Fw k D=b3 v/\Q v H):=by
 intro value c aa s σ H x y v u Q I j i h m;obtain⟨a,k,D,d,rfl,rfl,T,hk,q⟩:=h;cases j;obtain⟨t,rfl⟩:=i;have b:s.TypeIs (.ref a) "dict":=by obtain⟨_,o,es,p,n,hc,_⟩:=T;exact⟨o,I.kIn _ _ n,hc.1⟩
 have main:Ud (Uf X.prog X.w) X.A (Lk (.ref a) (.str k t)) (EP X aa σ Q) X.xe s:=by
  unfold Lk;try with_reducible refine Br ?_
  refine Ac (Ic b (by decide) ?_);refine Ac (Cw (name:=Be "__getitem__") b Kv
   (Es Kv b PySem.F.entry_dict_getitem ?_ (PySem.F.args_dict_getitem_2 _ _)))
  show Ud _ _ (dictGet a (.str k t)>>=_) _ _ s;exact Ac (G6 I.kIn T (λd' g f l=>Ai ⟨g,rfl,Ai (by rw[hk]at f;cases f;exact⟨d,H,I.tok _,l,q⟩)⟩) λe=>by rw[hk]at e;cases e)
 exact Sr b PySem.F.slot_dict_getitem.lookup main m
end
section
variable{prog:Aw}{w:Uj}{A:Cb}{E:Ua->Ae->Prop}{s:Ae}
theorem K7{it t:Ub}{items:Array Ua}(g:t≠it):∀(n i:Nat) (s:Ae) (Q:List Ua->Ae->Prop),s.heap.IsListIter it t i->s.heap.IsList t items->i+n<=items.size->(∀h',h'.IsListIter it t (i+n)->Fp it s.heap h'->Q ((items.toList.drop i).take n) {s with heap:=h'})->Ud (Uf prog w) A (draw (.ref it) n) Q E s
 |0,i,s,Q,e,_,_,j=>by show Ud _ _ (pure []) Q E s;exact Ai (by simpa using j s.heap e (Heap.SameBut.refl ..))
 |n+1,i,s,Q,e,l,m,j=>by
  have h:i<items.size:=by lia
  show Ud _ _ (pyNext (.ref it)>>=_) Q E s;refine Ac (Md e l (x:=items[i]) (by simp[h]) λk c a=>?_);refine Ac (Br (K7 g n (i+1) _ _ c (l.extBut a.extBut g) (by lia) λf b d=>Ai ?_));have hd:items.toList.drop i=items[i]::items.toList.drop (i+1):=by simp[Fx,h]
  have:=j f (by rw[show i+(n+1)=i+1+n by lia];exact b) (a.trans d)
  rw[hd,List.take_succ_cons]at this;exact this
def QN{t:Ub}{items:Array Ua}{Q:List Ua->Ae->Prop}(p:A.handled=b4)(k:s.heap.IsList t items)(q:∀h',Ju s.heap.objs.size s.heap h'->Q items.toList {s with heap:=h'}):Ud (Uf prog w) A (Jo (.ref t) items.size b4) Q E s:=by
 have j:t≠s.heap.objs.size:=by obtain⟨o,l,_⟩:=k;exact Bb (Ap l)
 unfold Jo;refine Ac ?_
 ·unfold notIterableAtAll
  refine Ac (wpAny_specialOf k.typeIs PySem.F.slot_list_iter.lookup ?_);refine Ai ?_;simp only[De,if_false];refine Ac (Br (Gw k ?_));have i:(s.heap.push {cls:=.type "list_iterator",data:=.fields #[.ref t,.int 0 0]}).IsList t items:=by obtain⟨o,l,r⟩:=k;exact⟨o,Ad _ l,r⟩
  refine Ac (Br (K7 j items.size 0 _ _ ⟨_,As _ rfl,rfl,rfl⟩ i (by lia) λh c a=>?_));have n:List.take items.size (List.drop 0 items.toList)=items.toList:=by rw[Ni];exact Cn (by simp)
  rw[n];rw[if_neg (by simp)];have d:h.IsList t items:=i.extBut a.extBut j;refine Ac (Br (Mk p c d (by simp) λg f=>?_));simp only[Option.isSome_none,De,if_false];refine Ai (q g λb o m e=>f b o m (a.extBut b o m (Ad _ e)))
def QT{env:Env}{a:List Uh}{x1}{pos:Pos}{t:Ub}{items:Array Ua}{Q:Unit->Ae->Prop}(e:A.handled=b4)(c:s.heap.IsList t items)(d:(Ui a env).length=items.size)(b:(Ui a env).findIdx? (·.1)=b4)(h:∀h',Ju s.heap.objs.size s.heap h'->Ud (Uf prog w) A (Us ((Ui a env).map (·.2)) items.toList) Q E {s with heap:=h'}):Ud (Uf prog w) A (assign (.Tuple a x1 pos) env (.ref t)) Q E s:=by rw[assign_Tuple];refine Ac (Gg ?_);unfold unpack;rw[d,b];exact Ac (Br (QN e c h))
end
section
variable{X:Cx}{pos:Pos}
def gLst(K:Ah)(n:Nat)(t:AH):TG:=λv σ H Q=>∃a xs,v=.ref a/\X9 K H a xs/\xs.length=n/\t xs σ H Q
def gJ{es:List Uh}{k:Nat}{t:AH}{n:Nat}(hc:X.calm=ba)(h:CZ X es t)(j:(Ui es X.env).length=n:=by rfl)(c:(Ui es X.env).findIdx? (·.1)=b4:=by rfl):PG X (.Tuple es k pos) (gLst X.K n t):=by intro aa s σ H v u Q I r hw;obtain⟨a,xs,l,i,hl,hw⟩:=hw;subst l;cases r;obtain⟨its,d,g,hz⟩:=I.list i;refine QT (I.ok.hd hc) g.isList (by simp[j,<-hl,d.length]) c λh' f=>?_;have m:cM X aa σ H {s with heap:=h'}:=I.kept (t':=s.toks) λb o e=>f b o (Bb (Ap e)) e;exact h aa _ σ H xs _ Q m (by simpa using d) hw
end
section
variable{X:Cx}{K:Ah}
def nQ(h:X.K=K:=by rfl):aD X (.type "list") (λxs H Q=>∃p ys,xs=[.ref p]/\(X9 K H p ys∨WS K H p ys)/\∀l,H l=b4->Q (.ref l) (upd H l (.lst ys))):=by subst h;exact JM
def mC(h:X.K=K:=by rfl):aD X (.type "tuple") (λxs H Q=>∃p ys,xs=[.ref p]/\((X9 K H p ys/\∀l,H l=b4->Q (.ref l) (upd H l (.tup ys)))∨(WS K H p ys/\Q (.ref p) H))):=by subst h;exact MQ
def BD(h:X.K=K:=by rfl):CY X (rIxL K):=by subst h;exact DK
def kEqD(a:X.A.units+64<cLine)(h:X.K=K:=by rfl):XJ X (Ct .Eq) (rEqD K):=by subst h;exact oT a
def PC(a:X.A.units+64<cLine)(h:X.K=K:=by rfl):XJ X (Ct .NotEq) (rNeD K):=by subst h;exact Za a
def Yj(h:X.K=K){es:List Uh}{k:Nat}{t:AH}{n:Nat}{pos:Pos}(hc:X.calm=ba)(c:CZ X es t)(b:(Ui es X.env).length=n:=by rfl)(a:(Ui es X.env).findIdx? (·.1)=b4:=by rfl):PG X (.Tuple es k pos) (gTup K n t):=by subst h;exact Yi hc c b a
def mU(h:X.K=K){es:List Uh}{k:Nat}{t:AH}{n:Nat}{pos:Pos}(hc:X.calm=ba)(c:CZ X es t)(b:(Ui es X.env).length=n:=by rfl)(a:(Ui es X.env).findIdx? (·.1)=b4:=by rfl):PG X (.Tuple es k pos) (gLst K n t):=by subst h;exact gJ hc c b a
def Yl(h:X.K=K){tg l:Uh}{tl:TE}(hl:PE X l tl):PI X tg l (Vn K tl):=by subst h;exact iB hl
def Vu(h:X.K=K){tg l:Uh}{tl:TE}(hl:PE X l tl):PI X tg l (iTup K tl):=by subst h;exact mZ hl
def kBm(h:X.K=K:=by rfl){o e:Uh}{es:List Uh}{to:TE}{t:TA}{name:Ue}{ao ae:Pos}{T id:String}{r:V->List V->Hp->VK->Prop}(pa:PlainAttrs T)(slot:Slot T name id)(a:Qd (.builtin id)=pure (.type "method_descriptor"))(d:MtR X id r)(c:PE X o to)(f:PA X (e::es) t)(i:Gh o name X.env (eval o X.env)=eval o X.env:=by rfl)(g:((Fa ae (Uc (e::es) X.env)).all (λx=> !x.1)&&(Ll ae (He [] X.env)).all (λx=>x.1.isSome)&&decide ((e::es).length+([]:List Hf).length+(if([]:List Hf).isEmpty then 0 else 1)<30))=ba:=by rfl)(j:(ao.endLine==ae.line)=ba:=by rfl)(b:Uc (e::es) X.env=(bb,eval e X.env)::Uc es X.env:=by rfl)(k:(Fa ae (Uc es X.env)).any (·.1)=bb:=by rfl):PE X (.Call (.Attribute o name ao) (e::es) [] ae) (tBM K T r to t):=by subst h;exact fK pa slot a d c f i g j b k
end
def nH:Bm "len"=b3 (.builtin "len"):=by decide+kernel
def eV:Bm "min"=b3 (.builtin "min"):=by decide+kernel
def pA:Bm "max"=b3 (.builtin "max"):=by decide+kernel
def AM:Bm "sorted"=b3 (.builtin "sorted"):=by decide+kernel
def b6:Bm "isinstance"=b3 (.builtin "isinstance"):=by decide+kernel
def OK:Bm "list"=b3 (.type "list"):=by decide+kernel
def Y2:Bm "tuple"=b3 (.type "tuple"):=by decide+kernel
def oU:Bm "range"=b3 (.type "range"):=by decide+kernel
def qC:Bm "bool"=b3 (.type "bool"):=by decide+kernel
def gQ:Bm "int"=b3 (.type "int"):=by decide+kernel
def Xq:Bm "str"=b3 (.type "str"):=by decide+kernel
structure Def(P:Aw)(w:Uj)(K:Ah)(mg:Ue->Option Ua)(base:Uk)(x:Ue)(k:Nat)(ps:List Ue)(sp:Sp)(f:Ub):Prop where
 at_:mg x=b3 (.ref f)
 ok:∃fd,aI P w K mg base CX0 k f fd ps sp/\QQ K fd ps []
 kp:Ja K (.ref f)=ba
section
variable{X:Cx}{x:Ue}{k j:Nat}{ps:List Ue}{sp:Sp}{f:Ub}{p pos:Pos}{e:Uh}{es:List Uh}{t:TA}
def NV(D:Def X.prog X.w X.K X.mg X.base x k ps sp f)(c:Y0 j X.A)(hk:k<=j)(d:Gl X x)(h:PA X (e::es) t)(b:(x==("__debug__":Ue))=bb:=by decide)(g:Uc (e::es) X.env=(bb,eval e X.env)::Uc es X.env:=by rfl)(a:(Fa pos (Uc es X.env)).any (·.1)=bb:=by rfl):PE X (.Call (.Name x p) (e::es) [] pos) (EO sp [] E0 t):=by obtain⟨fd,F,B⟩:=D.ok;exact qj F (c.mono hk) d D.at_ D.kp B .nil jI h b g a
end
def cW{H:Hp}{p:Ub}{o:HO}(a:H p=b4):bH H (upd H p o):=λb o' e=>by rw[cB (ZL e a)];exact e
def IJ(ns:List Int):Fb (.list (ns.map Ph))=ba:=by
 have h1:Gm (.list (ns.map Ph))=ba:=by simp only[Gm,canLayAll_ints]
 have h2:Ip (.list (ns.map Ph))<=64:=by simp only[Ip,depthAll_ints];decide
 unfold Fb;rw[h1,decide_eq_true h2];rfl
abbrev SE(X:Cx)(a:Uh)(es:List Uh):Prop:=Uc (a::es) X.env=(bb,eval a X.env)::Uc es X.env
abbrev ND(x:Ue):Prop:=(x==("__debug__":Ue))=bb
abbrev LO(X:Cx)(x:Ue):Prop:=X.fn x=ba∨X.env.scope.names.lookup x=b3 .local
inductive c6 where
 |non|bl (b:Bool)|int (i:Int)|str (x:Ue)|ty (n:String)|fn (x:Ue)|tup (ds:List c6)|lst (ds:List c6)|dct (ks:List aY) (ds:List c6)|exn (x:Ue)|exr (x n:Ue) (d:c6)|nst (sh:List (Option Nat)) (ds:List c6)
def FzL(K:Ah)(H:Hp)(a:Ub)(xs:List V):Prop:=
 (∃o,H a=b3 (.frz o (.lst xs)))∨
  ∃(o:Ul) (its:Array Ua) (n:Nat),K.lookup a=b3 o/\o.cls=.type "list" /\o.dict=b4/\o.data=.seq its n/\its.size<=sizeLine/\bX xs its.toList
def FzL.sq{K:Ah}{H:Hp}{a:Ub}{xs:List V}(h:FzL K H a xs):X9 K H a xs:=by
 rcases h with⟨o,h⟩|h
 ·exact .inl (.inr ⟨o,h⟩)
 ·exact .inr h
def FzM(K:Ah)(H:Hp)(M:Ub->Prop)(a:Ub)(xs:List V):Prop:=FzL K H a xs∨∃x b sub,H a=b3 (.own x)/\H x=b3 (.nst b sub)/\¬M x/\sub a=b3 xs
def FzM.sq{K:Ah}{H:Hp}{M:Ub->Prop}{a:Ub}{xs:List V}(h:FzM K H M a xs):X9 K H a xs:=by
 rcases h with h|⟨x,b,sub,h1,h2,_,z⟩
 ·exact h.sq
 ·exact .inl (.inl (.inr ⟨b,sub,xs,rfl,.inl ⟨x,h1,h2,z⟩⟩))
inductive RS(sub:Ub->Option (List V)):List V->List (Option Nat)->List V->Prop
 |nil:RS sub [] [] []
 |val {v:V}{xs vs:List V}{sh:List (Option Nat)}:(∀p,v=.ref p->sub p=b4)->RS sub xs sh vs->RS sub (v::xs) (b4::sh) (v::vs)
 |lst {p:Ub}{zs xs vs:List V}{sh:List (Option Nat)}:sub p=b3 zs->V.ref p∉xs->RS sub xs sh vs->RS sub (.ref p::xs) (b3 zs.length::sh) (zs++vs)
def T8(H:Hp)(a:Ub)(sh:List (Option Nat))(vs:List V):Prop:=∃xs sub,H a=b3 (.nst xs sub)/\(∀p zs,sub p=b3 zs->H p=b3 (.own a))/\RS sub xs sh vs
def CW(h:Uk)(a C:Ub):Prop:=∃o vs,h.get? a=b3 o/\o.cls=.ref C/\o.data=.fields vs
def Wq(h:Uk)(a C D:Ub):Prop:=∃o vs,h.get? a=b3 o/\o.cls=.ref C/\o.data=.fields vs/\o.dict=b3 D
mutual
inductive bV(K:Ah)(N:Ub->Prop)(H:Hp):(Ub->Prop)->V->c6->Prop
 |non {M:Ub->Prop}:bV K N H M .non .non
 |bl {M:Ub->Prop}(b:Bool):bV K N H M (.bl b) (.bl b)
 |int {M:Ub->Prop}(i:Int):bV K N H M (.int i) (.int i)
 |str {M:Ub->Prop}(x:Ue):bV K N H M (.str x) (.str x)
 |ty {M:Ub->Prop}(n:String):bV K N H M (.ty n) (.ty n)
 |fn {M:Ub->Prop}{a:Ub}{x:Ue}:Gr K Ug x=b3 (b3 (.ref a))->bV K N H M (.ref a) (.fn x)
 |tup {M:Ub->Prop}{a:Ub}{xs:List V}{ds:List c6}:WS K H a xs->cG K N H xs ds->bV K N H M (.ref a) (.tup ds)
 |lst {M:Ub->Prop}{a:Ub}{xs:List V}{ds:List c6}:H a=b3 (.lst xs)->¬M a->cG K N H xs ds->bV K N H M (.ref a) (.lst ds)
 |fzm {M:Ub->Prop}{a:Ub}{xs:List V}{ds:List c6}:FzM K H M a xs->cG K N H xs ds->bV K N H M (.ref a) (.lst ds)
 |dct {M:Ub->Prop}{a:Ub}{kvs:List (aY×V)}{ds:List c6}:H a=b3 (.dK kvs)->¬M a->cG K N H (kvs.map Er) ds->bV K N H M (.ref a) (.dct (kvs.map Dh) ds)
 |ktb {M:Ub->Prop}{a:Ub}{D:List (Ue×V)}{ds:List c6}:KTab K a D->cG K N H (D.map Er) ds->bV K N H M (.ref a) (.dct (D.map λp=>.inr p.1) ds)
 |exn {M:Ub->Prop}{a C:Ub}{x:Ue}{φ:Uk->Prop}:Gr K Ug x=b3 (b3 (.ref C))->H a=b3 (.ext φ)->(∀h,φ h->CW h a C)->bV K N H M (.ref a) (.exn x)
 |exr {M:Ub->Prop}{a C D:Ub}{x n:Ue}{φ:Uk->Prop}{v:V}{d:c6}:Gr K Ug x=b3 (b3 (.ref C))->H a=b3 (.ext φ)->(∀h,φ h->Wq h a C D)->H D=b3 (.xd [(n,v)])->bV K N H N v d->bV K N H M (.ref a) (.exr x n d)
 |nst {M:Ub->Prop}{a:Ub}{sh:List (Option Nat)}{vs:List V}{ds:List c6}:T8 H a sh vs->¬M a->cG K N H vs ds->bV K N H M (.ref a) (.nst sh ds)
inductive cG(K:Ah)(N:Ub->Prop)(H:Hp):List V->List c6->Prop
 |nil:cG K N H [] []
 |cons {v:V}{vs:List V}{d:c6}{ds:List c6}:bV K N H N v d->cG K N H vs ds->cG K N H (v::vs) (d::ds)
end
inductive RepL(K:Ah)(N:Ub->Prop)(H:Hp)(M:Ub->Prop)(ds:List c6):V->Prop
 |lst {a:Ub}{xs:List V}:H a=b3 (.lst xs)->¬M a->cG K N H xs ds->RepL K N H M ds (.ref a)
 |fzm {a:Ub}{xs:List V}:FzM K H M a xs->cG K N H xs ds->RepL K N H M ds (.ref a)
inductive RepT(K:Ah)(N:Ub->Prop)(H:Hp)(ds:List c6):V->Prop
 |tup {a:Ub}{xs:List V}:WS K H a xs->cG K N H xs ds->RepT K N H ds (.ref a)
inductive RepD(K:Ah)(N:Ub->Prop)(H:Hp)(M:Ub->Prop)(ks:List aY)(ds:List c6):V->Prop
 |dct {a:Ub}{kvs:List (aY×V)}:H a=b3 (.dK kvs)->¬M a->cG K N H (kvs.map Er) ds->ks=kvs.map Dh->RepD K N H M ks ds (.ref a)
 |ktb {a:Ub}{D:List (Ue×V)}:KTab K a D->cG K N H (D.map Er) ds->ks=D.map (λp=>.inr p.1)->RepD K N H M ks ds (.ref a)
def RepI(K:Ah)(N:Ub->Prop)(H:Hp)(M:Ub->Prop)(v:V):c6->Prop
 |.non=>v=.non
 |.bl b=>v=.bl b
 |.int i=>v=.int i
 |.str x=>v=.str x
 |.ty n=>v=.ty n
 |.fn x=>∃a,v=.ref a/\Gr K Ug x=b3 (b3 (.ref a))
 |.tup ds=>RepT K N H ds v
 |.lst ds=>RepL K N H M ds v
 |.dct ks ds=>RepD K N H M ks ds v
 |_=>True
section
variable{K:Ah}{N:Ub->Prop}{H:Hp}{M:Ub->Prop}{v:V}{d:c6}{ds:List c6}
def bV.inv(h:bV K N H M v d):RepI K N H M v d:=by
 cases h with
 |fn q=>exact⟨_,rfl,q⟩
 |tup q r=>exact .tup q r
 |lst q n r=>exact .lst q n r
 |fzm q r=>exact .fzm q r
 |dct q n r=>exact .dct q n r rfl
 |ktb q r=>exact .ktb q r rfl
 |nst _ _ _=>trivial
 |exn _ _ _=>trivial
 |exr _ _ _ _ _=>trivial
 |_=>rfl
def bV.onI{i:Int}(h:bV K N H M v (.int i)):v=.int i:=h.inv
def bV.onB{i:Bool}(h:bV K N H M v (.bl i)):v=.bl i:=h.inv
def bV.onS{i:Ue}(h:bV K N H M v (.str i)):v=.str i:=h.inv
def bV.onL(h:bV K N H M v (.lst ds)):RepL K N H M ds v:=h.inv
def bV.onT(h:bV K N H M v (.tup ds)):RepT K N H ds v:=h.inv
def bV.onD{ks:List aY}(h:bV K N H M v (.dct ks ds)):RepD K N H M ks ds v:=h.inv
end
def bV.fzl{K:Ah}{N:Ub->Prop}{H:Hp}{M:Ub->Prop}{a:Ub}{xs:List V}{ds:List c6}(q:FzL K H a xs)(r:cG K N H xs ds):bV K N H M (.ref a) (.lst ds):=.fzm (.inl q) r
def Hard:HO->Prop
 |.tup _=>True
 |.frz _ _=>True
 |.ext _=>True
 |.xd _=>True
 |.own _=>True
 |_=>False
def Fr(P:Ub->Prop)(H H':Hp):Prop:=∀b o,H b=b3 o->(P b->Hard o)->H' b=b3 o
def Fr.refl(P:Ub->Prop)(H:Hp):Fr P H H:=λ_ _ h _=>h
def Fr.trans{P:Ub->Prop}{H H1 H2:Hp}(a:Fr P H H1)(b:Fr P H1 H2):Fr P H H2:=λc o h n=>b c o (a c o h n) n
def Fr.mono{P d:Ub->Prop}{H H':Hp}(a:Fr P H H')(h:∀b,P b->d b):Fr d H H':=λc o e n=>a c o e λz=>n (h c z)
def bH.fr{P:Ub->Prop}{H H':Hp}(a:bH H H'):Fr P H H':=λc o h _=>a c o h
section
variable{K:Ah}{N N' M M' P:Ub->Prop}{H H':Hp}
def Fr.tup(f:Fr P H H'){a:Ub}{xs:List V}(h:WS K H a xs):WS K H' a xs:=by
 rcases h with((h|⟨_,_,_,z,_⟩)|⟨o,h⟩)|h
 ·exact .inl (.inl (.inl (f _ _ h λ_=>trivial)))
 ·cases z
 ·exact .inl (.inr ⟨o,f _ _ h λ_=>trivial⟩)
 ·exact .inr h
def Fr.fzl(f:Fr P H H'){a:Ub}{xs:List V}(h:FzL K H a xs):FzL K H' a xs:=by
 rcases h with⟨o,h⟩|h
 ·exact .inl ⟨o,f _ _ h λ_=>trivial⟩
 ·exact .inr h
def Fr.fzm(f:Fr P H H'){M:Ub->Prop}{a:Ub}{xs:List V}(h:FzM K H M a xs)(c:∀a,P a->M a):FzM K H' M a xs:=by
 rcases h with h|⟨x,b,sub,h1,h2,n,z⟩
 ·exact .inl (f.fzl h)
 ·exact .inr ⟨x,b,sub,f _ _ h1 λ_=>trivial,f _ _ h2 λz=>absurd (c _ z) n,n,z⟩
def T8.fr{a:Ub}{sh:List (Option Nat)}{vs:List V}(h:T8 H a sh vs)(f:Fr P H H')(c:¬P a):T8 H' a sh vs:=let ⟨xs,sub,e,o,z⟩:=h;⟨xs,sub,f _ _ e λw=>absurd w c,λp zs b=>f _ _ (o p zs b) λ_=>trivial,z⟩
def T8.same{a:Ub}{sh:List (Option Nat)}{vs:List V}(h:T8 H a sh vs)(f:bH H H'):T8 H' a sh vs:=let ⟨xs,sub,e,o,z⟩:=h;⟨xs,sub,f _ _ e,λp zs b=>f _ _ (o p zs b),z⟩
def T8.there{a:Ub}{sh:List (Option Nat)}{vs:List V}(h:T8 H a sh vs):∃o,H a=b3 o/\¬Hard o:=let ⟨_,_,e,_⟩:=h;⟨_,e,λz=>z⟩
def bV.fr(f:Fr P H H')(e:∀a,P a->N a){M:Ub->Prop}{v:V}{d:c6}(c:∀a,P a->M a)(h:bV K N H M v d):bV K N H' M v d:=
 bV.rec (motive_1:=λM v d _=>(∀a,P a->M a)->bV K N H' M v d) (motive_2:=λvs ds _=>cG K N H' vs ds) (λ_=>.non) (λb _=>.bl b) (λi _=>.int i) (λx _=>.str x) (λn _=>.ty n) (λq _=>.fn q) (λq _ r _=>.tup (f.tup q) r)
  (λq n _ r c=>.lst (f _ _ q λz=>absurd (c _ z) n) n r) (λq _ r c=>.fzm (f.fzm q c) r) (λq n _ r c=>.dct (f _ _ q λz=>absurd (c _ z) n) n r) (λq _ r _=>.ktb q r) (λp q r _=>.exn p (f _ _ q λ_=>trivial) r)
  (λp q r s _ t _=>.exr p (f _ _ q λ_=>trivial) r (f _ _ s λ_=>trivial) (t e)) (λq n _ r c=>.nst (q.fr f λz=>n (c _ z)) n r) .nil (λ_ _ a b=>.cons (a e) b) h c
def cG.map{c:Ah}{N':Ub->Prop}{H':Hp}(g:∀{v d},bV K N H N v d->bV c N' H' N' v d):∀{vs:List V}{ds:List c6},cG K N H vs ds->cG c N' H' vs ds:=by
 intro vs;induction vs with
 |nil=>intro ds h;cases h;exact .nil
 |cons v vs e=>intro ds h;cases h with|cons a b=>exact .cons (g a) (e b)
def cG.fr(f:Fr P H H')(b:∀a,P a->N a){vs:List V}{ds:List c6}(h:cG K N H vs ds):cG K N H' vs ds:=h.map λr=>r.fr f b b
def bV.mono(e:∀a,N' a->N a){M M':Ub->Prop}{v:V}{d:c6}(c:∀a,M' a->M a)(h:bV K N H M v d):bV K N' H M' v d:=
 bV.rec (motive_1:=λM v d _=>∀M',(∀a,M' a->M a)->bV K N' H M' v d) (motive_2:=λvs ds _=>cG K N' H vs ds) (λ_ _=>.non) (λb _ _=>.bl b) (λi _ _=>.int i) (λx _ _=>.str x) (λn _ _=>.ty n) (λq _ _=>.fn q) (λq _ r _ _=>.tup q r)
  (λq n _ r _ c=>.lst q (λz=>n (c _ z)) r) (λq _ r _ c=>.fzm (q.imp id λ⟨x,f,sub,h1,h2,n,z⟩=>⟨x,f,sub,h1,h2,λw=>n (c _ w),z⟩) r) (λq n _ r _ c=>.dct q (λz=>n (c _ z)) r) (λq _ r _ _=>.ktb q r) (λp q r _ _=>.exn p q r) (λp q r s _ t _ _=>.exr p q r s (t _ e)) (λq n _ r _ c=>.nst q (λz=>n (c _ z)) r) .nil (λ_ _ a b=>.cons (a _ e) b) h M' c
def cG.mono(b:∀a,N' a->N a){vs:List V}{ds:List c6}(h:cG K N H vs ds):cG K N' H vs ds:=h.map λr=>r.mono b b
def bV.same(f:bH H H'){v:V}{d:c6}(h:bV K N H M v d):bV K N H' M v d:=h.fr f.fr (λ_ z=>z.elim) (P:=λ_=>False) λ_ z=>z.elim
def cG.same(f:bH H H'){vs:List V}{ds:List c6}(h:cG K N H vs ds):cG K N H' vs ds:=h.fr f.fr (P:=λ_=>False) λ_ z=>z.elim
theorem cG.length:∀{vs:List V}{ds:List c6},cG K N H vs ds->vs.length=ds.length
 |_,_,.nil=>rfl
 |_,_,.cons _ t=>congrArg (· +1) (cG.length t)
theorem cG.append:∀{vs a:List V}{ds es:List c6},cG K N H vs ds->cG K N H a es->cG K N H (vs++a) (ds++es)
 |_,_,_,_,.nil,s=>s
 |_,_,_,_,.cons h t,s=>.cons h (cG.append t s)
theorem cG.get:∀{vs:List V}{ds:List c6}{i:Nat}{d:c6},cG K N H vs ds->ds[i]?=b3 d->∃v,vs[i]?=b3 v/\bV K N H N v d
 |_,_,_,_,.nil,e=>by simp at e
 |_,_,0,_,.cons r _,e=>by simp at e;subst e;exact⟨_,rfl,r⟩
 |_,_,i+1,x,.cons _ t,e=>by obtain⟨u,h1,h2⟩:=cG.get (i:=i) (d:=x) t (by simpa using e);exact⟨u,by simpa using h1,h2⟩
theorem cG.take:∀{vs:List V}{ds:List c6}(n:Nat),cG K N H vs ds->cG K N H (vs.take n) (ds.take n)
 |_,_,0,_=>.nil
 |_,_,_+1,.nil=>.nil
 |_,_,n+1,.cons r t=>.cons r (cG.take n t)
theorem cG.drop:∀{vs:List V}{ds:List c6}(n:Nat),cG K N H vs ds->cG K N H (vs.drop n) (ds.drop n)
 |_,_,0,r=>r
 |_,_,_+1,.nil=>.nil
 |_,_,n+1,.cons _ t=>cG.drop n t
def cG.snoc{vs:List V}{ds:List c6}{v:V}{d:c6}(r:cG K N H vs ds)(h:bV K N H N v d):cG K N H (vs++[v]) (ds++[d]):=r.append (.cons h .nil)
end
mutual
def c6.isD:c6->Bool
 |.non=>ba
 |.bl _=>ba
 |.int _=>ba
 |.str _=>ba
 |.ty _=>bb
 |.fn _=>bb
 |.tup ds=>G1 ds
 |.lst ds=>G1 ds
 |.dct _ _=>bb
 |.exn _=>bb
 |.exr _ _ _=>bb
 |.nst _ _=>bb
def G1:List c6->Bool
 |[]=>ba
 |d::ds=>d.isD&&G1 ds
end
mutual
def c6.pd:c6->Nh
 |.non=>.none
 |.bl b=>.bool b
 |.int i=>.int i
 |.str x=>.str x
 |.ty _=>.none
 |.fn _=>.none
 |.tup ds=>.tuple (pds ds)
 |.lst ds=>.list (pds ds)
 |.dct _ _=>.none
 |.exn _=>.none
 |.exr _ _ _=>.none
 |.nst _ _=>.none
def pds:List c6->List Nh
 |[]=>[]
 |d::ds=>d.pd::pds ds
end
mutual
def c6.hard:c6->Bool
 |.tup ds=>U8 ds
 |.lst _=>bb
 |.dct _ _=>bb
 |.exr _ _ _=>bb
 |.nst _ _=>bb
 |_=>ba
def U8:List c6->Bool
 |[]=>ba
 |d::ds=>d.hard&&U8 ds
end
section
variable{K:Ah}{N:Ub->Prop}{H:Hp}
def bV.dp{M:Ub->Prop}{v:V}{d:c6}(h:bV K N H M v d)(e:d.isD=ba):Dp K H v d.pd:=
 bV.rec (motive_1:=λM v d _=>d.isD=ba->Dp K H v d.pd) (motive_2:=λvs ds _=>G1 ds=ba->MZ K H vs (pds ds)) (λ_=>.non) (λb _=>.bl b) (λi _=>.int i) (λx _=>.str x) (λ_ h=>nomatch h) (λ_ h=>nomatch h) (λq _ r h=>.tup q (r h))
  (λq _ _ r h=>.lst (X9.of q) (r h)) (λq _ r h=>.lst q.sq (r h)) (λ_ _ _ _ h=>nomatch h) (λ_ _ _ h=>nomatch h) (λ_ _ _ h=>nomatch h) (λ_ _ _ _ _ _ h=>nomatch h) (λ_ _ _ _ h=>nomatch h) (λ_=>.nil) (λ_ _ a b e=>.cons (a (Du.mp e).1) (b (Du.mp e).2)) h e
def bV.hard{N':Ub->Prop}{M M':Ub->Prop}{v:V}{d:c6}(h:bV K N H M v d)(e:d.hard=ba):bV K N' H M' v d:=
 bV.rec (motive_1:=λM v d _=>∀M',d.hard=ba->bV K N' H M' v d) (motive_2:=λvs ds _=>U8 ds=ba->cG K N' H vs ds) (λ_ _=>.non) (λb _ _=>.bl b) (λi _ _=>.int i) (λx _ _=>.str x) (λn _ _=>.ty n) (λq _ _=>.fn q) (λq _ r _ h=>.tup q (r h))
  (λ_ _ _ _ _ h=>nomatch h) (λ_ _ _ _ h=>nomatch h) (λ_ _ _ _ _ h=>nomatch h) (λ_ _ _ _ h=>nomatch h) (λp q r _ _=>.exn p q r) (λ_ _ _ _ _ _ _ h=>nomatch h) (λ_ _ _ _ _ h=>nomatch h) (λ_=>.nil) (λ_ _ a b e=>.cons (a _ (Du.mp e).1) (b (Du.mp e).2)) h M' e
def cG.hard{N':Ub->Prop}:∀{vs:List V}{ds:List c6},cG K N H vs ds->U8 ds=ba->cG K N' H vs ds:=by
 intro vs;induction vs with
 |nil=>intro ds h _;cases h;exact .nil
 |cons v vs c=>intro ds h e;cases h with|cons a b=>exact .cons (a.hard (Du.mp e).1) (c b (Du.mp e).2)
end
inductive Sl where
 |no|va (d:c6)|ow (d:c6)
abbrev Ev:=List Sl
structure Bs where
 Z:Ub->Prop
 P:Ub->Prop
 H0:Hp
 mu:Nat->Option Ub
 kp:List (V×c6)
def Nn(B:Bs)(O:Nat->Option Ub):Ub->Prop:=λa=>B.Z a∨∃i,O i=b3 a
def OA(O:Nat->Option Ub):Ub->Prop:=λa=>∃i,O i=b3 a
inductive SU(K:Ah)(N:Ub->Prop)(H:Hp)(a:Ub):c6->Prop
 |lst {xs:List V}{ds:List c6}:H a=b3 (.lst xs)->cG K N H xs ds->SU K N H a (.lst ds)
 |dct {kvs:List (aY×V)}{ds:List c6}:H a=b3 (.dK kvs)->cG K N H (kvs.map Er) ds->SU K N H a (.dct (kvs.map Dh) ds)
 |nst {sh:List (Option Nat)}{vs:List V}{ds:List c6}:T8 H a sh vs->cG K N H vs ds->SU K N H a (.nst sh ds)
theorem SU.fr{K:Ah}{N P:Ub->Prop}{H H':Hp}{a:Ub}{d:c6}(f:Fr P H H')(c:∀a,P a->N a)(b:¬P a):SU K N H a d->SU K N H' a d
 |.lst q r=>.lst (f _ _ q λz=>absurd z b) (r.fr f c)
 |.dct q r=>.dct (f _ _ q λz=>absurd z b) (r.fr f c)
 |.nst q r=>.nst (q.fr f b) (r.fr f c)
theorem SU.mono{K:Ah}{N N':Ub->Prop}{H:Hp}{a:Ub}{d:c6}(h:∀b,N' b->N b):SU K N H a d->SU K N' H a d
 |.lst q r=>.lst q (r.mono h)
 |.dct q r=>.dct q (r.mono h)
 |.nst q r=>.nst q (r.mono h)
def SU.soft{K:Ah}{N:Ub->Prop}{H:Hp}{a:Ub}{d:c6}(h:SU K N H a d):∃o,H a=b3 o/\¬Hard o:=by
 cases h with
 |lst q _=>exact⟨_,q,λz=>z⟩
 |dct q _=>exact⟨_,q,λz=>z⟩
 |nst q _=>exact q.there
def SU.rep{K:Ah}{N M:Ub->Prop}{H:Hp}{a:Ub}{d:c6}(h:SU K N H a d)(b:¬M a):bV K N H M (.ref a) d:=by
 cases h with
 |lst q r=>exact .lst q b r
 |dct q r=>exact .dct q b r
 |nst q r=>exact .nst q b r
structure a7(K:Ah)(ml:List Nat)(B:Bs)(O:Nat->Option Ub)(H:Hp)(σ:St)(δ:Ev):Prop where
 len:σ.length=δ.length
 va:∀(i:Nat) (d:c6),δ[i]?=b3 (Sl.va d)->∃v,σ[i]?=b3 (b3 v)/\bV K (Nn B O) H (Nn B O) v d
 ow:∀(i:Nat) (d:c6),δ[i]?=b3 (Sl.ow d)->∃a,O i=b3 a/\σ[i]?=b3 (b3 (.ref a))/\SU K (Nn B O) H a d
 dom:∀(i:Nat) a,O i=b3 a->∃d,δ[i]?=b3 (Sl.ow d)
 inj:∀i j a,O i=b3 a->O j=b3 a->i=j
 old:∀i a,O i=b3 a->¬B.Z a/\(B.P a∨B.H0 a=b4)
 zin:∀a,B.Z a->∃o,H a=b3 o
 frm:Fr B.P B.H0 H
 par:(∀i a,B.mu i=b3 a->i∈ml)/\∀i∈ml,O i=B.mu i
 pin:∀a,B.P a->∃o,H a=b3 o
 kep:∀p∈B.kp,bV K (Nn B O) H (Nn B O) p.1 p.2
section
variable{K:Ah}{ml:List Nat}{B:Bs}{O:Nat->Option Ub}{H H':Hp}{σ:St}{δ δ':Ev}
def a7.nin(S:a7 K ml B O H σ δ){a:Ub}(h:Nn B O a):∃o,H a=b3 o:=by
 rcases h with h|⟨i,h⟩
 ·exact S.zin a h
 ·obtain⟨d,e⟩:=S.dom i a h
  obtain⟨c,b,_,w⟩:=S.ow i d e;rw[h]at b;cases b;obtain⟨o,q,_⟩:=w.soft;exact⟨o,q⟩
def a7.new(S:a7 K ml B O H σ δ){a:Ub}(h:H a=b4):¬Nn B O a:=λz=>by obtain⟨o,q⟩:=S.nin z;rw[h]at q;cases q
def a7.same(S:a7 K ml B O H σ δ)(f:bH H H'):a7 K ml B O H' σ δ where
 len:=S.len
 va:=λi d e=>let ⟨v,a,b⟩:=S.va i d e;⟨v,a,b.same f⟩
 ow:=λi d e=>let ⟨a,b,c,w⟩:=S.ow i d e;⟨a,b,c,w.fr (P:=λ_=>False) f.fr (λ_ z=>z.elim) λz=>z⟩
 dom:=S.dom
 inj:=S.inj
 old:=S.old
 zin:=λa h=>let ⟨o,q⟩:=S.zin a h;⟨o,f _ _ q⟩
 frm:=S.frm.trans f.fr
 par:=S.par
 pin:=λa h=>let ⟨o,q⟩:=S.pin a h;⟨o,f _ _ q⟩
 kep:=λp h=>(S.kep p h).same f
def a7.fresh(S:a7 K ml B O H σ δ){a:Ub}(h:H a=b4):B.H0 a=b4:=by
 cases q:B.H0 a with
 |none=>rfl
 |some o=>
  by_cases b:B.P a
  ·obtain⟨o',e⟩:=S.pin a b
   rw[h]at e;cases e
  ·have := S.frm a o q λz => absurd z b
   rw[h]at this;cases this
def Bs.add(B:Bs)(p:Ub):Bs:={B with Z:=λa=>B.Z a∨a=p}
def SN{p:Ub}:∀a,Nn B O a->Nn (B.add p) O a:=λa h=>by
 rcases h with h|h
 ·exact .inl (.inl h)
 ·exact .inr h
def bV.away{p:Ub}(j:H p=b4)(N N':Ub->Prop)(f:∀a,N' a->N a∨a=p){M M':Ub->Prop}{v:V}{d:c6}(c:∀a,M' a->M a∨a=p)(h:bV K N H M v d):bV K N' H M' v d:=
 have no:∀{a:Ub}{o:HO}{M M':Ub->Prop},H a=b3 o->¬M a->(∀a,M' a->M a∨a=p)->¬M' a:=λq n c z=>(c _ z).elim n λe=>by rw[e,j]at q;cases q
 bV.rec (motive_1:=λM v d _=>∀M',(∀a,M' a->M a∨a=p)->bV K N' H M' v d) (motive_2:=λvs ds _=>cG K N' H vs ds) (λ_ _=>.non) (λb _ _=>.bl b) (λi _ _=>.int i) (λx _ _=>.str x) (λn _ _=>.ty n) (λq _ _=>.fn q) (λq _ r _ _=>.tup q r)
  (λq n _ r _ c=>.lst q (no q n c) r) (λq _ r _ c=>.fzm (q.imp id λ⟨x,g,sub,h1,h2,n,z⟩=>⟨x,g,sub,h1,h2,no h2 n c,z⟩) r) (λq n _ r _ c=>.dct q (no q n c) r) (λq _ r _ _=>.ktb q r) (λp q r _ _=>.exn p q r) (λp q r s _ t _ _=>.exr p q r s (t _ f)) (λq n _ r _ c=>.nst q (let ⟨_,e,_⟩:=q.there;no e n c) r) .nil (λ_ _ a b=>.cons (a _ f) b) h M' c
def cG.away{p:Ub}(c:H p=b4)(N N':Ub->Prop)(b:∀a,N' a->N a∨a=p){vs:List V}{ds:List c6}(h:cG K N H vs ds):cG K N' H vs ds:=h.map λr=>r.away c N N' b b
def XD{p:Ub}:∀a,Nn (B.add p) O a->Nn B O a∨a=p:=λa h=>by
 rcases h with(h|h)|h
 ·exact .inl (.inl h)
 ·exact .inr h
 ·exact .inl (.inr h)
def a7.laid(S:a7 K ml B O H σ δ){p:Ub}{o:HO}(f:H p=b4):a7 K ml (B.add p) O (upd H p o) σ δ where
 len:=S.len
 va:=λi d e=>let ⟨v,a,b⟩:=S.va i d e;⟨v,a,(b.away f _ _ XD XD).same (cW f)⟩
 ow:=λi d e=>by
  obtain⟨a,b,c,w⟩:=S.ow i d e;refine⟨a,b,c,?_⟩;have g:∀o,H a=b3 o->upd H p o=upd H p o:=λ_ _=>rfl;cases w with
  |lst q r=>exact .lst (cW f _ _ q) ((r.away f _ _ XD).same (cW f))
  |dct q r=>exact .dct (cW f _ _ q) ((r.away f _ _ XD).same (cW f))
  |nst q r=>exact .nst (q.same (cW f)) ((r.away f _ _ XD).same (cW f))
 dom:=S.dom
 inj:=S.inj
 old:=λi a h=>by
  refine⟨λz=>?_,(S.old i a h).2⟩;rcases z with z|z
  ·exact(S.old i a h).1 z
  ·obtain⟨o,q⟩:=S.nin (.inr ⟨i,h⟩)
   rw[z,f]at q;cases q
 zin:=λa h=>by
  rcases h with h|h
  ·obtain⟨o,q⟩:=S.zin a h
   exact⟨o,cW f _ _ q⟩
  ·exact⟨_,by rw[h];exact cH⟩
 frm:=S.frm.trans (cW f).fr
 par:=S.par
 pin:=λa h=>let ⟨o,q⟩:=S.pin a h;⟨o,cW f _ _ q⟩
 kep:=λp h=>((S.kep p h).away f _ _ XD XD).same (cW f)
def PP{i:Nat}{o:Option Ub}:∀a,Nn B (λj=>if j=i then b4 else O j) a->Nn B O a:=λa h=>by
 rcases h with h|⟨j,h⟩
 ·exact .inl h
 ·refine .inr ⟨j,?_⟩
  by_cases b:j=i
  ·simp[b]at h
  ·simpa[b]using h
def T6{α:Type}{l:List α}{i j:Nat}{x y:α}(h:(l.set i x)[j]?=b3 y):(j=i/\y=x/\i<l.length)∨(j≠i/\l[j]?=b3 y):=by
 by_cases a:j=i
 ·subst a
  rw[List.getElem?_set_self']at h;obtain⟨z,q,h⟩:=Ao.mp h;cases h;exact .inl ⟨rfl,rfl,(Ag.mp q).1⟩
 ·rw[By (Di a)]at h
  exact .inr ⟨a,h⟩
def a7.setVa(S:a7 K ml B O H σ δ){i:Nat}{v:V}{d:c6}(m:i∉ml)(h:bV K (Nn B O) H (Nn B O) v d):a7 K ml B (λj=>if j=i then b4 else O j) H (σ.set i (b3 v)) (δ.set i (.va d)) where
 len:=by rw[Cc,Cc,S.len]
 va:=λj e q=>by
  rcases T6 q with⟨rfl,z,hl⟩|⟨b,q⟩
  ·cases z
   exact⟨v,by rw[Dd (by rw[S.len];exact hl)],h.mono (PP (o:=b4)) (PP (o:=b4))⟩
  ·obtain⟨u,c,r⟩:=S.va j e q
   exact⟨u,by rw[By (Di b)];exact c,r.mono (PP (o:=b4)) (PP (o:=b4))⟩
 ow:=λj e q=>by
  rcases T6 q with⟨rfl,z,hl⟩|⟨b,q⟩
  ·cases z
  ·obtain⟨a,c,f,w⟩:=S.ow j e q
   exact⟨a,by simpa[b]using c,by rw[By (Di b)];exact f,w.mono (PP (o:=b4))⟩
 dom:=λj a e=>by
  by_cases b:j=i
  ·simp[b]at e
  ·obtain ⟨d,q⟩ := S.dom j a (by simpa [b]using e)
   exact⟨d,by rw[By (Di b)];exact q⟩
 inj:=λj k a c f=>by
  by_cases b:j=i
  ·simp[b]at c
  ·by_cases hk:k=i
   ·simp[hk]at f
   ·exact S.inj j k a (by simpa[b]using c) (by simpa[hk]using f)
 old:=λj a e=>by
  by_cases b:j=i
  ·simp[b]at e
  ·exact S.old j a (by simpa[b]using e)
 zin:=S.zin
 frm:=S.frm
 par:=⟨S.par.1,λj b=>by have g:j≠i:=λz=>m (z▸b);have h2:O j=B.mu j:=S.par.2 j b;simpa[g]using h2⟩
 pin:=S.pin
 kep:=λp l=>(S.kep p l).mono (PP (o:=b4)) (PP (o:=b4))
def QE{i:Nat}{p:Ub}:∀a,Nn B (λj=>if j=i then b3 p else O j) a->Nn (B.add p) O a:=λa h=>by
 rcases h with h|⟨j,h⟩
 ·exact .inl (.inl h)
 ·by_cases b:j=i
  ·simp[b]at h
   exact .inl (.inr h.symm)
  ·exact .inr ⟨j,by simpa[b]using h⟩
def a7.setOw{p:Ub}(S:a7 K ml (B.add p) O H σ δ){i:Nat}{d:c6}(m:i∉ml)(hl:i<δ.length)(hz:¬B.Z p)(n:B.H0 p=b4)(h:SU K (Nn (B.add p) O) H p d):
  a7 K ml B (λj=>if j=i then b3 p else O j) H (σ.set i (b3 (.ref p))) (δ.set i (.ow d)) where
 len:=by rw[Cc,Cc,S.len]
 va:=λj e q=>by
  rcases T6 q with⟨rfl,z,_⟩|⟨b,q⟩
  ·cases z
  ·obtain⟨u,c,r⟩:=S.va j e q
   exact⟨u,by rw[By (Di b)];exact c,r.mono QE QE⟩
 ow:=λj e q=>by
  rcases T6 q with⟨rfl,z,hl⟩|⟨b,q⟩
  ·cases z
   exact⟨p,by simp,by rw[Dd (by rw[S.len];exact hl)],h.mono QE⟩
  ·obtain⟨a,c,f,w⟩:=S.ow j e q
   exact⟨a,by simpa[b]using c,by rw[By (Di b)];exact f,w.mono QE⟩
 dom:=λj a e=>by
  by_cases b:j=i
  ·subst b
   exact⟨d,by rw[Dd hl]⟩
  ·obtain ⟨d,q⟩ := S.dom j a (by simpa [b]using e)
   exact⟨d,by rw[By (Di b)];exact q⟩
 inj:=λj k a c f=>by
  by_cases b:j=i
  ·by_cases hk:k=i
   ·rw[b,hk]
   ·simp[b]at c
    simp[hk]at f;exact absurd (.inr c.symm) (S.old k a f).1
  ·by_cases hk:k=i
   ·simp[hk]at f
    simp[b]at c;exact absurd (.inr f.symm) (S.old j a c).1
   ·exact S.inj j k a (by simpa[b]using c) (by simpa[hk]using f)
 old:=λj a e=>by
  by_cases b:j=i
  ·simp[b]at e
   subst e;exact⟨hz,.inr n⟩
  ·have := S.old j a (by simpa [b]using e)
   exact⟨λz=>this.1 (.inl z),this.2⟩
 zin:=λa h=>S.zin a (.inl h)
 frm:=S.frm
 par:=⟨S.par.1,λj b=>by have g:j≠i:=λz=>m (z▸b);have h2:O j=B.mu j:=S.par.2 j b;simpa[g]using h2⟩
 pin:=S.pin
 kep:=λp l=>(S.kep p l).mono QE QE
def a7.wrote(S:a7 K ml B O H σ δ){i:Nat}{a:Ub}{d:c6}{o:HO}(e:O i=b3 a)(D:¬Hard o)(h:SU K (Nn B O) (upd H a o) a d):a7 K ml B O (upd H a o) σ (δ.set i (.ow d)):=by
 have x:Fr (λb=>b=a) H (upd H a o):=λb u q n=>by
  by_cases f:b=a
  ·subst f
   obtain⟨d',s⟩:=S.dom i b e;obtain⟨m,c,_,w⟩:=S.ow i d' s;rw[e]at c;cases c;obtain⟨A,q1,t⟩:=w.soft;rw[q]at q1;cases q1;exact absurd (n rfl) t
  ·rw[cB f]
   exact q
 have l:∀b,b=a->Nn B O b:=λb z=>.inr ⟨i,z▸e⟩;have k:∀b,(∃u,H b=b3 u)->∃u,upd H a o b=b3 u:=λb q0=>by
  obtain⟨u,q⟩:=q0;by_cases f:b=a
  ·exact⟨o,by rw[f];exact cH⟩
  ·exact⟨u,by rw[cB f];exact q⟩
 refine⟨by rw[Cc,S.len],λj d' q=>?_,λj d' q=>?_,λj b q=>?_,S.inj,S.old,λb h=>k b (S.zin b h),?_,S.par,λb h=>k b (S.pin b h),λp C=>(S.kep p C).fr x l l⟩
 ·rcases T6 q with⟨_,z,_⟩|⟨g,q⟩
  ·cases z
  ·obtain⟨v,c,r⟩:=S.va j d' q
   exact⟨v,c,r.fr x l l⟩
 ·rcases T6 q with⟨rfl,z,hl⟩|⟨g,q⟩
  ·cases z
   obtain⟨d0,q0⟩:=S.dom j a e;obtain⟨m,c,y,_⟩:=S.ow j d0 q0;rw[e]at c;cases c;exact⟨a,e,y,h⟩
  ·obtain⟨m,c,y,w⟩:=S.ow j d' q
   exact⟨m,c,y,w.fr x l λz=>g (S.inj j i a (z▸c) e)⟩
 ·by_cases g:j=i
  ·subst g
   obtain⟨d0,q0⟩:=S.dom j b q;exact⟨d,by rw[Dd (Ag.mp q0).1]⟩
  ·obtain⟨d0,q0⟩:=S.dom j b q
   exact⟨d0,by rw[By (Di g)];exact q0⟩
 ·intro b u q n
  have h1:=S.frm b u q n;by_cases f:b=a
  ·subst f
   rcases(S.old i b e).2 with z|z
   ·obtain⟨d',s⟩:=S.dom i b e
    obtain⟨m,c,_,w⟩:=S.ow i d' s;rw[e]at c;cases c;obtain⟨A,q1,t⟩:=w.soft;rw[h1]at q1;cases q1;exact absurd (n z) t
   ·rw[q]at z
    cases z
  ·rw[cB f]
   exact h1
def a7.keepV(S:a7 K ml B O H σ δ){ps:List (V×c6)}(h:∀p∈ps,bV K (Nn B O) H (Nn B O) p.1 p.2):a7 K ml {B with kp:=ps++B.kp} O H σ δ:=
 ⟨S.len,S.va,S.ow,S.dom,S.inj,S.old,S.zin,S.frm,S.par,S.pin,λp a=>(Bx.mp a).elim (h p) (S.kep p)⟩
def a7.unkeep{ps:List (V×c6)}(S:a7 K ml {B with kp:=ps++B.kp} O H σ δ):a7 K ml B O H σ δ:=
 ⟨S.len,S.va,S.ow,S.dom,S.inj,S.old,S.zin,S.frm,S.par,S.pin,λp a=>S.kep p (Bq _ a)⟩
end
def rz(B:Bs):Ub->Prop:=λa=>B.Z a∨∃i,B.mu i=b3 a
def av(B:Bs)(O:Nat->Option Ub)(b:Bool):Ub->Prop:=if b then Nn B O else λa=>Nn B O a/\rz B a
def at_(B:Bs)(O:Nat->Option Ub)(b:Bool):Ub->Prop:=if b then Nn B O else λ_=>False
def Xs{B:Bs}{O:Nat->Option Ub}{b:Bool}:∀a,at_ B O b a->av B O b a:=λa h=>by
 cases b with
 |true=>exact h
 |false=>exact h.elim
def lB{B:Bs}{O:Nat->Option Ub}{b c:Bool}(h:b=ba->c=ba):∀a,at_ B O b a->at_ B O c a:=λa z=>by
 cases b with
 |true=>rw[h rfl];exact z
 |false=>exact z.elim
def a7.rzn{K:Ah}{ml:List Nat}{B:Bs}{O:Nat->Option Ub}{H:Hp}{σ:St}{δ:Ev}(S:a7 K ml B O H σ δ):∀a,rz B a->Nn B O a:=λa h=>by
 rcases h with h|⟨i,h⟩
 ·exact .inl h
 ·exact .inr ⟨i,(S.par.2 i (S.par.1 i a h)).trans h⟩
def a7.rza{K:Ah}{ml:List Nat}{B:Bs}{O:Nat->Option Ub}{H:Hp}{σ:St}{δ:Ev}(S:a7 K ml B O H σ δ){b:Bool}:∀a,rz B a->av B O b a:=λa h=>by
 cases b with
 |true=>exact S.rzn a h
 |false=>exact⟨S.rzn a h,h⟩
def OI{B:Bs}{O:Nat->Option Ub}{b c:Bool}(h:b=ba->c=ba):∀a,av B O b a->av B O c a:=λa z=>by
 cases b with
 |true=>rw[h rfl];exact z
 |false=>cases c with
  |true=>exact z.1
  |false=>exact z
structure Res(K:Ah)(ml:List Nat)(B:Bs)(O:Nat->Option Ub)(H:Hp)(σ:St)(pu bt bi:Bool)(H':Hp)(δ':Ev)(v:V)(d:c6):Prop where
 sta:a7 K ml B O H' σ δ'
 frm:Fr (OA O) H H'
 pur:pu=ba->bH H H'
 rep:bV K (av B O bi) H' (at_ B O bt) v d
abbrev VF:=Ev->Option (c6×Ev)
inductive TVi(K:Ah)(ml:List Nat)(pu bt bi:Bool)(f:VF)(σ:St)(H:Hp)(Q:VK):Prop
 |mk (B:_) (O:_) (δ:_) (d:_) (δ':_) (h0:a7 K ml B O H σ δ) (h1:f δ=b3 (d,δ')) (h2:∀v H',Res K ml B O H σ pu bt bi H' δ' v d->Q v H'):TVi K ml pu bt bi f σ H Q
def TV(K:Ah)(ml:List Nat)(pu bt bi:Bool)(f:VF):TE:=λσ H Q=>TVi K ml pu bt bi f σ H Q
def PE.imp{X:Cx}{e:Uh}{t u:TE}(h:PE X e t)(k:∀σ H Q,u σ H Q->t σ H Q):PE X e u:=λaa s σ H Q I w=>h aa s σ H Q I (k σ H Q w)
def PT.imp{X:Cx}{e:Uh}{t u:TT}(h:PT X e t)(k:∀σ H Q,u σ H Q->t σ H Q):PT X e u:=λaa s σ H Q I w=>h aa s σ H Q I (k σ H Q w)
def PW.imp{X:Cx}{e:Uh}{t u:TT}(h:PW X e t)(k:∀σ H Q,u σ H Q->t σ H Q):PW X e u:=λa aa s σ H Q I w=>h a aa s σ H Q I (k σ H Q w)
def PA.imp{X:Cx}{e:List Uh}{t u:TA}(h:PA X e t)(k:∀σ H Q,u σ H Q->t σ H Q):PA X e u:=λpos aa s σ H Q I w=>h pos aa s σ H Q I (k σ H Q w)
def PS.imp{X:Cx}{e:Um}{t u:TS}(h:PS X e t)(k:∀D σ H,u D σ H->t D σ H):PS X e u:=λaa s σ H D I w=>h aa s σ H D I (k D σ H w)
def WU.imp{X:Cx}{e:List Um}{t u:TS}(h:WU X e t)(k:∀D σ H,u D σ H->t D σ H):WU X e u:=λaa s σ H D I w=>h aa s σ H D I (k D σ H w)
section
variable{X:Cx}{K:Ah}{ml:List Nat}{e a b c:Uh}{pa ta ia pb tb ib pc tc ic:Bool}{fa fb fc:VF}{r:R2}{o:c6->c6->Option c6}{B:Bs}{O:Nat->Option Ub}{H H1 H':Hp}{σ:St}{δ δ':Ev}{v:V}{d:c6}
def fC(d:c6):VF:=λδ=>b3 (d,δ)
def Res.refl{pu bt bi:Bool}(S:a7 K ml B O H σ δ)(h:bV K (av B O bi) H (at_ B O bt) v d):Res K ml B O H σ pu bt bi H δ v d:=⟨S,Fr.refl _ _,λ_=>bH.refl _,h⟩
def CP(h:PE X e (tC v))(b:∀N H M,bV K N H M v d):PE X e (TV K ml ba ba ba (fC d)):=h.imp λσ H Q a=>by obtain⟨B,O,δ,d',δ',S,q,k⟩:=a;cases q;exact k v H (Res.refl S (b _ _ _))
def c5{i j pos}:PE X (.Constant (.int i) j pos) (TV K ml ba ba ba (fC (.int i))):=CP X4 λ_ _ _=>.int i
def Z0{i j pos}:PE X (.Constant (.bool i) j pos) (TV K ml ba ba ba (fC (.bl i))):=CP qk λ_ _ _=>.bl i
def YV{j pos}:PE X (.Constant .none j pos) (TV K ml ba ba ba (fC .non)):=CP fH λ_ _ _=>.non
def cN{i j pos}:PE X (.Constant (.str i) j pos) (TV K ml ba ba ba (fC (.str i))):=CP Wn λ_ _ _=>.str i
noncomputable def fV(i:Nat):VF:=λδ=>match δ[i]? with
 |some (.va d)=>b3 (d,δ)
 |_=>b4
noncomputable def fO(i:Nat):VF:=λδ=>match δ[i]? with
 |some (.va d)=>b3 (d,δ)
 |some (.ow d)=>b3 (d,δ)
 |_=>b4
def qt{i:Nat}(h:PE X e (WH i)):PE X e (TV K ml ba ba ba (fV i)):=h.imp λσ H Q a=>by
 obtain⟨B,O,δ,d',δ',S,q,k⟩:=a;unfold fV at q;split at q
 ·rename_i d hd
  cases q;obtain⟨v,b,r⟩:=S.va i _ hd;exact⟨v,b,k v H (Res.refl S r)⟩
 ·cases q
def fD{i:Nat}(h:PE X e (WH i)):PE X e (TV K ml ba bb ba (fO i)):=h.imp λσ H Q b=>by
 obtain⟨B,O,δ,d',δ',S,q,k⟩:=b;unfold fO at q;split at q
 ·rename_i d hd
  cases q;obtain⟨v,c,r⟩:=S.va i _ hd;exact⟨v,c,k v H (Res.refl S (r.mono (λ_ z=>z) λa z=>z.elim))⟩
 ·rename_i d hd
  cases q;obtain⟨a,c,f,w⟩:=S.ow i _ hd;exact⟨.ref a,f,k _ H (Res.refl S (w.rep λz=>z))⟩
 ·cases q
def Res.live{H2:Hp}{c:V}{e:c6}(R2:Res K ml B O H1 σ pb tb ib H2 δ' c e)(b:(pb || (ta&&ia))=ba)(h:bV K (av B O ia) H1 (at_ B O ta) v d):bV K (av B O ia) H2 (at_ B O ta) v d:=by
 cases pb with
 |true=>exact h.same (R2.pur rfl)
 |false=>
  have b:(ta&&ia)=ba:=by simpa using b
  obtain⟨h1,h2⟩:=(Af _ _).mp b;subst h1 h2;exact h.fr R2.frm (λa z=>.inr z) λa z=>.inr z
noncomputable def f2(o:c6->c6->Option c6)(fa fb:VF):VF:=λδ=>(fa δ).bind λp=>(fb p.2).bind λq=>(o p.1 q.1).map λc=>(c,q.2)
def RY{δ2:Ev}(h:f2 o fa fb δ=b3 (d,δ2)):∃x δ1 y,fa δ=b3 (x,δ1)/\fb δ1=b3 (y,δ2)/\o x y=b3 d:=by
 unfold f2 at h;cases h1:fa δ with
 |none=>rw[h1]at h;cases h
 |some p=>
  rw[h1]at h;cases h2:fb p.2 with
  |none=>simp[h2]at h
  |some q=>
   simp only[Ar,h2]at h;obtain⟨c,a,h⟩:=Ao.mp h;cases h;exact⟨p.1,p.2,q.1,rfl,h2,a⟩
def QP(K:Ah)(r:R2)(o:c6->c6->Option c6):Prop:=∀(H:Hp) (N N' M M':Ub->Prop) (x y:V) (d e c:c6) (Q:VK),bV K N H M x d->bV K N' H M' y e->o d e=b3 c->(∀v,(∀H' N M,bV K N H' M v c)->Q v H)->r x y H Q
def OpC(K:Ah)(r:R2)(o:c6->c6->Option c6):Prop:=∀(H:Hp) (N M M':Ub->Prop) (x y:V) (d e c:c6) (Q:VK),bV K N H M x d->bV K N H M' y e->o d e=b3 c->
 (∀v H',bH H H'->(∀M,(∀a,M a->∃o,H a=b3 o)->bV K N H' M v c)->Q v H')->r x y H Q
def OpI(K:Ah)(r:R2)(o:c6->c6->Option c6):Prop:=∀(H:Hp) (N N' M M':Ub->Prop) (x y:V) (d e c:c6) (Q:VK),bV K N H M x d->bV K N' H M' y e->o d e=b3 c->(∀v,bV K N H N v c->Q v H)->r x y H Q
def GF(j:QP K r o)(i:(pb || (ta&&ia))=ba){Q:VK}(h:TV K ml (pa&&pb) ba ba (f2 o fa fb) σ H Q):tOp r (TV K ml pa ta ia fa) (TV K ml pb tb ib fb) σ H Q:=by
 obtain⟨B,O,δ,d,δ2,S,q,k⟩:=h;obtain⟨x,δ1,y,h1,h2,l⟩:=RY q;refine⟨B,O,δ,x,δ1,S,h1,λf H1 a=>⟨B,O,δ1,y,δ2,a.sta,h2,λe H2 R2=>?_⟩⟩;exact j H2 _ _ _ _ f e x y d Q (R2.live i a.rep) R2.rep l λv g=>k v H2 ⟨R2.sta,a.frm.trans R2.frm,λz=>by obtain⟨c,b⟩:=(Af _ _).mp z;exact(a.pur c).trans (R2.pur b),g _ _ _⟩
def dD(m:OpC K r o)(l:(pb || (ta&&ia))=ba){Q:VK}(h:TV K ml (pa&&pb) ba (ia&&ib) (f2 o fa fb) σ H Q):tOp r (TV K ml pa ta ia fa) (TV K ml pb tb ib fb) σ H Q:=by obtain⟨B,O,δ,d,δ2,S,q,k⟩:=h;obtain⟨x,δ1,y,h1,h2,n⟩:=RY q;refine⟨B,O,δ,x,δ1,S,h1,λi H1 b=>⟨B,O,δ1,y,δ2,b.sta,h2,λg H2 R2=>?_⟩⟩;have s:∀a,av B O (ia&&ib) a->av B O ia a:=OI λz=>((Af _ _).mp z).1;have p:∀a,av B O (ia&&ib) a->av B O ib a:=OI λz=>((Af _ _).mp z).2;refine m H2 (av B O (ia&&ib)) _ _ i g x y d Q ((R2.live l b.rep).mono s λ_ z=>z) (R2.rep.mono p λ_ z=>z) n λv t c j=>k v t ⟨R2.sta.same c,(b.frm.trans R2.frm).trans c.fr,λz=>?_,j _ λa z=>R2.sta.nin z⟩;obtain⟨f,e⟩:=(Af _ _).mp z;exact((b.pur f).trans (R2.pur e)).trans c
def pV(j:OpI K r o)(i:(pb || (ta&&ia))=ba){Q:VK}(h:TV K ml (pa&&pb) ia ia (f2 o fa fb) σ H Q):tOp r (TV K ml pa ta ia fa) (TV K ml pb tb ib fb) σ H Q:=by
 obtain⟨B,O,δ,d,δ2,S,q,k⟩:=h;obtain⟨x,δ1,y,h1,h2,l⟩:=RY q;refine⟨B,O,δ,x,δ1,S,h1,λf H1 a=>⟨B,O,δ1,y,δ2,a.sta,h2,λe H2 R2=>?_⟩⟩;exact j H2 _ _ _ _ f e x y d Q (R2.live i a.rep) R2.rep l λv g=>k v H2 ⟨R2.sta,a.frm.trans R2.frm,λz=>by obtain⟨c,b⟩:=(Af _ _).mp z;exact(a.pur c).trans (R2.pur b),g.mono (λ_ z=>z) Xs⟩
def ZO{op:Operator}{pos:Pos}(e:XJ X (Fq op) r)(c:QP K r o)(g:PE X a (TV K ml pa ta ia fa))(f:PE X b (TV K ml pb tb ib fb))(d:(pb || (ta&&ia))=ba:=by rfl):PE X (.BinOp a op b pos) (TV K ml (pa&&pb) ba ba (f2 o fa fb)):=
 (Yb e g f).imp λ_ _ _ h=>GF c d h
def bS{op:Operator}{pos:Pos}(e:XJ X (Fq op) r)(c:OpC K r o)(g:PE X a (TV K ml pa ta ia fa))(f:PE X b (TV K ml pb tb ib fb))(d:(pb || (ta&&ia))=ba:=by rfl):PE X (.BinOp a op b pos) (TV K ml (pa&&pb) ba (ia&&ib) (f2 o fa fb)):=
 (Yb e g f).imp λ_ _ _ h=>dD c d h
def X5{op:CmpOp}{pos:Pos}(e:XJ X (Ct op) r)(c:QP K r o)(i:PE X a (TV K ml pa ta ia fa))(g:PE X b (TV K ml pb tb ib fb))(f:Hn op b=bb:=by exact UO _)(d:(pb || (ta&&ia))=ba:=by rfl):PE X (.Compare a [op] [b] pos) (TV K ml (pa&&pb) ba ba (f2 o fa fb)):=
 (mM e i g f).imp λ_ _ _ h=>GF c d h
def mH{pos:Pos}(f:CY X r)(d:OpI K r o)(i:PE X a (TV K ml pa ta ia fa))(g:PE X b (TV K ml pb tb ib fb))(c:W7 b)(e:(pb || (ta&&ia))=ba:=by rfl):PE X (.Subscript a b pos) (TV K ml (pa&&pb) ia ia (f2 o fa fb)):=
 (NW f i g c).imp λ_ _ _ h=>pV d e h
noncomputable def oI(C:Int->Int->Bool)(g:Int->Int->c6):c6->c6->Option c6
 |.int i,.int j=>if C i j=ba then b3 (g i j)else b4
 |_,_=>b4
def Wh{C:Int->Int->Bool}{g:Int->Int->c6}{d e c:c6}(h:oI C g d e=b3 c):∃i j,d=.int i/\e=.int j/\C i j=ba/\c=g i j:=by
 unfold oI at h;split at h
 ·split at h
  ·rename_i hc
   cases h;exact⟨_,_,rfl,rfl,hc,rfl⟩
  ·cases h
 ·cases h
def DT{C:Int->Int->Prop}{a:Int->Int->Bool}{g:Int->Int->V}{g':Int->Int->c6}(m:∀i j,a i j=ba->C i j)(l:∀i j N H M,bV K N H M (g i j) (g' i j)):QP K (rI C g) (oI a g'):=by intro H N N' M M' x y d e c Q f b h k;obtain⟨i,j,rfl,rfl,hc,rfl⟩:=Wh h;cases f.onI;cases b.onI;exact⟨_,_,rfl,rfl,m _ _ hc,k _ λ_ _ _=>l ..⟩
def NT{g:Int->Int->V}{g':Int->Int->c6}(f:∀i j N H M,bV K N H M (g i j) (g' i j)):QP K (FZ g) (oI (λ_ _=>ba) g'):=by intro H N N' M M' x y d e c Q b a h k;obtain⟨i,j,rfl,rfl,hc,rfl⟩:=Wh h;cases b.onI;cases a.onI;exact⟨_,_,rfl,rfl,k _ λ_ _ _=>f ..⟩
noncomputable def cMul(i j:Int):Bool:=(decide (-18446744073709551616<i)&&decide (i<18446744073709551616)) || (decide (-18446744073709551616<j)&&decide (j<18446744073709551616))
noncomputable def cDiv(i j:Int):Bool:=decide (0<j)&&decide (j<1073741824)
def cPow(i j:Int):Bool:=decide (0<=j)&&decide (j<=1000000)&&decide (i.natAbs<18446744073709551616)
abbrev Q9:=oI (λ_ _=>ba) λi j=>.int (i-j)
abbrev oMul:=oI cMul λi j=>.int (i*j)
abbrev HJ:=oI cDiv λi j=>.int (i/j)
abbrev J1:=oI (λ_ j=>decide (0<j)) λi j=>.int (i % j)
abbrev oPow:=oI cPow λi j=>.int (i ^ j.toNat)
abbrev oLt:=oI (λ_ _=>ba) λi j=>.bl (decide (i<j))
abbrev oLe:=oI (λ_ _=>ba) λi j=>.bl (decide (i<=j))
abbrev oGt:=oI (λ_ _=>ba) λi j=>.bl (decide (j<i))
abbrev oGe:=oI (λ_ _=>ba) λi j=>.bl (decide (j<=i))
def UW:QP K (FZ λi j=>.int (i-j)) Q9:=NT λi j _ _ _=>.int _
def eK:QP K (rI CMul λi j=>.int (i*j)) oMul:=DT (λi j h=>by
 have p:(2:Int) ^ 64=18446744073709551616:=by decide
 unfold CMul;rw[p];simpa[cMul]using h) λi j _ _ _=>.int _
def F5:QP K (rI CDiv λi j=>.int (i/j)) HJ:=DT (λi j h=>by show 0<j/\j<1073741824;simpa[cDiv]using h) λi j _ _ _=>.int _
def PU:QP K (rI (λ_ j=>0<j) λi j=>.int (i % j)) J1:=DT (λi j h=>by simpa using h) λi j _ _ _=>.int _
def fX:QP K (rI CPow λi j=>.int (i ^ j.toNat)) oPow:=DT (λi j h=>by
 have p:(2:Nat) ^ 64=18446744073709551616:=by decide
 unfold CPow;rw[p];simpa[cPow,and_assoc]using h) λi j _ _ _=>.int _
def s_lt:QP K (FZ λi j=>.bl (decide (i<j))) oLt:=NT λi j _ _ _=>.bl _
def s_le:QP K (FZ λi j=>.bl (decide (i<=j))) oLe:=NT λi j _ _ _=>.bl _
def s_gt:QP K (FZ λi j=>.bl (decide (j<i))) oGt:=NT λi j _ _ _=>.bl _
def s_ge:QP K (FZ λi j=>.bl (decide (j<=i))) oGe:=NT λi j _ _ _=>.bl _
def LS(d:c6):Bool:=d.isD&&Fb d.pd
def eqD(d e:c6):Bool:=Jg d.pd e.pd
def WM(d e:c6):Option c6:=if(LS d&&LS e)=ba then b3 (.bl (eqD d e))else b4
def RU(d e:c6):Option c6:=if(LS d&&LS e)=ba then b3 (.bl (!eqD d e))else b4
def s_eq:QP K (rEqD K) WM:=by
 intro H N N' M M' x y d e c Q f b h k;unfold WM at h;split at h
 ·rename_i a
  cases h;simp only[LS,Af]at a;exact⟨d.pd,e.pd,f.dp a.1.1,b.dp a.2.1,a.1.2,a.2.2,k _ λ_ _ _=>.bl _⟩
 ·cases h
def PJ:QP K (rNeD K) RU:=by
 intro H N N' M M' x y d e c Q f b h k;unfold RU at h;split at h
 ·rename_i a
  cases h;simp only[LS,Af]at a;exact⟨d.pd,e.pd,f.dp a.1.1,b.dp a.2.1,a.1.2,a.2.2,k _ λ_ _ _=>.bl _⟩
 ·cases h
noncomputable def isN:c6->Bool
 |.non=>ba
 |_=>bb
def MV:c6->c6->Option c6
 |d,.non=>b3 (.bl (isN d))
 |_,_=>b4
def PQ:c6->c6->Option c6
 |d,.non=>b3 (.bl (!isN d))
 |_,_=>b4
def EC{N M:Ub->Prop}(h:bV K N H M v d):decide (v=V.non)=isN d:=by
 cases h<;>simp[isN]
def Vm:QP K (λx y H Q=>y=.non/\Q (.bl (decide (x=.non))) H) MV:=by
  intro H N N' M M' x y d e c Q b a h k;cases a<;>first
    | (cases h
       refine⟨rfl,?_⟩;rw[EC b];exact k _ λ_ _ _=>.bl _)
    |(simp[MV]at h)
def nT:QP K (λx y H Q=>y=.non/\Q (.bl (!decide (x=.non))) H) PQ:=by
  intro H N N' M M' x y d e c Q b a h k;cases a<;>first
    | (cases h
       refine⟨rfl,?_⟩;rw[EC b];exact k _ λ_ _ _=>.bl _)
    |(simp[PQ]at h)
noncomputable def XO:c6->Option (List c6)
 |.tup ds=>b3 ds
 |.lst ds=>b3 ds
 |_=>b4
def bV.seq{N M:Ub->Prop}{ds:List c6}(h:bV K N H M v d)(e:XO d=b3 ds):∃a xs,v=.ref a/\(X9 K H a xs∨WS K H a xs)/\cG K N H xs ds:=by
 cases h<;>first
  |(cases e;rename_i q r;exact⟨_,_,rfl,.inr q,r⟩)
  |(cases e;rename_i q n r;exact⟨_,_,rfl,.inl (X9.of q),r⟩)
  |(cases e;rename_i q r;exact⟨_,_,rfl,.inl q.sq,r⟩)
  |cases e
def Zf{N:Ub->Prop}{xs:List V}{ds:List c6}{i:Int}(r:cG K N H xs ds)(h:UA ds i=b3 d):∃v,UA xs i=b3 v/\bV K N H N v d:=by
 unfold UA at h⊢;rw[r.length];cases hi:BC ds.length i with
 |none=>rw[hi]at h;cases h
 |some j=>
  rw[hi]at h;exact r.get h
end
section
variable{X:Cx}{K:Ah}{ml:List Nat}{e a b c:Uh}{es:List Uh}{pa ta ia pb tb ib pc tc ic pu bt bi ps bs:Bool}{fa fb fc:VF}{r r':R2}{o o':c6->c6->Option c6}{B:Bs}{O:Nat->Option Ub}{H H1 H':Hp}{σ:St}{δ δ':Ev}{v:V}{d:c6}{p:Ub}{pos:Pos}
def a7.unadd(S:a7 K ml (B.add p) O H σ δ):a7 K ml B O H σ δ where
 len:=S.len
 va:=λi d e=>let ⟨v,a,b⟩:=S.va i d e;⟨v,a,b.mono SN SN⟩
 ow:=λi d e=>let ⟨a,b,c,w⟩:=S.ow i d e;⟨a,b,c,w.mono SN⟩
 dom:=S.dom
 inj:=S.inj
 old:=λi a h=>⟨λz=>(S.old i a h).1 (.inl z),(S.old i a h).2⟩
 zin:=λa h=>S.zin a (.inl h)
 frm:=S.frm
 par:=S.par
 pin:=S.pin
 kep:=λp h=>(S.kep p h).mono SN SN
structure ResN(K:Ah)(ml:List Nat)(B:Bs)(O:Nat->Option Ub)(H:Hp)(σ:St)(pu:Bool)(H':Hp)(δ':Ev)(p:Ub)(d:c6):Prop where
 sta:a7 K ml (B.add p) O H' σ δ'
 frm:Fr (OA O) H H'
 pur:pu=ba->bH H H'
 own:SU K (Nn (B.add p) O) H' p d
 nz:¬Nn B O p
 h0:B.H0 p=b4
inductive TNi(K:Ah)(ml:List Nat)(pu:Bool)(f:VF)(σ:St)(H:Hp)(Q:VK):Prop
 |mk (B:_) (O:_) (δ:_) (d:_) (δ':_) (h0:a7 K ml B O H σ δ) (h1:f δ=b3 (d,δ')) (h2:∀p H',ResN K ml B O H σ pu H' δ' p d->Q (.ref p) H'):TNi K ml pu f σ H Q
def TN(K:Ah)(ml:List Nat)(pu:Bool)(f:VF):TE:=λσ H Q=>TNi K ml pu f σ H Q
def b9{f:VF}(h:PE X e (TN K ml pu f)):PE X e (TV K ml pu ba ba f):=h.imp λσ H Q ⟨B,O,δ,d,δ',S,q,k⟩=>
 ⟨B,O,δ,d,δ',S,q,λp H' R=>k _ H' ⟨R.sta.unadd,R.frm,R.pur,(R.own.mono SN).rep R.nz⟩⟩
def mkN{xs:List V}{ds:List c6}(S:a7 K ml B O H1 σ δ')(f:Fr (OA O) H H1)(s:pu=ba->bH H H1)(a:H1 p=b4)(r:cG K (Nn B O) H1 xs ds):ResN K ml B O H σ pu (upd H1 p (.lst xs)) δ' p (.lst ds):=
 ⟨S.laid a,f.trans (cW a).fr,λz=>(s z).trans (cW a),.lst cH ((r.away a _ _ XD).same (cW a)),S.new a,S.fresh a⟩
def mkD(S:a7 K ml B O H1 σ δ')(f:Fr (OA O) H H1)(s:pu=ba->bH H H1)(a:H1 p=b4):ResN K ml B O H σ pu (upd H1 p (.dK [])) δ' p (.dct [] []):=
 ⟨S.laid a,f.trans (cW a).fr,λz=>(s z).trans (cW a),.dct (kvs:=[]) cH .nil,S.new a,S.fresh a⟩
def eE:PE X (.Dict [] [] pos) (TN K ml ba (fC (.dct [] []))):=HR.imp λσ H Q a=>by obtain⟨B,O,δ,d,δ',S,q,k⟩:=a;cases q;exact λp b=>k p _ (mkD S (Fr.refl _ _) (λ_=>bH.refl _) b)
abbrev RT:=Ev->Option (List c6×Ev)
structure ResA(K:Ah)(ml:List Nat)(B:Bs)(O:Nat->Option Ub)(H:Hp)(σ:St)(pu b:Bool)(H':Hp)(δ':Ev)(vs:List V)(ds:List c6):Prop where
 sta:a7 K ml B O H' σ δ'
 frm:Fr (OA O) H H'
 pur:pu=ba->bH H H'
 rep:cG K (av B O b) H' vs ds
inductive TAVi(K:Ah)(ml:List Nat)(pu b:Bool)(f:RT)(σ:St)(H:Hp)(Q:List V->Hp->Prop):Prop
 |mk (B:_) (O:_) (δ:_) (d:_) (δ':_) (h0:a7 K ml B O H σ δ) (h1:f δ=b3 (d,δ')) (h2:∀vs H',ResA K ml B O H σ pu b H' δ' vs d->Q vs H'):TAVi K ml pu b f σ H Q
def AG(K:Ah)(ml:List Nat)(pu b:Bool)(f:RT):TA:=λσ H Q=>TAVi K ml pu b f σ H Q
def cR:RT:=λδ=>b3 ([],δ)
noncomputable def c7(fa:VF)(fs:RT):RT:=λδ=>(fa δ).bind λp=>(fs p.2).map λq=>(p.1::q.1,q.2)
def A6{fs:RT}{ds:List c6}(h:c7 fa fs δ=b3 (ds,δ')):∃x δ1 xs,fa δ=b3 (x,δ1)/\fs δ1=b3 (xs,δ')/\ds=x::xs:=by
 unfold c7 at h;cases h1:fa δ with
 |none=>rw[h1]at h;cases h
 |some p=>
  rw[h1]at h;cases h2:fs p.2 with
  |none=>simp[h2]at h
  |some q=>
   simp only[Ar,h2]at h;cases h;exact⟨p.1,p.2,q.1,rfl,h2,rfl⟩
def cY:PA X [] (AG K ml ba ba cR):=aH.imp λσ H Q a=>by obtain⟨B,O,δ,d,δ',S,q,k⟩:=a;cases q;exact k [] H ⟨S,Fr.refl _ _,λ_=>bH.refl _,.nil⟩
def c8{fs:RT}(o:PE X a (TV K ml pa ta ia fa))(n:PA X es (AG K ml ps bs fs))(e:SE X a es:=by rfl)(hl:(ps || (ta&&ia))=ba:=by rfl)(m:ta=ba:=by rfl):
  PA X (a::es) (AG K ml (pa&&ps) (ta&&ia&&bs) (c7 fa fs)):=(b8 o n e).imp λσ H Q f=>by
 obtain⟨B,O,δ,d,δ2,S,q,k⟩:=f;obtain⟨x,δ1,xs,h1,h2,rfl⟩:=A6 q;refine⟨B,O,δ,x,δ1,S,h1,λl H1 b=>⟨B,O,δ1,xs,δ2,b.sta,h2,λvs H2 R2=>k _ H2 ⟨R2.sta,b.frm.trans R2.frm,λz=>?_,?_⟩⟩⟩
 ·obtain⟨j,i⟩:=(Af _ _).mp z
  exact(b.pur j).trans (R2.pur i)
 ·have g : ∀ c,((ta && ia && bs) = ba -> c = ba) -> ∀ a,av B O (ta && ia && bs) a -> av B O c a := λc h => OI h
  have s:=g ta λz=>by simp only[Af]at z;exact z.1.1
  have r:=g ia λz=>by simp only[Af]at z;exact z.1.2
  have p:=g bs λz=>by simp only[Af]at z;exact z.2
  refine .cons ?_ (R2.rep.mono p);have h:bV K (av B O ia) H2 (at_ B O ta) l x:=by
   cases ps with
   |true=>exact b.rep.same (R2.pur rfl)
   |false=>
    have e:(ta&&ia)=ba:=by simpa using hl
    obtain⟨h1,h2⟩:=(Af _ _).mp e;subst h1 h2;exact b.rep.fr R2.frm (λa z=>.inr z) λa z=>.inr z
  subst m;exact h.mono r s
def a7.lone(S:a7 K ml B O H σ δ){i:Nat}{x:c6}(e:i∉ml)(h:fO i δ=b3 (x,δ')):δ'=δ/\∃v,σ[i]?=b3 (b3 v)/\bV K (av B O bb) H (av B O bb) v x:=by
 unfold fO at h;split at h
 ·rename_i d hd
  cases h;obtain⟨v,b,r⟩:=S.va i _ hd;exact⟨rfl,v,b,r.mono (λa z=>z.1) λa z=>z.1⟩
 ·rename_i d hd
  cases h;obtain⟨a,b,f,w⟩:=S.ow i _ hd;refine⟨rfl,.ref a,f,(w.mono λa z=>z.1).rep λz=>?_⟩;rcases z.2 with z|⟨j,z⟩
  ·exact(S.old i a b).1 z
  ·have c:=S.par.1 j a z
   have:i=j:=S.inj i j a b ((S.par.2 j c).trans z)
   exact e (this▸c)
 ·cases h
noncomputable def cJ(fs:RT):VF:=λδ=>(fs δ).bind λp=>if p.1.length<=16777216 then b3 (.tup p.1,p.2)else b4
noncomputable def bC(fs:RT):VF:=λδ=>(fs δ).bind λp=>if p.1.length<=16777216 then b3 (.lst p.1,p.2)else b4
def NE{fs:RT}{g:List c6->c6}(h:((fs δ).bind λp=>if p.1.length<=16777216 then b3 (g p.1,p.2)else b4)=b3 (d,δ')):∃ds,fs δ=b3 (ds,δ')/\ds.length<=16777216/\d=g ds:=by
 cases h1:fs δ with
 |none=>rw[h1]at h;cases h
 |some p=>
  rw[h1]at h;have h:(if p.1.length<=16777216 then b3 (g p.1,p.2)else b4)=b3 (d,δ'):=h;split at h
  ·cases h
   exact⟨p.1,rfl,by assumption,rfl⟩
  ·cases h
def cQ{x1}{fs:RT}(h:PA X es (AG K ml pu bs fs)):PE X (.Tuple es x1 pos) (TV K ml pu ba bs (cJ fs)):=(FT h).imp λσ H Q b=>by obtain⟨B,O,δ,d,δ',S,q,k⟩:=b;obtain⟨ds,h1,hl,rfl⟩:=NE (g:=c6.tup) q;refine⟨B,O,δ,ds,δ',S,h1,λvs H1 R=>⟨by rw[R.rep.length,Ce];exact hl,λp a=>k _ _ ⟨R.sta.same (cW a),R.frm.trans (cW a).fr,λz=>(R.pur z).trans (cW a),.tup (WS.of cH) (R.rep.same (cW a))⟩⟩⟩
def dU{fs:RT}(h:PA X es (AG K ml pu bs fs)):PE X (.List es pos) (TV K ml pu ba bs (bC fs)):=(J6 h).imp λσ H Q b=>by obtain⟨B,O,δ,d,δ',S,q,k⟩:=b;obtain⟨ds,h1,hl,rfl⟩:=NE (g:=c6.lst) q;refine⟨B,O,δ,ds,δ',S,h1,λvs H1 R=>⟨by rw[R.rep.length,Ce];exact hl,λp a=>k _ _ ⟨R.sta.same (cW a),R.frm.trans (cW a).fr,λz=>(R.pur z).trans (cW a),.lst cH (R.sta.new a) (R.rep.same (cW a))⟩⟩⟩
def bY{fs:RT}(h:PA X es (AG K ml pu ba fs)):PE X (.List es pos) (TN K ml pu (bC fs)):=(J6 h).imp λσ H Q a=>by obtain⟨B,O,δ,d,δ',S,q,k⟩:=a;obtain⟨ds,h1,hl,rfl⟩:=NE (g:=c6.lst) q;exact⟨B,O,δ,ds,δ',S,h1,λvs H1 R=>⟨by rw[R.rep.length,Ce];exact hl,λp b=>k p _ (mkN R.sta R.frm R.pur b R.rep)⟩⟩
abbrev VB:=Ev->Option (Bool×Ev)
structure AF(K:Ah)(ml:List Nat)(B:Bs)(O:Nat->Option Ub)(H:Hp)(σ:St)(pu:Bool)(H':Hp)(δ':Ev):Prop where
 sta:a7 K ml B O H' σ δ'
 frm:Fr (OA O) H H'
 pur:pu=ba->bH H H'
inductive TBi(K:Ah)(ml:List Nat)(pu:Bool)(f:VB)(σ:St)(H:Hp)(Q:Bool->Hp->Prop):Prop
 |mk (B:_) (O:_) (δ:_) (k:_) (δ':_) (h0:a7 K ml B O H σ δ) (h1:f δ=b3 (k,δ')) (h2:∀H',AF K ml B O H σ pu H' δ'->Q k H'):TBi K ml pu f σ H Q
def TB(K:Ah)(ml:List Nat)(pu:Bool)(f:VB):TT:=λσ H Q=>TBi K ml pu f σ H Q
noncomputable def fB(f:VF):VB:=λδ=>(f δ).bind λp=>match p.1 with
 |.bl k=>b3 (k,p.2)
 |_=>b4
def eA{f:VF}{k:Bool}(h:fB f δ=b3 (k,δ')):f δ=b3 (.bl k,δ'):=by
 unfold fB at h;cases h1:f δ with
 |none=>rw[h1]at h;cases h
 |some p=>
  obtain⟨x,δ1⟩:=p;rw[h1]at h;cases x<;>first
   |(cases h;rfl)
   |cases h
def KM{f:VF}{t:TE}(a:∀σ H Q,TV K ml pu bt bi f σ H Q->t σ H Q){Q:Bool->Hp->Prop}(h:TB K ml pu (fB f) σ H Q):t σ H λx H'=>∃k,x=.bl k/\Q k H':=by obtain⟨B,O,δ,k,δ',S,q,w⟩:=h;refine a σ H _ ⟨B,O,δ,.bl k,δ',S,eA q,λv H' R=>⟨k,?_,w H' ⟨R.sta,R.frm,R.pur⟩⟩⟩;exact R.rep.onB
def bZ{op:CmpOp}(e:XJ X (Ct op) r)(c:QP K r o)(i:PE X a (TV K ml pa ta ia fa))(g:PE X b (TV K ml pb tb ib fb))(f:Hn op b=bb:=by exact UO _)(d:(pb || (ta&&ia))=ba:=by rfl):PT X (.Compare a [op] [b] pos) (TB K ml (pa&&pb) (fB (f2 o fa fb))):=
 (Zr e i g f).imp λ_ _ _ h=>KM (λ_ _ _=>GF c d) h
def ZA{f:VF}(h:PE X e (TV K ml pu bt bi f))(b:∀a,isTrue e X.env a=(do let v<-a;Sq e.pos;Kt [v] (truthy v)):=by intro _;rfl):PT X e (TB K ml pu (fB f)):=
 (Yu h b).imp λ_ _ _ h=>KM (λ_ _ _ z=>z) h
noncomputable def UC(x y:VB):VB:=λδ=>(x δ).bind λp=>if p.1=ba then y p.2 else b3 (bb,p.2)
noncomputable def OJ(x y:VB):VB:=λδ=>(x δ).bind λp=>if p.1=ba then b3 (ba,p.2)else y p.2
noncomputable def S9(x:VB):VB:=λδ=>(x δ).map λp=>(!p.1,p.2)
def AF.refl(S:a7 K ml B O H σ δ):AF K ml B O H σ pu H δ:=⟨S,Fr.refl _ _,λ_=>bH.refl _⟩
def Zk{x y:VB}{Q:Bool->Hp->Prop}(h:TB K ml (pa&&pb) (UC x y) σ H Q):tAnd (TB K ml pa x) (TB K ml pb y) σ H Q:=by
 obtain⟨B,O,δ,k,δ',S,q,w⟩:=h;unfold UC at q;obtain⟨⟨b,δ1⟩,h1,q⟩:=Aa.mp q;refine⟨B,O,δ,b,δ1,S,h1,λH1 a=>?_⟩;cases b with
 |true=>
  have q:y δ1=b3 (k,δ'):=q;exact MT ⟨B,O,δ1,k,δ',a.sta,q,λH2 R2=>w H2 ⟨R2.sta,a.frm.trans R2.frm,λz=>by obtain⟨d,c⟩:=(Af _ _).mp z;exact(a.pur d).trans (R2.pur c)⟩⟩
 |false=>
  have q:b3 (bb,δ1)=b3 (k,δ'):=q;cases q;exact MS (w H1 ⟨a.sta,a.frm,λz=>a.pur ((Af _ _).mp z).1⟩)
def jX{x y:VB}{Q:Bool->Hp->Prop}(h:TB K ml (pa&&pb) (OJ x y) σ H Q):tOr (TB K ml pa x) (TB K ml pb y) σ H Q:=by
 obtain⟨B,O,δ,k,δ',S,q,w⟩:=h;unfold OJ at q;obtain⟨⟨b,δ1⟩,h1,q⟩:=Aa.mp q;refine⟨B,O,δ,b,δ1,S,h1,λH1 a=>?_⟩;cases b with
 |false=>
  have q:y δ1=b3 (k,δ'):=q;exact MS ⟨B,O,δ1,k,δ',a.sta,q,λH2 R2=>w H2 ⟨R2.sta,a.frm.trans R2.frm,λz=>by obtain⟨d,c⟩:=(Af _ _).mp z;exact(a.pur d).trans (R2.pur c)⟩⟩
 |true=>
  have q:b3 (ba,δ1)=b3 (k,δ'):=q;cases q;exact MT (w H1 ⟨a.sta,a.frm,λz=>a.pur ((Af _ _).mp z).1⟩)
def X7{x:VB}(h:PT X a (TB K ml pu x)):PT X (.UnaryOp .Not a pos) (TB K ml pu (S9 x)):=(eC h).imp λσ H Q b=>by obtain⟨B,O,δ,k,δ',S,q,w⟩:=b;unfold S9 at q;obtain⟨p,h1,q⟩:=Ao.mp q;cases q;exact⟨B,O,δ,p.1,p.2,S,h1,w⟩
def O0{x:VB}(h:PT X a (TB K ml pu x)):PW X (.BoolOp .And [a] pos) (TB K ml pu x):=nS h
def YW{x:VB}(h:PT X a (TB K ml pu x)):PW X (.BoolOp .Or [a] pos) (TB K ml pu x):=qD h
def QO{x y:VB}(d:PT X a (TB K ml pa x))(c:PW X (.BoolOp .And (b::es) pos) (TB K ml pb y)):PW X (.BoolOp .And (a::b::es) pos) (TB K ml (pa&&pb) (UC x y)):=(iU d c).imp λ_ _ _ h=>Zk h
def W4{x y:VB}(d:PT X a (TB K ml pa x))(c:PW X (.BoolOp .Or (b::es) pos) (TB K ml pb y)):PW X (.BoolOp .Or (a::b::es) pos) (TB K ml (pa&&pb) (OJ x y)):=(kM d c).imp λ_ _ _ h=>jX h
def V3{x:VB}(h:PW X e (TB K ml pu x)):PT X e (TB K ml pu x):=h.pt
noncomputable def RZ(x y:VF):VF:=λδ=>(x δ).bind λp=>match p.1 with
 |.bl ba=>y p.2
 |.bl bb=>b3 (.bl bb,p.2)
 |_=>b4
def V0{op}{f:VF}(h:PE X a (TV K ml pu bt bi f)):PE X (.BoolOp op [a] pos) (TV K ml pu bt bi f):=nK h
def W3(m:PE X a (TV K ml pa ta ia fa))(l:PE X (.BoolOp .And (b::es) pos) (TV K ml pb tb ib fb)):PE X (.BoolOp .And (a::b::es) pos) (TV K ml (pa&&pb) tb ib (RZ fa fb)):=(pE m l).imp λσ H Q f=>by
 obtain⟨B,O,δ,d,δ',S,q,k⟩:=f;unfold RZ at q;obtain⟨⟨x,δ1⟩,h1,q⟩:=Aa.mp q;refine⟨B,O,δ,x,δ1,S,h1,λj H1 c=>?_⟩;cases x with
 |bl e=>
  have n:j=.bl e:=c.rep.onB;refine⟨e,n,?_⟩;cases e with
  |true=>
   exact MT ⟨B,O,δ1,d,δ',c.sta,q,λi H2 R2=>k i H2 ⟨R2.sta,c.frm.trans R2.frm,λz=>by obtain⟨h,g⟩:=(Af _ _).mp z;exact(c.pur h).trans (R2.pur g),R2.rep⟩⟩
  |false=>
   cases q;exact MS (k _ H1 ⟨c.sta,c.frm,λz=>c.pur ((Af _ _).mp z).1,.bl _⟩)
 |_=>cases q
def fIf(t:VB)(x y:VF):VF:=λδ=>(t δ).bind λp=>if p.1=ba then x p.2 else y p.2
def MI{t:VB}(m:PT X c (TB K ml pc t))(o:PE X a (TV K ml pa ta ia fa))(n:PE X b (TV K ml pb tb ib fb)):PE X (.IfExp c a b pos) (TV K ml (pc&&pa&&pb) (ta&&tb) (ia&&ib) (fIf t fa fb)):=(HS m o n).imp λσ H Q g=>by
 obtain⟨B,O,δ,d,δ',S,q,k⟩:=g;unfold fIf at q;obtain⟨⟨i,δ1⟩,h1,q⟩:=Aa.mp q;refine⟨B,O,δ,i,δ1,S,h1,λH1 e=>?_⟩;have l:∀c,((ta&&tb)=ba->c=ba)->∀a,at_ B O (ta&&tb) a->at_ B O c a:=λc h=>lB h;have j:∀c,((ia&&ib)=ba->c=ba)->∀a,av B O (ia&&ib) a->av B O c a:=λc h=>OI h;cases i with
 |true=>
  exact MT ⟨B,O,δ1,d,δ',e.sta,q,λf H2 R2=>k f H2 ⟨R2.sta,e.frm.trans R2.frm,λz=>by simp only[Af]at z;exact(e.pur z.1.1).trans (R2.pur z.1.2),R2.rep.mono (j _ λz=>((Af _ _).mp z).1) (l _ λz=>((Af _ _).mp z).1)⟩⟩
 |false=>
  exact MS ⟨B,O,δ1,d,δ',e.sta,q,λf H2 R2=>k f H2 ⟨R2.sta,e.frm.trans R2.frm,λz=>by simp only[Af]at z;exact(e.pur z.1.1).trans (R2.pur z.2),R2.rep.mono (j _ λz=>((Af _ _).mp z).2) (l _ λz=>((Af _ _).mp z).2)⟩⟩
noncomputable def f3(o o':c6->c6->Option c6)(fa fb fc:VF):VF:=λδ=>(fa δ).bind λp=>(fb p.2).bind λq=>(o p.1 q.1).bind λz=>match z with
 |.bl ba=>(fc q.2).bind λs=>(o' q.1 s.1).map λu=>(u,s.2)
 |.bl bb=>b3 (.bl bb,q.2)
 |_=>b4
def IT(A:QP K r o)(l:QP K r' o')(w:(pb || (ta&&ia))=ba)(j:(pc || (tb&&ib))=ba){Q:VK}(h:TV K ml (pa&&pb&&pc) ba ba (f3 o o' fa fb fc) σ H Q):GB r r' (TV K ml pa ta ia fa) (TV K ml pb tb ib fb) (TV K ml pc tc ic fc) σ H Q:=by
 obtain⟨B,O,δ,d,b,S,q,k⟩:=h;unfold f3 at q;obtain⟨⟨x,δ1⟩,h1,q⟩:=Aa.mp q;cases h2:fb δ1 with
 |none=>simp[h2]at q
 |some p2=>
  obtain⟨y,δ2⟩:=p2;simp only[Ar,h2]at q;refine⟨B,O,δ,x,δ1,S,h1,λt H1 a=>⟨B,O,δ1,y,δ2,a.sta,h2,λm H2 R2=>?_⟩⟩;obtain⟨z,E,q⟩:=Aa.mp q;refine A H2 _ _ _ _ t m x y z _ (R2.live w a.rep) R2.rep E λv c=>?_;have c:=c (λ_=>b4) (λ_=>True) λ_=>True;cases z with
  |bl i=>
   have F:v=.bl i:=c.onB;refine⟨i,F,?_⟩;cases i with
   |false=>
    cases q;exact MS (k _ H2 ⟨R2.sta,a.frm.trans R2.frm,λz=>by simp only[Af]at z;exact(a.pur z.1.1).trans (R2.pur z.1.2),.bl _⟩)
   |true=>
    have q:((fc δ2).bind λs=>(o' y s.1).map λu=>(u,s.2))=b3 (d,b):=q;obtain⟨⟨g,f⟩,D,q⟩:=Aa.mp q;have q:((o' y g).map λu=>(u,f))=b3 (d,b):=q;obtain⟨u,C,q⟩:=Ao.mp q;cases q;refine MT ⟨B,O,δ2,g,_,R2.sta,D,λp n e=>?_⟩;exact l n _ _ _ _ m p y g d Q (e.live j R2.rep) e.rep C λv c=>k v n ⟨e.sta,(a.frm.trans R2.frm).trans e.frm,λz=>by simp only[Af]at z;exact((a.pur z.1.1).trans (R2.pur z.1.2)).trans (e.pur z.2),c _ _ _⟩
  |_=>cases q
def gB{op d:CmpOp}(k:XJ X (Ct op) r)(g:XJ X (Ct d) r')(i:QP K r o)(e:QP K r' o')(n:PE X a (TV K ml pa ta ia fa))(m:PE X b (TV K ml pb tb ib fb))(hc:PE X c (TV K ml pc tc ic fc))(l:Rf [op,d] [b,c]=bb:=by with_unfolding_all rfl)(j:(pb || (ta&&ia))=ba:=by rfl)(f:(pc || (tb&&ib))=ba:=by rfl):PE X (.Compare a [op,d] [b,c] pos) (TV K ml (pa&&pb&&pc) ba ba (f3 o o' fa fb fc)):=
 (gK k g n m hc l).imp λ_ _ _ h=>IT i e j f h
def JA{op d:CmpOp}(k:XJ X (Ct op) r)(g:XJ X (Ct d) r')(i:QP K r o)(e:QP K r' o')(n:PE X a (TV K ml pa ta ia fa))(m:PE X b (TV K ml pb tb ib fb))(hc:PE X c (TV K ml pc tc ic fc))(l:Rf [op,d] [b,c]=bb:=by with_unfolding_all rfl)(j:(pb || (ta&&ia))=ba:=by rfl)(f:(pc || (tb&&ib))=ba:=by rfl):PT X (.Compare a [op,d] [b,c] pos) (TB K ml (pa&&pb&&pc) (fB (f3 o o' fa fb fc))):=
 (Zl k g n m hc l).imp λ_ _ _ h=>KM (λ_ _ _=>IT i e j f) h
end
section
variable{X:Cx}{K:Ah}{ml:List Nat}{e a b c:Uh}{es:List Uh}{pa ta ia pb tb ib pc tc ic pu bt bi ps bs:Bool}{fa fb fc:VF}{B:Bs}{O:Nat->Option Ub}{H H1 H':Hp}{σ:St}{δ δ':Ev}{v:V}{d:c6}{p:Ub}{pos:Pos}
noncomputable def f1(o:c6->Option c6)(fa:VF):VF:=λδ=>(fa δ).bind λp=>(o p.1).map λc=>(c,p.2)
def NC{o:c6->Option c6}(h:f1 o fa δ=b3 (d,δ')):∃x,fa δ=b3 (x,δ')/\o x=b3 d:=by
 unfold f1 at h;cases h1:fa δ with
 |none=>rw[h1]at h;cases h
 |some p=>
  rw[h1]at h;have h:((o p.1).map λc=>(c,p.2))=b3 (d,δ'):=h;obtain⟨c,a,h⟩:=Ao.mp h;cases h;exact⟨p.1,rfl,a⟩
abbrev RC:=List V->Hp->VK->Prop
def CalS(K:Ah)(r:RC)(o:c6->Option c6):Prop:=∀(H:Hp) (N M:Ub->Prop) (x:V) (d c:c6) (Q:VK),bV K N H M x d->o d=b3 c->(∀v,(∀H' N M,bV K N H' M v c)->Q v H)->r [x] H Q
def CalC(K:Ah)(r:RC)(o:c6->Option c6):Prop:=∀(H:Hp) (N M:Ub->Prop) (x:V) (d c:c6) (Q:VK),bV K N H M x d->o d=b3 c->
 (∀v H',bH H H'->(∀M,(∀a,M a->∃o,H a=b3 o)->bV K N H' M v c)->Q v H')->r [x] H Q
def CalN(K:Ah)(r:RC)(o:c6->Option c6):Prop:=∀(H:Hp) (N M:Ub->Prop) (x:V) (d c:c6) (Q:VK),bV K N H M x d->o d=b3 c->
 (∀p xs ds,H p=b4->cG K N H xs ds->c=.lst ds->Q (.ref p) (upd H p (.lst xs)))->r [x] H Q
def MY(K:Ah)(r:RC)(o:c6->c6->Option c6):Prop:=∀(H:Hp) (N N' M M':Ub->Prop) (x y:V) (d e c:c6) (Q:VK),bV K N H M x d->bV K N' H M' y e->o d e=b3 c->(∀v,(∀H' N M,bV K N H' M v c)->Q v H)->r [x,y] H Q
def CN{r:RC}{o:c6->Option c6}(e:CalS K r o){Q:VK}(h:TV K ml pa ba ba (f1 o fa) σ H Q):tCB r (MB (TV K ml pa ta ia fa) tNil) σ H Q:=by obtain⟨B,O,δ,d,δ',S,q,k⟩:=h;obtain⟨x,h1,h2⟩:=NC q;exact⟨B,O,δ,x,δ',S,h1,λb H1 a=>e H1 _ _ b x d Q a.rep h2 λv c=>k v H1 ⟨a.sta,a.frm,a.pur,c _ _ _⟩⟩
def CM{r:RC}{o:c6->Option c6}(g:CalC K r o){Q:VK}(h:TV K ml pa ba ia (f1 o fa) σ H Q):tCB r (MB (TV K ml pa ta ia fa) tNil) σ H Q:=by obtain⟨B,O,δ,d,δ',S,q,k⟩:=h;obtain⟨x,h1,h2⟩:=NC q;exact⟨B,O,δ,x,δ',S,h1,λe H1 b=>g H1 _ _ e x d Q b.rep h2 λv H2 c f=>k v H2 ⟨b.sta.same c,b.frm.trans c.fr,λz=>(b.pur z).trans c,f _ λa z=>b.sta.nin z⟩⟩
def ME{r:RC}{o:c6->Option c6}(f:CalN K r o){Q:VK}(h:TN K ml pa (f1 o fa) σ H Q):tCB r (MB (TV K ml pa ta ba fa) tNil) σ H Q:=by obtain⟨B,O,δ,d,δ',S,q,k⟩:=h;obtain⟨x,h1,h2⟩:=NC q;refine⟨B,O,δ,x,δ',S,h1,λb H1 a=>f H1 _ _ b x d Q a.rep h2 λp xs ds e c g=>?_⟩;subst g;exact k p _ (mkN a.sta a.frm a.pur e c)
def CO{r:RC}{o:c6->c6->Option c6}(j:MY K r o)(i:(pb || (ta&&ia))=ba){Q:VK}(h:TV K ml (pa&&pb) ba ba (f2 o fa fb) σ H Q):tCB r (MB (TV K ml pa ta ia fa) (MB (TV K ml pb tb ib fb) tNil)) σ H Q:=by
 obtain⟨B,O,δ,d,δ2,S,q,k⟩:=h;obtain⟨x,δ1,y,h1,h2,l⟩:=RY q;refine⟨B,O,δ,x,δ1,S,h1,λf H1 a=>⟨B,O,δ1,y,δ2,a.sta,h2,λe H2 R2=>?_⟩⟩;exact j H2 _ _ _ _ f e x y d Q (R2.live i a.rep) R2.rep l λv g=>k v H2 ⟨R2.sta,a.frm.trans R2.frm,λz=>by obtain⟨c,b⟩:=(Af _ _).mp z;exact(a.pur c).trans (R2.pur b),g _ _ _⟩
section
variable{x:Ue}{p':Pos}{id T:String}{r:RC}
def Uz{o:c6->Option c6}(hc:aD X (.builtin id) r)(e:CalS K r o)(i:Gl X x)(g:X.mg x=b4)(d:Bm x=b3 (.builtin id))(j:PE X a (TV K ml pa ta ia fa))(f:x≠ "__name__":=by decide)(b:ND x:=by decide)(c:SE X a []:=by rfl):PE X (.Call (.Name x p') [a] [] pos) (TV K ml pa ba ba (f1 o fa)):=
 (NU hc i g d (b8 j aH c) f b c).imp λ_ _ _ h=>CN e h
def X8{o:c6->c6->Option c6}(hc:aD X (.builtin id) r)(j:MY K r o)(m:Gl X x)(l:X.mg x=b4)(g:Bm x=b3 (.builtin id))(p:PE X a (TV K ml pa ta ia fa))(n:PE X b (TV K ml pb tb ib fb))(k:x≠ "__name__":=by decide)(e:ND x:=by decide)(f:SE X a [b]:=by rfl)(d:SE X b []:=by rfl)(c:(Fa pos (Uc [b] X.env)).any (·.1)=bb:=by rfl)(i:(pb || (ta&&ia))=ba:=by rfl):PE X (.Call (.Name x p') [a,b] [] pos) (TV K ml (pa&&pb) ba ba (f2 o fa fb)):=
 (NU hc m l g (b8 p (b8 n aH d) f) k e f c).imp λ_ _ _ h=>CO j i h
def MH{o:c6->Option c6}(hc:aD X (.type T) r)(e:CalC K r o)(i:Gl X x)(g:X.mg x=b4)(d:Bm x=b3 (.type T))(j:PE X a (TV K ml pa ta ia fa))(f:x≠ "__name__":=by decide)(b:ND x:=by decide)(c:SE X a []:=by rfl):PE X (.Call (.Name x p') [a] [] pos) (TV K ml pa ba ia (f1 o fa)):=
 (WC hc i g d (b8 j aH c) f b c).imp λ_ _ _ h=>CM e h
def Xo{o:c6->Option c6}(hc:aD X (.type T) r)(e:CalN K r o)(i:Gl X x)(g:X.mg x=b4)(d:Bm x=b3 (.type T))(j:PE X a (TV K ml pa ta ba fa))(f:x≠ "__name__":=by decide)(b:ND x:=by decide)(c:SE X a []:=by rfl):PE X (.Call (.Name x p') [a] [] pos) (TN K ml pa (f1 o fa)):=
 (WC hc i g d (b8 j aH c) f b c).imp λ_ _ _ h=>ME e h
def Zj{o:c6->Option c6}(hc:aD X (.builtin id) r)(e:CalN K r o)(i:Gl X x)(g:X.mg x=b4)(d:Bm x=b3 (.builtin id))(j:PE X a (TV K ml pa ta ba fa))(f:x≠ "__name__":=by decide)(b:ND x:=by decide)(c:SE X a []:=by rfl):PE X (.Call (.Name x p') [a] [] pos) (TN K ml pa (f1 o fa)):=
 (NU hc i g d (b8 j aH c) f b c).imp λ_ _ _ h=>ME e h
end
noncomputable def Y8:c6->Option c6
 |.tup ds=>b3 (.int ds.length)
 |.lst ds=>b3 (.int ds.length)
 |.str z=>if z.length<=16777216 then b3 (.int z.length)else b4
 |_=>b4
def rLen(K:Ah):RC:=λxs H Q=>(∃p ys,xs=[.ref p]/\(X9 K H p ys∨WS K H p ys)/\Q (.int ys.length) H)∨∃z,xs=[.str z]/\z.length<=sizeLine/\Q (.int z.length) H
def Ze(h:X.K=K:=by rfl):aD X (.builtin "len") (rLen K):=by subst h;exact JK.or JL
def kX:CalS K (rLen K) Y8:=by
  intro H N M x d c Q b h k;cases d<;>first
    | (rename_i ds
       obtain⟨a,xs,rfl,sq,r⟩:=b.seq rfl;cases h;refine .inl ⟨a,xs,rfl,sq,?_⟩;rw[r.length];exact k _ λ_ _ _=>.int _)
    | (cases b.onS
       simp only[Y8]at h;split at h
       · cases h
         exact .inr ⟨_,rfl,by rw[Ce];assumption,k _ λ_ _ _=>.int _⟩
       · cases h)
    |cases h
def HK(d:c6):Option c6:=(XO d).map c6.lst
def VQ(d:c6):Option c6:=(XO d).map c6.tup
def Vo(K:Ah):RC:=λxs H Q=>∃p ys,xs=[.ref p]/\(X9 K H p ys∨WS K H p ys)/\∀l,H l=b4->Q (.ref l) (upd H l (.lst ys))
def D8(K:Ah):RC:=λxs H Q=>∃p ys,xs=[.ref p]/\((X9 K H p ys/\∀l,H l=b4->Q (.ref l) (upd H l (.tup ys)))∨(WS K H p ys/\Q (.ref p) H))
def Yg(h:X.K=K:=by rfl):aD X (.type "list") (Vo K):=nQ h
def T1(h:X.K=K:=by rfl):aD X (.type "tuple") (D8 K):=mC h
def IH{d:c6}{g:List c6->c6}{c:c6}(h:(XO d).map g=b3 c):∃ds,XO d=b3 ds/\c=g ds:=by
 cases h1:XO d with
 |none=>rw[h1]at h;cases h
 |some ds=>rw[h1]at h;cases h;exact⟨ds,rfl,rfl⟩
def SK:CalN K (Vo K) HK:=by intro H N M x d c Q b h k;obtain⟨ds,h1,rfl⟩:=IH h;obtain⟨a,xs,rfl,sq,r⟩:=b.seq h1;exact⟨a,xs,rfl,sq,λl hl=>k l xs ds hl r rfl⟩
def TU:CalC K (D8 K) VQ:=by
 intro H N M x d c Q b h k;obtain⟨ds,h1,rfl⟩:=IH h;obtain⟨a,xs,rfl,sq,r⟩:=b.seq h1;rcases sq with sq|sq
 ·exact⟨a,xs,rfl,.inl ⟨sq,λl hl=>k _ _ (cW hl) λM e=>.tup (WS.of cH) (r.same (cW hl))⟩⟩
 ·exact⟨a,xs,rfl,.inr ⟨sq,k _ _ (bH.refl _) λM e=>.tup sq r⟩⟩
noncomputable def o2I(g:Int->Int->Int):c6->c6->Option c6
 |.int i,.int j=>b3 (.int (g i j))
 |_,_=>b4
def Xv{g:Int->Int->Int}:MY K (λxs H Q=>∃i j,xs=[.int i,.int j]/\Q (.int (g i j)) H) (o2I g):=by
 intro H N N' M M' x y d e c Q b a h k;unfold o2I at h;split at h
 ·cases h
  cases b.onI;cases a.onI;exact⟨_,_,rfl,k _ λ_ _ _=>.int _⟩
 ·cases h
abbrev oMax:=o2I λi j=>if j>i then j else i
abbrev oMin:=o2I λi j=>if j<i then j else i
def iP:MY K (λxs H Q=>∃i j,xs=[.int i,.int j]/\Q (.int (if j>i then j else i)) H) oMax:=Xv
def iH:MY K (λxs H Q=>∃i j,xs=[.int i,.int j]/\Q (.int (if j<i then j else i)) H) oMin:=Xv
noncomputable def tyD:c6->Option String
 |.non=>b3 "NoneType"
 |.bl _=>b3 "bool"
 |.int _=>b3 "int"
 |.str _=>b3 "str"
 |.tup _=>b3 "tuple"
 |.lst _=>b3 "list"
 |_=>b4
noncomputable def QA(t n:String):Option Bool:=if((Kx t)==(Kx n))=ba then b3 ba else if W.kitMeta n=ba then(PySem.fastBuiltinMro t).map (·.contains (.type n))else b4
def pU{t n:String}{k:Bool}(h:QA t n=b3 k):Hb K (.type t) (.type n)=b3 k:=h
def TD:c6->c6->Option c6
 |d,.ty n=>(tyD d).bind λt=>(QA t n).map c6.bl
 |_,_=>b4
def rIsi(K:Ah):RC:=λxs H Q=>∃x n d N M t k,xs=[x,.ty n]/\bV K N H M x d/\tyD d=b3 t/\QA t n=b3 k/\Q (.bl k) H
def AO:aD X (.builtin "isinstance") (rIsi X.K):=by
 intro aa s σ H xs l Q I r h;obtain⟨x,n,d,N,M,t,k,rfl,j,b,hk,q⟩:=h;obtain⟨u,c,rfl,f,g⟩:=IV r;cases (show c=Kx n from g);have e:=pU (K:=X.K) hk;have a:∀tk,EP X aa σ Q (.bool k) {s with toks:=tk}:=λtk=>⟨.bl k,H,I.tok tk,rfl,q⟩;cases j with
 |non=>cases b;exact T0 I f (.non) e a
 |bl y=>cases b;exact T0 I f (.bl y) e a
 |int i=>cases b;exact T0 I f (.int i) e a
 |str y=>cases b;exact T0 I f (.str y) e a
 |ty n=>cases b
 |fn _=>cases b
 |dct _ _ _=>cases b
 |nst _ _ _=>cases b
 |ktb _ _=>cases b
 |exn _ _ _=>cases b
 |exr _ _ _ _ _=>cases b
 |tup q _=>
  cases b;cases f;obtain⟨its,_,⟨o,h1,h2,_⟩,_⟩:=I.tuple q;exact Fk W.kitx_tuple I.kIn ⟨o,h1,h2⟩ e (λz=>nomatch z) a
 |lst q _ _=>
  cases b;cases f;obtain⟨its,_,⟨o,n,h1,h2,_⟩,_⟩:=I.list (X9.of q);exact Fk No I.kIn ⟨o,h1,h2⟩ e (λz=>nomatch z) a
 |fzm q _=>
  cases b;cases f;obtain⟨its,_,⟨o,n,h1,h2,_⟩,_⟩:=I.list q.sq;exact Fk No I.kIn ⟨o,h1,h2⟩ e (λz=>nomatch z) a
def kIsi(h:X.K=K:=by rfl):aD X (.builtin "isinstance") (rIsi K):=by subst h;exact AO
def oV:MY K (rIsi K) TD:=by
  intro H N N' M M' x y d e c Q f b h k;cases b<;>first
    | (simp only [TD]at h
       cases h1:tyD d with
       |none=>rw[h1]at h;cases h
       |some t=>
         rw[h1]at h;rename_i n;have h:(QA t n).map c6.bl=b3 c:=h;obtain⟨a,h2,h⟩:=Ao.mp h;cases h;exact⟨x,n,d,N,M,t,a,rfl,f,h1,h2,k _ λ_ _ _=>.bl _⟩)
    |cases h
def J2:c6->Option c6
 |.int i=>b3 (.int (-i))
 |_=>b4
def UZ(f:PE X a (TV K ml pa ta ia fa)):PE X (.UnaryOp .USub a pos) (TV K ml pa ba ba (f1 J2 fa)):=(eT kQ f).imp λσ H Q c=>by
 obtain⟨B,O,δ,d,δ',S,q,k⟩:=c;obtain⟨x,h1,h2⟩:=NC q;refine⟨B,O,δ,x,δ',S,h1,λe H1 b=>?_⟩;cases x with
 |int i=>
  cases h2;have g:e=.int i:=b.rep.onI;exact⟨i,g,k _ H1 ⟨b.sta,b.frm,b.pur,.int _⟩⟩
 |_=>cases h2
abbrev VP:=Ev->Option (Option Int×Ev)
inductive TPOi(K:Ah)(ml:List Nat)(pu:Bool)(f:VP)(σ:St)(H:Hp)(Q:Option Int->Hp->Prop):Prop
 |mk (B:_) (O:_) (δ:_) (k:_) (δ':_) (h0:a7 K ml B O H σ δ) (h1:f δ=b3 (k,δ')) (h2:∀H',AF K ml B O H σ pu H' δ'->Q k H'):TPOi K ml pu f σ H Q
def TPO(K:Ah)(ml:List Nat)(pu:Bool)(f:VP):TO:=λσ H Q=>TPOi K ml pu f σ H Q
def pNo:VP:=λδ=>b3 (b4,δ)
noncomputable def DV(f:VF):VP:=λδ=>(f δ).bind λp=>match p.1 with
 |.int i=>b3 (b3 i,p.2)
 |_=>b4
def PO.imp{e:Option Uh}{t u:TO}(h:PO X e t)(k:∀σ H Q,u σ H Q->t σ H Q):PO X e u:=λaa s σ H Q I w=>h aa s σ H Q I (k σ H Q w)
def RM:PO X b4 (TPO K ml ba pNo):=zEA.imp λσ H Q a=>by obtain⟨B,O,δ,d,δ',S,q,k⟩:=a;cases q;exact k H (AF.refl S)
def RO(h:PE X a (TV K ml pa ta ia fa)):PO X (b3 a) (TPO K ml pa (DV fa)):=(oQ h).imp λσ H Q c=>by
 obtain⟨B,O,δ,d,δ',S,q,k⟩:=c;unfold DV at q;obtain⟨⟨x,δ1⟩,h1,q⟩:=Aa.mp q;refine⟨B,O,δ,x,δ1,S,h1,λe H1 b=>?_⟩;cases x with
 |int i=>
  have f:e=.int i:=b.rep.onI;cases q;exact⟨i,f,k H1 ⟨b.sta,b.frm,b.pur⟩⟩
 |_=>cases q
def V7(ds:List c6)(lo hi:Option Int):List c6:=(ds.drop (HT.sIx ds.length 0 lo)).take (HT.sIx ds.length ds.length hi-HT.sIx ds.length 0 lo)
def ON{N:Ub->Prop}{xs:List V}{ds:List c6}(r:cG K N H xs ds)(lo hi:Option Int):cG K N H (GW xs lo hi) (V7 ds lo hi):=by unfold GW V7;rw[r.length];exact(r.drop _).take _
noncomputable def oSl(d:c6)(lo hi:Option Int):Option c6:=match d with
 |.lst ds=>b3 (.lst (V7 ds lo hi))
 |.tup ds=>b3 (.tup (V7 ds lo hi))
 |_=>b4
def DA(fa:VF)(a b:VP):VF:=λδ=>(fa δ).bind λp=>(a p.2).bind λl=>(b l.2).bind λu=>(oSl p.1 l.1 u.1).map λc=>(c,u.2)
def CJ{prog:Aw}{w:Uj}{A:Cb}{E:Ua->Ae->Prop}{s:Ae}{t b:Ub}{items:Array Ua}{f e:Ua}{lo hi:Option Int}{Q:Ua->Ae->Prop}(a:IsTup s.heap t items)(g:s.heap.IsSliceOf b f e .none)(i:IsPart f lo)(pu:IsPart e hi)(h1:HT.sIx items.size 0 lo=0)(h2:HT.sIx items.size items.size hi=items.size)(h:Q (.ref t) s):Ud (Uf prog w) A (Lk (.ref t) (.ref b)) Q E s:=by
 obtain⟨os,c,d,j⟩:=id g;have k:s.TypeIs (.ref b) "slice":=⟨os,c,d⟩;unfold Lk;try with_reducible refine Br ?_
 first|refine Ac (Ai ?_)|skip
 refine Ac (Ic a.typeIs (by decide) ?_);refine Ac (Cw (name:=Be "__getitem__") a.typeIs Ew
  (Es Ew a.typeIs PyProof.Rows.entry_tuple_getitem ?_ (PyProof.Rows.args_tuple_getitem _ _)))
 show Ud _ _ (Kj (.ref t)>>=_) _ _ s;refine Ac (PyProof.Rows.tupleItemsOf_ a ?_);refine Ac (Kq k ?_);rw[if_pos (by decide)];refine Ac (HT.WF g i pu ?_);rw[h1,h2];show Ud _ _ (if((((0:Nat):Int)==0&&(1:Int)==1&&(items.size-0)==items.size)=ba)then _ else _) _ _ s;rw[if_pos (by simp)];refine Ac (m:=Rt _) (Ac (Kq a.typeIs (Ai ?_)));rw[if_pos (by decide)];exact Ac (Hz (Ai ⟨_,rfl,Ai h⟩))
def rSlW(K:Ah):V->Option Int->Option Int->Hp->VK->Prop:=λx lo hi H Q=>∃a xs,x=.ref a/\WS K H a xs/\(HT.sIx xs.length 0 lo=0/\HT.sIx xs.length xs.length hi=xs.length)/\Q (.ref a) H
def nA:SlR X (rSlW X.K):=by
 intro aa s σ H x v j i lo hi k Q I d g e pu h;obtain⟨a,xs,rfl,f,hw,q⟩:=h;cases d;obtain⟨its,r,b,hz⟩:=I.tuple f;have c:its.toArray.size=xs.length:=by rw[Aj];exact r.length.symm
 refine⟨"tuple",_,PyProof.Rows.slot_tuple_getitem.lookup,b.typeIs,?_⟩;exact CJ b g e pu (by rw[c];exact hw.1) (by rw[c];exact hw.2) ⟨.ref a,H,I,rfl,q⟩
def rSl(K:Ah):V->Option Int->Option Int->Hp->VK->Prop:=λx lo hi H Q=>(rSlT K x lo hi H Q∨rSlL K x lo hi H Q)∨rSlW K x lo hi H Q
def kSl(h:X.K=K:=by rfl):SlR X (rSl K):=by subst h;exact(zHC.or oK).or nA
def jR{b e:VP}(h:DA fa b e δ=b3 (d,δ')):∃x δ1 l δ2 u,fa δ=b3 (x,δ1)/\b δ1=b3 (l,δ2)/\e δ2=b3 (u,δ')/\oSl x l u=b3 d:=by
 unfold DA at h;cases h1:fa δ with
 |none=>rw[h1]at h;cases h
 |some p=>
  rw[h1]at h;cases h2:b p.2 with
  |none=>simp[h2]at h
  |some q=>
   simp only[Ar,h2]at h;cases a:e q.2 with
   |none=>simp[a]at h
   |some s=>
    simp only[Ar,a]at h;obtain⟨c,f,h⟩:=Ao.mp h;cases h;exact⟨p.1,p.2,q.1,q.2,s.1,rfl,h2,a,f⟩
def RL{lo hi:Option Uh}{p2:Pos}{v w:VP}(F:X.K=K)(E:PE X a (TV K ml pa ta ia fa))(hl:PO X lo (TPO K ml pb v))(D:PO X hi (TPO K ml pc w))(C:(pb&&pc || (ta&&ia))=ba:=by rfl):
  PE X (.Subscript a (.Slice lo hi b4 p2) pos) (TV K ml (pa&&pb&&pc) ba ia (DA fa v w)):=(gZ (kSl F) E hl D).imp λσ H Q s=>by
 obtain⟨B,O,δ,d,i,S,q,k⟩:=s;obtain⟨x,δ1,l,δ2,u,h1,h2,G,t⟩:=jR q;refine⟨B,O,δ,x,δ1,S,h1,λA H1 h=>⟨B,O,δ1,l,δ2,h.sta,h2,λH2 R2=>⟨B,O,δ2,u,i,R2.sta,G,λy c=>?_⟩⟩⟩;have o:bV K (av B O ia) y (at_ B O ta) A x:=by
  rcases(Hs _ _).mp C with z|z
  ·obtain⟨m,j⟩:=(Af _ _).mp z
   exact(h.rep.same (R2.pur m)).same (c.pur j)
  ·obtain⟨m,j⟩:=(Af _ _).mp z
   subst m j;exact(h.rep.fr R2.frm (λa z=>.inr z) λa z=>.inr z).fr c.frm (λa z=>.inr z) λa z=>.inr z
 have g:(pa&&pb&&pc)=ba->bH H y:=λz=>by simp only[Af]at z;exact((h.pur z.1.1).trans (R2.pur z.1.2)).trans (c.pur z.2)
 have f:=(h.frm.trans R2.frm).trans c.frm;cases x with
 |lst ds=>
  cases t;obtain⟨a,xs,rfl,sq,r⟩:=o.seq rfl;rcases sq with sq|sq
  ·exact .inl (.inr ⟨a,xs,rfl,sq,λp b=>k _ _ ⟨c.sta.same (cW b),f.trans (cW b).fr,λz=>(g z).trans (cW b),.lst cH (c.sta.new b) ((ON r l u).same (cW b))⟩⟩)
  ·cases o.onL with
   |lst q n r'=>exact .inl (.inr ⟨a,_,rfl,X9.of q,λp b=>k _ _ ⟨c.sta.same (cW b),f.trans (cW b).fr,λz=>(g z).trans (cW b),.lst cH (c.sta.new b) ((ON r' l u).same (cW b))⟩⟩)
   |fzm q r'=>exact .inl (.inr ⟨a,_,rfl,q.sq,λp b=>k _ _ ⟨c.sta.same (cW b),f.trans (cW b).fr,λz=>(g z).trans (cW b),.lst cH (c.sta.new b) ((ON r' l u).same (cW b))⟩⟩)
 |tup ds=>
  cases t;cases o.onT with
  |tup q r'=>
   by_cases hw:HT.sIx ds.length 0 l=0/\HT.sIx ds.length ds.length u=ds.length
   ·refine .inr ⟨_,_,rfl,q,by rw [r'.length];exact hw,k _ _ ⟨c.sta,f,g,?_⟩⟩
    have e:V7 ds l u=ds:=by unfold V7;rw[hw.1,hw.2];simp
    rw[e];exact .tup q r'
   ·exact .inl (.inl ⟨_,_,rfl,q,by rw[r'.length];exact hw,λp b=>k _ _ ⟨c.sta.same (cW b),f.trans (cW b).fr,λz=>(g z).trans (cW b),.tup (WS.of cH) ((ON r' l u).same (cW b))⟩⟩)
 |_=>cases t
end
inductive Ou where
 |nx (δ:Ev)|rt (d:c6) (δ:Ev)|bk (δ:Ev)|ct (δ:Ev)
abbrev VS:=Ev->Option Ou
def Post(K:Ah)(ml:List Nat)(B:Bs)(D:M0):Ou->Prop
 |.nx δ'=>∀a H' b,a7 K ml B b H' a δ'->D.nx a H'
 |.rt d δ'=>∀v a H' b,a7 K ml B b H' a δ'->bV K (rz B) H' (rz B) v d->D.rt v H'
 |.bk δ'=>∀a H' b,a7 K ml B b H' a δ'->D.bk a H'
 |.ct δ'=>∀a H' b,a7 K ml B b H' a δ'->D.ct a H'
inductive TSti(K:Ah)(ml:List Nat)(g:VS)(D:M0)(σ:St)(H:Hp):Prop
 |mk (B:_) (O:_) (δ:_) (o:_) (h0:a7 K ml B O H σ δ) (h1:g δ=b3 o) (h2:Post K ml B D o):TSti K ml g D σ H
def WO(K:Ah)(ml:List Nat)(g:VS):TS:=λD σ H=>TSti K ml g D σ H
section
variable{X:Cx}{K:Ah}{ml:List Nat}{e a b c:Uh}{es:List Uh}{pa ta ia pb tb ib pc tc ic pu bt bi ps bs:Bool}{fa fb fc f:VF}{B B':Bs}{O:Nat->Option Ub}{H H1 H':Hp}{σ:St}{δ δ':Ev}{v:V}{d:c6}{p:Ub}{pos:Pos}{st:Um}{rest:List Um}{g g':VS}
def aC:VS:=λδ=>b3 (.nx δ)
def cK(g g':VS):VS:=λδ=>(g δ).bind λo=>match o with
 |.nx δ'=>g' δ'
 |o=>b3 o
def cA:WU X [] (WO K ml aC):=D2.imp λD σ H a=>by obtain⟨B,O,δ,o,S,q,k⟩:=a;cases q;exact k σ H O S
def cZ(h1:PS X st (WO K ml g))(h2:WU X rest (WO K ml g')):WU X (st::rest) (WO K ml (cK g g')):=(RD h1 h2).imp λD σ H a=>by
 obtain⟨B,O,δ,o,S,q,k⟩:=a;unfold cK at q;obtain⟨z,h1,q⟩:=Aa.mp q;refine⟨B,O,δ,z,S,h1,?_⟩;cases z with
 |nx δ1=>exact λb H' e c=>⟨B,e,δ1,o,c,q,k⟩
 |rt d δ1=>cases q;exact k
 |bk δ1=>cases q;exact k
 |ct δ1=>cases q;exact k
def cU(h1:PS X st (WO K ml g)):WU X [st] (WO K ml g):=(RD h1 D2).imp λD σ H ⟨B,O,δ,o,S,q,k⟩=>⟨B,O,δ,o,S,q,by cases o<;>exact k⟩
noncomputable def bP(f:VF):VS:=λδ=>(f δ).map λp=>.rt p.1 p.2
def cL(h:PE X e (TV K ml pu bt bi f))(b:bt=ba:=by rfl):PS X (.Return (b3 e) pos) (WO K ml (bP f)):=(FY h).imp λD σ H a=>by obtain⟨B,O,δ,o,S,q,k⟩:=a;unfold bP at q;obtain⟨p,h1,q⟩:=Ao.mp q;cases q;subst b;exact⟨B,O,δ,p.1,p.2,S,h1,λv H' R=>k v σ H' O R.sta (R.rep.mono R.sta.rza R.sta.rzn)⟩
def fZ{i:Nat}(h:PE X e (WH i))(b:i∉ml:=by decide):PS X (.Return (b3 e) pos) (WO K ml (bP (fO i))):=(FY h).imp λD σ H a=>by obtain⟨B,O,δ,o,S,q,k⟩:=a;unfold bP at q;obtain⟨⟨x,δ1⟩,h1,q⟩:=Ao.mp q;cases q;obtain⟨rfl,v,c,r⟩:=S.lone b h1;exact⟨v,c,k v σ H O S (r.mono S.rza S.rza)⟩
def XU(t:VB)(g g':VS):VS:=λδ=>(t δ).bind λp=>if p.1=ba then g p.2 else g' p.2
def bJ{x y:List Um}{t:VB}(e:PT X c (TB K ml pc t))(h:WU X x (WO K ml g))(f:WU X y (WO K ml g')):PS X (.If c x y pos) (WO K ml (XU t g g')):=(Xe e h f).imp λD σ H a=>by
 obtain⟨B,O,δ,o,S,q,k⟩:=a;unfold XU at q;obtain⟨⟨b,δ1⟩,h1,q⟩:=Aa.mp q;refine⟨B,O,δ,b,δ1,S,h1,λH1 d=>?_⟩;cases b with
 |true=>exact MT ⟨B,O,δ1,o,d.sta,q,k⟩
 |false=>exact MS ⟨B,O,δ1,o,d.sta,q,k⟩
abbrev VX:=Ev->Option (Sl×Ev)
inductive St1(K:Ah)(B:Bs)(O:Nat->Option Ub)(H:Hp):Bs->V->Sl->Prop
 |va {v:V}{d:c6}:St1 K B O H {B with kp:=[(v,d)]++B.kp} v (.va d)
 |ol {p:Ub}{xs:List V}{ds:List c6}:H p=b3 (.lst xs)->xs.length=ds.length->¬Nn B O p->B.H0 p=b4->St1 K B O H {B.add p with kp:=xs.zip ds++B.kp} (.ref p) (.ow (.lst ds))
 |od {p:Ub}{kvs:List (aY×V)}{ds:List c6}:H p=b3 (.dK kvs)->kvs.length=ds.length->¬Nn B O p->B.H0 p=b4->St1 K B O H {B.add p with kp:=(kvs.map Er).zip ds++B.kp} (.ref p) (.ow (.dct (kvs.map Dh) ds))
 |of {p:Ub}{sh:List (Option Nat)}{vs:List V}{ds:List c6}:T8 H p sh vs->vs.length=ds.length->¬Nn B O p->B.H0 p=b4->St1 K B O H {B.add p with kp:=vs.zip ds++B.kp} (.ref p) (.ow (.nst sh ds))
def St1.fr{s:Sl}(h:St1 K B O H B' v s)(f:Fr (OA O) H H'):St1 K B O H' B' v s:=by
 cases h with
 |va=>exact .va
 |ol q l n z=>exact .ol (f _ _ q λw=>absurd (.inr w) n) l n z
 |od q l n z=>exact .od (f _ _ q λw=>absurd (.inr w) n) l n z
 |of q l n z=>exact .of (q.fr f λw=>n (.inr w)) l n z
inductive TXi(K:Ah)(ml:List Nat)(f:VX)(σ:St)(H:Hp)(Q:VK):Prop
 |mk (B:_) (O:_) (δ:_) (s:_) (δ':_) (h0:a7 K ml B O H σ δ) (h1:f δ=b3 (s,δ')) (h2:∀v H' B',a7 K ml B' O H' σ δ'->St1 K B O H' B' v s->Fr (OA O) H H'->Q v H'):TXi K ml f σ H Q
def TX(K:Ah)(ml:List Nat)(f:VX):TE:=λσ H Q=>TXi K ml f σ H Q
noncomputable def xV(f:VF):VX:=λδ=>(f δ).map λp=>(.va p.1,p.2)
noncomputable def xO(f:VF):VX:=λδ=>(f δ).map λp=>(.ow p.1,p.2)
def bI(h:PE X e (TV K ml pu ba ba f)):PE X e (TX K ml (xV f)):=h.imp λσ H Q a=>by
 obtain⟨B,O,δ,o,δ',S,q,k⟩:=a;unfold xV at q;obtain⟨p,h1,q⟩:=Ao.mp q;cases q;exact⟨B,O,δ,p.1,p.2,S,h1,λv H' R=>k v H' _ (R.sta.keepV (ps:=[(v,p.1)]) λz hz=>by rw[At.mp hz];exact R.rep) .va R.frm⟩
theorem XG{N:Ub->Prop}:∀{xs:List V}{ds:List c6},cG K N H xs ds->∀z∈xs.zip ds,bV K N H N z.1 z.2
 |_,_,.nil,z,hz=>nomatch hz
 |_,_,.cons h t,z,hz=>by
  rcases Ak.mp hz with e|e
  ·rw[e];exact h
  ·exact XG t z e
theorem VV{N:Ub->Prop}:∀{xs:List V}{ds:List c6},xs.length=ds.length->(∀z∈xs.zip ds,bV K N H N z.1 z.2)->cG K N H xs ds
 |[],[],_,_=>.nil
 |x::xs,d::ds,hl,h=>.cons (h (x,d) (Au ..)) (VV (by simpa using hl) λz hz=>h z (Am _ hz))
def VC(h:PE X e (TN K ml pu f)):PE X e (TX K ml (xO f)):=h.imp λσ H Q a=>by
 obtain⟨B,O,δ,o,δ',S,q,k⟩:=a;unfold xO at q;cases h1:f δ with
 |none=>rw[h1]at q;cases q
 |some p=>
  obtain⟨d,δ1⟩:=p;rw[h1]at q;cases q;refine⟨B,O,δ,d,δ1,S,h1,λp H' R=>?_⟩;have w:=R.own;cases w with
  |lst q r=>exact k _ H' _ (R.sta.keepV (XG r)) (.ol q r.length R.nz R.h0) R.frm
  |dct q r=>exact k _ H' _ (R.sta.keepV (XG r)) (.od q (by simpa using r.length) R.nz R.h0) R.frm
  |nst q r=>exact k _ H' _ (R.sta.keepV (XG r)) (.of q r.length R.nz R.h0) R.frm
def St1.bind{c:Nat->Option Ub}{s:Sl}{i:Nat}(h:St1 K B O H' B' v s)(S:a7 K ml B' c H' σ δ)(a:i∉ml)(hl:i<δ.length):∃b,a7 K ml B b H' (σ.set i (b3 v)) (δ.set i s):=by
 cases h with
 |va=>
  refine⟨_,a7.unkeep (ps:=_) (S.setVa a (S.kep _ (Bp _ (At.mpr rfl))))⟩
 |ol q l n z=>
  refine⟨_,a7.setOw (a7.unkeep (B:=B.add _) S) a hl (λw=>n (.inl w)) z (.lst q (VV l λz hz=>S.kep z (Bp _ hz)))⟩
 |od q l n z=>
  refine⟨_,a7.setOw (a7.unkeep (B:=B.add _) S) a hl (λw=>n (.inl w)) z (.dct q (VV (by simpa using l) λz hz=>S.kep z (Bp _ hz)))⟩
 |of q l n z=>
  refine⟨_,a7.setOw (a7.unkeep (B:=B.add _) S) a hl (λw=>n (.inl w)) z (.nst q (VV l λz hz=>S.kep z (Bp _ hz)))⟩
noncomputable def a8(i:Nat)(x:VX):VS:=λδ=>(x δ).bind λp=>if i<p.2.length then b3 (.nx (p.2.set i p.1))else b4
def bT{i:Nat}{y:Ue}{x:VX}{ai:Pos}(j:X.N.Nodup)(h:PE X e (TX K ml x))(hi:X.N[i]?=b3 y:=by rfl)(c:AB X.env.scope y:=by first|exact .inl rfl|exact .inr rfl)(f:i∉ml:=by decide)(d:Hk e (b3 (.Name y ai)) pos.line X.env=pure bb:=by rfl)
  (g:LO X y:=by first|exact .inl rfl|exact .inr rfl|assumption):PS X (.Assign [.Name y ai] e pos) (WO K ml (a8 i x)):=(fJ j hi c h d g).imp λD σ H a=>by
 obtain⟨B,O,δ,o,S,q,k⟩:=a;unfold a8 at q;obtain⟨⟨s,δ1⟩,h1,q⟩:=Aa.mp q;have q:(if i<δ1.length then b3 (Ou.nx (δ1.set i s))else b4)=b3 o:=q;split at q
 ·rename_i hl
  cases q;refine⟨B,O,δ,s,δ1,S,h1,λv H' B' l h' n=>?_⟩;obtain⟨m,b⟩:=h'.bind l f hl;exact k _ _ _ b
 ·cases q
noncomputable def PR(i j:Nat)(x y:VX):VS:=λδ=>(x δ).bind λp=>(y p.2).bind λq=>if i<q.2.length/\j<q.2.length then b3 (.nx ((q.2.set j q.1).set i p.1))else b4
def OZ{i j:Nat}{y z:Ue}{fx m:VX}{e d pt:Pos}{kt k2 pt2}(hc:X.calm=ba)(I:X.N.Nodup)(hi:X.N[i]?=b3 y)(C:X.N[j]?=b3 z)(c:i≠j)(x:X.env.scope.names.lookup y=b3 .local)(w:X.env.scope.names.lookup z=b3 .local)(G:PE X a (TX K ml fx))(F:PE X b (TX K ml m))(hw:Ey [.Tuple [.Name y e,.Name z d] kt pt] (.Tuple [a,b] k2 pt2) X.env=pure (b3 [y,z]))(h:i∉ml:=by decide)(g:j∉ml:=by decide)(A:Ex [.Tuple [.Name y e,.Name z d] kt pt] (.Tuple [a,b] k2 pt2) pos.line X.env=pure bb:=by rfl)(E:SE X a [b]:=by rfl)(l:SE X b []:=by rfl):
  PS X (.Assign [.Tuple [.Name y e,.Name z d] kt pt] (.Tuple [a,b] k2 pt2) pos) (WO K ml (PR i j fx m)):=(eI hc I hi C c x w (b8 G (b8 F aH l) E) hw A).imp λD σ H f=>by
 obtain⟨B,O,δ,o,S,q,k⟩:=f;unfold PR at q;obtain⟨⟨s,δ1⟩,h1,q⟩:=Aa.mp q;cases h2:m δ1 with
 |none=>simp[h2]at q
 |some p2=>
  obtain⟨u,δ2⟩:=p2;simp only[Ar,h2]at q;split at q
  ·rename_i hl
   cases q;refine⟨B,O,δ,s,δ1,S,h1,λv H1 P M r f1=>⟨P,O,δ1,u,δ2,M,h2,λt H2 T L p f2=>⟨v,t,rfl,?_⟩⟩⟩;obtain⟨R,J⟩:=p.bind L g hl.2;obtain⟨Q,n⟩:=(r.fr f2).bind J h (by rw[Cc];exact hl.1);rw[Ez _ _ (Di c)]at n;exact k _ _ _ n
  ·cases q
abbrev VG:=c6->Ev->Option Ev
inductive TGVi(K:Ah)(ml:List Nat)(h:VG)(v:V)(σ:St)(H:Hp)(Q:St->Hp->Prop):Prop
 |mk (B:_) (O:_) (δ:_) (d:_) (δ':_) (h0:a7 K ml B O H σ δ) (h1:bV K (Nn B O) H (Nn B O) v d) (h2:h d δ=b3 δ') (h3:∀σ' O',a7 K ml B O' H σ' δ'->(∀i∈ml,σ'[i]?=σ[i]?)->Q σ' H):TGVi K ml h v σ H Q
def TGV(K:Ah)(ml:List Nat)(h:VG):TG:=λv σ H Q=>TGVi K ml h v σ H Q
def PG.imp{t u:TG}(h:PG X e t)(k:∀v σ H Q,u v σ H Q->t v σ H Q):PG X e u:=λaa s σ H v w Q I r z=>h aa s σ H v w Q I r (k v σ H Q z)
def CZ.imp{t u:AH}(h:CZ X es t)(k:∀v σ H Q,u v σ H Q->t v σ H Q):CZ X es u:=λaa s σ H v w Q I r z=>h aa s σ H v w Q I r (k v σ H Q z)
def PG.or{t u:TG}(h:PG X e t)(h':PG X e u):PG X e (λv σ H Q=>t v σ H Q∨u v σ H Q):=λaa s σ H v w Q I r z=>by
 rcases z with z|z
 ·exact h aa s σ H v w Q I r z
 ·exact h' aa s σ H v w Q I r z
def gN(i:Nat):VG:=λd δ=>b3 (δ.set i (.va d))
def bU{i:Nat}{x:Ue}(g:X.N.Nodup)(hi:X.N[i]?=b3 x:=by rfl)(c:AB X.env.scope x:=by first|exact .inl rfl|exact .inr rfl)(b:i∉ml:=by decide)(f:LO X x:=by first|exact .inl rfl|exact .inr rfl|assumption):PG X (.Name x pos) (TGV K ml (gN i)):=
 (RA g hi c f).imp λv σ H Q a=>by obtain⟨B,O,δ,d,δ',S,r,q,k⟩:=a;cases q;exact k _ _ (S.setVa b r) λj e=>By λ(z:i=j)=>b (z▸e)
abbrev AI:=List c6->Ev->Option Ev
inductive Vp(K:Ah)(ml:List Nat)(h:AI)(vs:List V)(σ:St)(H:Hp)(Q:St->Hp->Prop):Prop
 |mk (B:_) (O:_) (δ:_) (ds:_) (δ':_) (h0:a7 K ml B O H σ δ) (h1:cG K (Nn B O) H vs ds) (h2:h ds δ=b3 δ') (h3:∀σ' O',a7 K ml B O' H σ' δ'->(∀i∈ml,σ'[i]?=σ[i]?)->Q σ' H):Vp K ml h vs σ H Q
def TGVs(K:Ah)(ml:List Nat)(h:AI):AH:=λvs σ H Q=>Vp K ml h vs σ H Q
def V8:AI:=λds δ=>match ds with
 |[]=>b3 δ
 |_=>b4
def aL(g:VG)(a:AI):AI:=λds δ=>match ds with
 |d::r=>(g d δ).bind λδ1=>a r δ1
 |[]=>b4
def V1:CZ X [] (TGVs K ml V8):=J7.imp λvs σ H Q a=>by
 obtain⟨B,O,δ,ds,δ',S,r,q,k⟩:=a;cases r with
 |nil=>cases q;exact⟨rfl,k _ _ S λ_ _=>rfl⟩
 |cons _ _=>cases q
def aB{g:VG}{c:AI}(h1:PG X e (TGV K ml g))(h2:CZ X es (TGVs K ml c))(n:(Ui (e::es) X.env).map (·.2)=assign e X.env::(Ui es X.env).map (·.2):=by rfl):CZ X (e::es) (TGVs K ml (aL g c)):=
 (WD h1 h2 n).imp λvs σ H Q b => by
  obtain⟨B,O,δ,ds,δ',S,r,q,k⟩:=b;cases r with
  |nil=>cases q
  | @cons v vs d ds h t=>
   have q:((g d δ).bind λδ1=>c ds δ1)=b3 δ':=q;obtain⟨δ1,h1,q⟩:=Aa.mp q;have p:=S.keepV (XG t);exact⟨v,vs,rfl,_,O,δ,d,δ1,p,h,h1,λj u f m=>⟨B,u,δ1,ds,δ',f.unkeep,VV t.length λz hz=>f.kep z (Bp _ hz),q,λa s o l=>k a s o λi hi=>(l i hi).trans (m i hi)⟩⟩
def FE(n:Nat)(a:AI):VG:=λd δ=>(XO d).bind λds=>if ds.length=n then a ds δ else b4
def SQ{e:AI}{k n:Nat}(j:X.K=K)(hc:X.calm=ba)(h:CZ X es (TGVs K ml e))(i:(Ui es X.env).length=n:=by rfl)(b:(Ui es X.env).findIdx? (·.1)=b4:=by rfl):PG X (.Tuple es k pos) (TGV K ml (FE n e)):=
 ((Yj (K := K) j hc h i b).or (mU (K := K) j hc h i b)).imp λv σ H Q g => by
  obtain⟨B,O,δ,d,δ',S,r,q,k⟩:=g;unfold FE at q;obtain⟨ds,h1,q⟩:=Aa.mp q;have q:(if ds.length=n then e ds δ else b4)=b3 δ':=q;split at q
  ·rename_i hl
   obtain⟨a,xs,rfl,sq,f⟩:=r.seq h1;have c:TGVs K ml e xs σ H Q:=⟨B,O,δ,ds,δ',S,f,q,k⟩;rcases sq with sq|sq
   ·exact .inr ⟨a,xs,rfl,sq,f.length.trans hl,c⟩
   ·exact .inl ⟨a,xs,rfl,sq,f.length.trans hl,c⟩
  ·cases q
noncomputable def CB(f:VF)(g:VG):VS:=λδ=>(f δ).bind λp=>(g p.1 p.2).map Ou.nx
def Wo{tg:Uh}{gg:VG}(h:PE X e (TV K ml pu ba ba f))(g:PG X tg (TGV K ml gg))(c:Ex [tg] e pos.line X.env=pure bb:=by rfl)(hw:Ey [tg] e X.env=pure b4:=by rfl)
  (h1:(Ui [tg] X.env).map (·.2)=[assign tg X.env]:=by rfl):PS X (.Assign [tg] e pos) (WO K ml (CB f gg)):=(QI h g c hw h1).imp λD σ H b=>by
 obtain⟨B,O,δ,o,S,q,k⟩:=b;unfold CB at q;obtain⟨⟨d,δ1⟩,h1,q⟩:=Aa.mp q;have q:(gg d δ1).map Ou.nx=b3 o:=q;obtain⟨δ2,h2,q⟩:=Ao.mp q;cases q;exact⟨B,O,δ,d,δ1,S,h1,λv H' R=>⟨B,O,δ1,d,δ2,R.sta,R.rep,h2,λa j i _=>k a H' j i⟩⟩
def MuV(K:Ah)(r:V->List V->Hp->VK->Prop)(m:List c6->List c6->Option (List c6)):Prop:=∀(H:Hp) (N:Ub->Prop) (l:Ub) (xs vs:List V) (ds es b:List c6) (Q:VK),
 H l=b3 (.lst xs)->N l->cG K N H xs ds->cG K N H vs es->m ds es=b3 b->(∀v a,cG K N H a b->Q v (upd H l (.lst a)))->r (.ref l) vs H Q
noncomputable def PD(δ:Ev)(i:Nat):Option (List c6):=match δ[i]? with
 |some (.ow (.lst ds))=>b3 ds
 |_=>b4
def W0(i:Nat)(m:List c6->List c6->Option (List c6))(fs:RT):VS:=λδ=>(PD δ i).bind λ_=>(fs δ).bind λp=>(PD p.2 i).bind λds=>(m ds p.1).map λa=>.nx (p.2.set i (.ow (.lst a)))
def LU{i:Nat}{ds:List c6}(h:PD δ i=b3 ds):δ[i]?=b3 (.ow (.lst ds)):=by
 unfold PD at h;split at h
 ·cases h;assumption
 ·cases h
def IA{N:Ub->Prop}{l:Ub}{o:HO}{xs:List V}{ds ys:List c6}{zs:List V}(d:H l=b3 (.lst zs))(e:N l)(h:cG K N H xs ds):cG K N (upd H l o) xs ds:=
 h.fr (P:=λb=>b=l) (λb u q n=>by
  by_cases c:b=l
  ·subst c
   rw[d]at q;cases q;exact absurd (n rfl) λz=>z
  ·rw[cB c]
   exact q) λa z=>z▸e
def ZY{i:Nat}{x:Ue}{name:Ue}{ao ae c:Pos}{id:String}{r:V->List V->Hp->VK->Prop}{m:List c6->List c6->Option (List c6)}{fs:RT}(slot:Slot "list" name id)(g:Qd (.builtin id)=pure (.type "method_descriptor"))(I:MtR X id r)(n:MuV K r m)(G:PE X (.Name x c) (WH i))(J:PA X (e::es) (AG K ml pu ba fs))(T:Gh (.Name x c) name X.env (eval (.Name x c) X.env)=eval (.Name x c) X.env:=by rfl)(Q:((Fa ae (Uc (e::es) X.env)).all (λx=> !x.1)&&(Ll ae (He [] X.env)).all (λx=>x.1.isSome)&&decide ((e::es).length+([]:List Hf).length+(if([]:List Hf).isEmpty then 0 else 1)<30))=ba:=by rfl)(U:(ao.endLine==ae.line)=ba:=by rfl)(F:SE X e es:=by rfl)(W:(Fa ae (Uc es X.env)).any (·.1)=bb:=by rfl)(h:Hk (.Call (.Attribute (.Name x c) name ao) (e::es) [] ae) b4 pos.line X.env=pure bb:=by rfl)(L:X.K=K:=by rfl):PS X (.Expr (.Call (.Attribute (.Name x c) name ao) (e::es) [] ae) pos) (WO K ml (W0 i m fs)):=
 (D1 (kBm (K := K) L Gi slot g I G J T Q U F W) h).imp λD σ H j => by
  obtain⟨B,O,δ,o,S,q,k⟩:=j;unfold W0 at q;obtain⟨P,M,q⟩:=Aa.mp q;have q:((fs δ).bind λp=>(PD p.2 i).bind λds=>(m ds p.1).map λa=>Ou.nx (p.2.set i (.ow (.lst a))))=b3 o:=q;obtain⟨⟨b,δ1⟩,h1,q⟩:=Aa.mp q;have q:((PD δ1 i).bind λds=>(m ds b).map λa=>Ou.nx (δ1.set i (.ow (.lst a))))=b3 o:=q;obtain⟨ds,h2,q⟩:=Aa.mp q;have q:((m ds b).map λa=>Ou.nx (δ1.set i (.ow (.lst a))))=b3 o:=q;cases t:m ds b with
  |none=>rw[t]at q;cases q
  |some a=>
   rw[t]at q;cases q;obtain⟨l,f,N,w⟩:=S.ow i _ (LU M);cases w with
   |lst s _=>
    refine⟨.ref l,N,.inl ⟨rfl,_,X9.of s⟩,B,O,δ,b,δ1,S,h1,λvs H1 R=>?_⟩;obtain⟨Y,u,_,A⟩:=R.sta.ow i _ (LU h2);rw[f]at u;cases u;cases A with
    |lst d E=>
     refine n H1 (Nn B O) l _ vs ds b a _ d (.inr ⟨i,f⟩) E R.rep t λv y C=>?_;exact k σ _ O (R.sta.wrote f (λz=>z) (.lst cH (IA (ys:=[]) d (.inr ⟨i,f⟩) C)))
noncomputable def TC:List c6->List c6->Option (List c6)
 |ds,[d]=>if ds.length<16777216 then b3 (ds++[d])else b4
 |_,_=>b4
def X3:MuV K D5 TC:=by
 intro H N l xs vs ds es c Q hl e a b h k;cases b with
 |nil=>cases h
 | @cons v vs d es hd t=>
  cases t with
  |cons _ _=>cases h
  |nil=>
   simp only[TC]at h;split at h
   ·rename_i hz
    cases h;exact⟨l,xs,v,rfl,rfl,hl,by rw[a.length,Ce];exact hz,k _ _ (a.snoc hd)⟩
   ·cases h
end
section
variable{X:Cx}{K:Ah}{ml:List Nat}{e a b c:Uh}{es:List Uh}{pa ta ia pb tb ib pc tc ic pu bt bi ps bs:Bool}{fa fb fc f:VF}{B B':Bs}{O:Nat->Option Ub}{H H1 H':Hp}{σ:St}{δ δ':Ev}{v:V}{d:c6}{p:Ub}{pos:Pos}{st:Um}{rest:List Um}{g g':VS}
def YE(a:VS):Ou->Option Ou
 |.nx δ=>a δ
 |.ct δ=>a δ
 |.bk δ=>b3 (.nx δ)
 |.rt d δ=>b3 (.rt d δ)
noncomputable def bA(t:VB)(g:VS):Nat->VS
 |0=>λ_=>b4
 |n+1=>λδ=>(t δ).bind λp=>if p.1=ba then(g p.2).bind (YE (bA t g n))else b3 (.nx p.2)
theorem U0{t:VB}:∀{n:Nat}{δ:Ev}{o:Ou},bA t g n δ=b3 o->bA t g (n+1) δ=b3 o
 |0,_,_,h=>by cases h
 | n + 1,δ,o,h => by
  dsimp only[bA]at h;show((t δ).bind λp=>if p.1=ba then(g p.2).bind (YE (bA t g (n+1)))else b3 (.nx p.2))=b3 o;cases h1:t δ with
  |none=>rw[h1]at h;cases h
  |some p=>
   rw[h1]at h;obtain⟨a,δ1⟩:=p;cases a with
   |false=>exact h
   |true=>
    have h:(g δ1).bind (YE (bA t g n))=b3 o:=h;show(g δ1).bind (YE (bA t g (n+1)))=b3 o;cases h2:g δ1 with
    |none=>rw[h2]at h;cases h
    |some z=>
     rw[h2]at h;cases z with
     |nx δ2=>exact U0 (n:=n) h
     |ct δ2=>exact U0 (n:=n) h
     |bk δ2=>exact h
     |rt d δ2=>exact h
theorem SR{t:VB}{n:Nat}{o:Ou}(h:bA t g n δ=b3 o):∀k,bA t g (n+k) δ=b3 o
 |0=>h
 |k+1=>U0 (SR h k)
def GJ{t:VB}{n m:Nat}{o o':Ou}(h:bA t g n δ=b3 o)(h':bA t g m δ=b3 o'):o=o':=by have b:=SR h m;have a:=SR h' n;rw[Qf]at a;rw[b]at a;exact Cg a
open Classical in
noncomputable def UU(t:VB)(g:VS):VS:=λδ=>if h:∃o n,bA t g n δ=b3 o then b3 (Classical.choose h)else b4
def QJ{t:VB}{n:Nat}{o:Ou}(h:bA t g n δ=b3 o):UU t g δ=b3 o:=by have a:∃o n,bA t g n δ=b3 o:=⟨o,n,h⟩;unfold UU;rw[dif_pos a];obtain⟨m,b⟩:=Mr a;rw[GJ b h]
def F4{t:VB}{o:Ou}(h:UU t g δ=b3 o):∃n,bA t g n δ=b3 o:=by
 unfold UU at h;split at h
 ·rename_i a
  cases h;exact Mr a
 ·cases h
def OF{body:List Um}{t:VB}(l:Rc (Uf X.prog X.w) X.A X.env X.xe)(hc:PT X c (TB K ml pc t))(s:WU X body (WO K ml g)):PS X (.While c body [] pos) (WO K ml (UU t g)):=(oN l hc s).imp λD σ H h=>by
 obtain⟨B,O,δ,o,S,q,k⟩:=h;obtain⟨n,p⟩:=F4 q;refine⟨λm σ H=>∃O δ,a7 K ml B O H σ δ/\bA t g m δ=b3 o,⟨n,O,δ,S,p⟩,?_⟩;rintro m σ H ⟨O,δ,S,b⟩;cases m with
 |zero=>cases b
 |succ m=>
  dsimp only[bA]at b;obtain⟨⟨i,δ1⟩,h1,b⟩:=Aa.mp b;refine⟨B,O,δ,i,δ1,S,h1,λH1 j=>?_⟩;cases i with
  |false=>
   have b:b3 (Ou.nx δ1)=b3 o:=b;cases b;exact MS (k σ H1 O j.sta)
  |true=>
   have b:(g δ1).bind (YE (bA t g m))=b3 o:=b;obtain⟨z,h2,b⟩:=Aa.mp b;refine MT ⟨λa H'=>∃O δ,a7 K ml B O H' a δ/\bA t g m δ=b3 o,λa H' w=>⟨m,Nat.lt_succ_self _,w⟩,B,O,δ1,z,j.sta,h2,?_⟩;cases z with
   |nx δ2=>exact λa H' f e=>⟨f,δ2,e,b⟩
   |ct δ2=>exact λa H' f e=>⟨f,δ2,e,b⟩
   |bk δ2=>cases b;exact λa H' f e=>k a H' f e
   |rt d δ2=>cases b;exact λv a H' f e r=>k v a H' f e r
def Walk(K:Ah)(J:It)(a:List (V×c6))(ds:List c6):Prop:=∀(N:Ub->Prop) (H:Hp),(∀p∈a,bV K N H N p.1 p.2)->
 (∀(i:Nat) (d:c6),ds[i]?=b3 d->J.go i H/\∀x H',J.yld i H x H'->bH H H'/\bV K N H' N x d)/\J.stop ds.length H
abbrev VI:=Ev->Option (List c6×Ev)
inductive TIVi(K:Ah)(ml:List Nat)(pu:Bool)(f:VI)(σ:St)(H:Hp)(R:It->Hp->Prop):Prop
 |mk (B:_) (O:_) (δ:_) (ds:_) (δ':_) (h0:a7 K ml B O H σ δ) (h1:f δ=b3 (ds,δ')) (h2:∀J kps H',a7 K ml {B with kp:=kps++B.kp} O H' σ δ'->Fr (OA O) H H'->(pu=ba->bH H H')->Walk K J kps ds->R J H'):TIVi K ml pu f σ H R
def TIV(K:Ah)(ml:List Nat)(pu:Bool)(f:VI):TI:=λσ H R=>TIVi K ml pu f σ H R
def PI.imp{tg:Uh}{t u:TI}(h:PI X tg e t)(k:∀σ H R,u σ H R->t σ H R):PI X tg e u:=λaa s σ H R I w=>h aa s σ H R I (k σ H R w)
def PI.or{tg:Uh}{t u:TI}(h:PI X tg e t)(h':PI X tg e u):PI X tg e (λσ H R=>t σ H R∨u σ H R):=λaa s σ H R I z=>by
 rcases z with z|z
 ·exact h aa s σ H R I z
 ·exact h' aa s σ H R I z
def U5(f:VF):VI:=λδ=>(f δ).bind λp=>(XO p.1).map λds=>(ds,p.2)
def nO{a:Ub}{ds:List c6}:Walk K (Itl K a) [(.ref a,.lst ds)] ds:=by
 intro N H h;have r:=h _ (At.mpr rfl);have b:∀xs,X9 K H a xs->cG K N H xs ds->(∀(i:Nat) (d:c6),ds[i]?=b3 d->(Itl K a).go i H/\∀x H',(Itl K a).yld i H x H'->bH H H'/\bV K N H' N x d)/\(Itl K a).stop ds.length H:=λxs sq r=>by
  refine⟨λi d e=>?_,xs,sq,by rw[r.length];exact Aq _⟩;obtain⟨x,c,f⟩:=r.get e;refine⟨⟨xs,x,sq,c⟩,λy H' g=>?_⟩;obtain⟨k,j⟩:=g;subst k;have:=j xs sq
  rw[c]at this;cases this;exact⟨bH.refl _,f⟩
 cases r.onL with
 |lst q n r=>exact b _ (X9.of q) r
 |fzm q r=>exact b _ q.sq r
def Zt{a:Ub}{ds:List c6}:Walk K (Itt K a) [(.ref a,.tup ds)] ds:=by
 intro N H h;have r:=h _ (At.mpr rfl);cases r.onT with
 |tup sq r=>
  refine⟨λi d e=>?_,_,sq,by rw[r.length];exact Aq _⟩;obtain⟨x,b,c⟩:=r.get e;refine⟨⟨_,x,sq,b⟩,λy H' f=>?_⟩;obtain⟨j,g⟩:=f;subst j;have:=g _ sq
  rw[b]at this;cases this;exact⟨bH.refl _,c⟩
def V2{tg:Uh}(i:X.K=K)(h:PE X e (TV K ml pu ba ba f)):PI X tg e (TIV K ml pu (U5 f)):=((Yl (K:=K) i h).or (Vu (K:=K) i h)).imp λσ H R c=>by
 obtain⟨B,O,δ,ds,δ',S,q,k⟩:=c;unfold U5 at q;obtain⟨⟨x,δ1⟩,h1,q⟩:=Aa.mp q;cases x with
 |lst g=>
  cases q;refine .inl ⟨B,O,δ,_,δ1,S,h1,λv H1 b=>?_⟩;obtain⟨a,xs,rfl,sq,r⟩:=b.rep.seq rfl;refine⟨a,rfl,?_,k _ [(.ref a,.lst ds)] H1 (b.sta.keepV λp d=>by rw[At.mp d];exact b.rep) b.frm b.pur nO⟩;have r:=b.rep;cases r.onL with
  |lst q _ _=>exact⟨_,X9.of q⟩
  |fzm q _=>exact⟨_,q.sq⟩
 |tup g=>
  cases q;refine .inr ⟨B,O,δ,_,δ1,S,h1,λv H1 b=>?_⟩;obtain⟨a,xs,rfl,sq,r⟩:=b.rep.seq rfl;refine⟨a,rfl,?_,k _ [(.ref a,.tup ds)] H1 (b.sta.keepV λp d=>by rw[At.mp d];exact b.rep) b.frm b.pur Zt⟩;have r:=b.rep;cases r.onT with
  |tup q _=>exact⟨_,q⟩
 |_=>cases q
def ZN(lo:Int)(n:Nat):List c6:=(Bf n).map λk:Nat=>.int (lo+k)
noncomputable def FF(f:VF):VI:=λδ=>(f δ).bind λp=>match p.1 with
 |.int j=>if -4611686018427387904<=j/\j<4611686018427387904 then b3 (ZN 0 j.toNat,p.2)else b4
 |_=>b4
noncomputable def iR2(f g:VF):VI:=λδ=>(f δ).bind λp=>(g p.2).bind λq=>match p.1,q.1 with
 |.int i,.int j=>if(-4611686018427387904<=i/\i<4611686018427387904)/\ -4611686018427387904<=j/\j<4611686018427387904 then b3 (ZN i (j-i).toNat,q.2)else b4
 |_,_=>b4
def kG{lo:Int}{n i:Nat}{d:c6}(h:(ZN lo n)[i]?=b3 d):i<n/\d=.int (lo+i):=by
 unfold ZN at h;rw[Ds]at h;obtain⟨k,h1,h⟩:=Ao.mp h;cases h;have:=Ag.mp h1
 obtain⟨hl,e⟩:=this;rw[Ie]at hl;rw[List.getElem_range]at e;subst e;exact⟨hl,rfl⟩
def JB{lo:Int}{n:Nat}:Walk K (Itr lo n) [] (ZN lo n):=by intro N H _;refine⟨λi d e=>?_,by simp[Itr,ZN]⟩;obtain⟨hl,rfl⟩:=kG e;refine⟨hl,λx H' a=>?_⟩;obtain⟨rfl,rfl⟩:=a;exact⟨bH.refl _,.int _⟩
def X6{tg:Uh}{p':Pos}(l:Gl X "range")(i:X.mg "range"=b4)(h:PE X a (TV K ml pa ta ia fa))(g:Uc [a] X.env=[(bb,eval a X.env)]:=by rfl)(d:SE X a []:=by rfl):
  PI X tg (.Call (.Name "range" p') [a] [] pos) (TIV K ml pa (FF fa)):=(BX l i (b8 h aH d) g).imp λσ H R e=>by
 obtain⟨B,O,δ,ds,δ',S,q,k⟩:=e;unfold FF at q;obtain⟨⟨x,δ1⟩,h1,q⟩:=Aa.mp q;cases x with
 |int j=>
  have q:(if -4611686018427387904<=j/\j<4611686018427387904 then b3 (ZN 0 j.toNat,δ1)else b4)=b3 (ds,δ'):=q;split at q
  ·rename_i f
   cases q;have b:(2:Int) ^ 62=4611686018427387904:=by decide
   refine⟨B,O,δ,_,_,S,h1,λv H1 c=>⟨j,?_,by rw[b];exact f.1,by rw[b];exact f.2,k _ [] H1 (c.sta.keepV λ_ z=>nomatch z) c.frm c.pur JB⟩⟩;rw[c.rep.onI]
  ·cases q
 |_=>cases q
def CQ{tg:Uh}{p':Pos}(t:Gl X "range")(s:X.mg "range"=b4)(h:PE X a (TV K ml pa ta ia fa))(h':PE X b (TV K ml pb tb ib fb))(r:Uc [a,b] X.env=[(bb,eval a X.env),(bb,eval b X.env)]:=by rfl)(f:Uc [b] X.env=[(bb,eval b X.env)]:=by rfl)(u:SE X a [b]:=by rfl)(l:SE X b []:=by rfl):
  PI X tg (.Call (.Name "range" p') [a,b] [] pos) (TIV K ml (pa&&pb) (iR2 fa fb)):=(BY t s (b8 h (b8 h' aH l) u) r f).imp λσ H R g=>by
 obtain⟨B,O,δ,ds,δ',S,q,k⟩:=g;unfold iR2 at q;obtain⟨⟨x,δ1⟩,h1,q⟩:=Aa.mp q;cases h2:fb δ1 with
 |none=>simp[h2]at q
 |some p2=>
  obtain⟨y,δ2⟩:=p2;simp only[Ar,h2]at q;cases x with
  |int i=>
   cases y with
   |int j=>
    have q:(if(-4611686018427387904<=i/\i<4611686018427387904)/\ -4611686018427387904<=j/\j<4611686018427387904 then b3 (ZN i (j-i).toNat,δ2)else b4)=b3 (ds,δ'):=q;split at q
    ·rename_i c
     cases q;have e:(2:Int) ^ 62=4611686018427387904:=by decide
     refine⟨B,O,δ,_,_,S,h1,λv H1 d=>⟨B,O,δ1,_,_,d.sta,h2,λw H2 R2=>⟨i,j,?_,by rw[e];exact⟨c.1.1,c.1.2,c.2.1,c.2.2⟩,k _ [] H2 (R2.sta.keepV λ_ z=>nomatch z) (d.frm.trans R2.frm) (λz=>by obtain⟨n,m⟩:=(Af _ _).mp z;exact(d.pur n).trans (R2.pur m)) JB⟩⟩⟩
     have p:=d.rep;have o:=R2.rep;cases p.onI;cases o.onI;rfl
    ·cases q
   |_=>cases q
  |_=>cases q
noncomputable def WW(gg:VG)(s:VS):List c6->VS
 |[]=>λδ=>b3 (.nx δ)
 |d::r=>λδ=>(gg d δ).bind λδ1=>(s δ1).bind (YE (WW gg s r))
def UT(fi:VI)(gg:VG)(s:VS):VS:=λδ=>(fi δ).bind λp=>WW gg s p.1 p.2
def WN{tg iter:Uh}{body:List Um}{fi:VI}{gg:VG}(s:Rc (Uf X.prog X.w) X.A X.env X.xe)(hc:X.calm=ba)(hi:PI X tg iter (TIV K ml pu fi))(L:PG X tg (TGV K ml gg))(M:WU X body (WO K ml g))
  (I:∀x,Uo iter X.env x=pure x:=by intro _;rfl):PS X (.For tg iter body [] pos) (WO K ml (UT fi gg g)):=(Zb s hc hi L M I).imp λD σ H n=>by
 obtain⟨B,O,δ,o,S,q,k⟩:=n;unfold UT at q;obtain⟨⟨ds,δ1⟩,h1,q⟩:=Aa.mp q;have q:WW gg g ds δ1=b3 o:=q;refine⟨B,O,δ,ds,δ1,S,h1,λJ l H1 Q _ _ y=>?_⟩;refine⟨λi m σ H=>m=ds.length-i/\i<=ds.length/\∃O δ,a7 K ml {B with kp:=l++B.kp} O H σ δ/\WW gg g (ds.drop i) δ=b3 o,⟨ds.length,rfl,Ep _,O,δ1,Q,q⟩,?_⟩;rintro i m σ H ⟨rfl,hi,O,δ,S,b⟩;have w:=y (Nn B O) H λp s=>S.kep p (Bp _ s);by_cases f:i<ds.length
 ·obtain ⟨go,u⟩ := w.1 i ds[i] (by simp [f])
  rw[Fx f]at b;refine .inr ⟨go,λa H'=>∃O δ,a7 K ml {B with kp:=l++B.kp} O H' a δ/\WW gg g (ds.drop (i+1)) δ=b3 o,λa H' C=>⟨ds.length-(i+1),by lia,rfl,f,C⟩,λx H' G=>?_⟩;obtain⟨E,F⟩:=u x H' G;have b:((gg ds[i] δ).bind λδ1=>(g δ1).bind (YE (WW gg g (ds.drop (i+1)))))=b3 o:=b;obtain⟨δ2,h2,b⟩:=Aa.mp b;have b:(g δ2).bind (YE (WW gg g (ds.drop (i+1))))=b3 o:=b;refine⟨_,O,δ,ds[i],δ2,S.same E,F,h2,λt R P _=>?_⟩;obtain⟨z,N,b⟩:=Aa.mp b;refine⟨_,R,δ2,z,P,N,?_⟩;cases z with
  |nx c=>exact λa H' j h=>⟨j,c,h,b⟩
  |ct c=>exact λa H' j h=>⟨j,c,h,b⟩
  |bk c=>cases b;exact λa H' j h=>k a H' j h.unkeep
  |rt d c=>cases b;exact λv a H' j h r=>k v a H' j h.unkeep r
 ·have e : i = ds.length := by lia
  subst e;rw[Hc]at b;cases b;exact .inl ⟨w.2,k σ H O S.unkeep⟩
end
section
variable{X:Cx}{K:Ah}{ml:List Nat}{e a b c:Uh}{es:List Uh}{pa ta ia pb tb ib pc tc ic pu bt bi ps bs:Bool}{fa fb fc f:VF}{B B':Bs}{O:Nat->Option Ub}{H H1 H':Hp}{σ:St}{δ δ':Ev}{v:V}{d:c6}{p:Ub}{pos:Pos}{st:Um}{rest:List Um}{g g':VS}
def a7.call{P:Ub->Prop}(S:a7 K ml B O H σ δ)(hl:δ'.length=δ.length)(h:∀i:Nat,(δ'[i]?=δ[i]? /\∀a,O i=b3 a->¬P a)∨∃a d',O i=b3 a/\δ'[i]?=b3 (Sl.ow d')/\SU K (Nn B O) H' a d')
  (f:Fr P H H') (j:∀a,P a->OA O a):a7 K ml B O H' σ δ' where
 len:=by rw[hl,S.len]
 va:=λi d e=>by
  rcases h i with⟨g,_⟩|⟨a,d',_,g,_⟩
  ·rw[g]at e
   obtain⟨v,c,r⟩:=S.va i d e;exact⟨v,c,r.fr f (λa z=>.inr (j a z)) λa z=>.inr (j a z)⟩
  ·rw[g]at e
   cases e
 ow:=λi d e=>by
  rcases h i with⟨g,n⟩|⟨a,d',c,g,w⟩
  ·rw[g]at e
   obtain⟨a,c,k,w⟩:=S.ow i d e;exact⟨a,c,k,w.fr f (λa z=>.inr (j a z)) (n a c)⟩
  ·rw[g]at e
   cases e;obtain⟨d0,q0⟩:=S.dom i a c;obtain⟨s,k,m,_⟩:=S.ow i d0 q0;rw[c]at k;cases k;exact⟨a,c,m,w⟩
 dom:=λi a e=>by
  rcases h i with⟨g,n⟩|⟨a,d',c,g,w⟩
  ·obtain⟨d0,q0⟩:=S.dom i a e
   exact⟨d0,g.trans q0⟩
  ·exact⟨d',g⟩
 inj:=S.inj
 old:=S.old
 zin:=λa h'=>by
  obtain⟨o,q⟩:=S.zin a h';exact⟨o,f a o q λz=>by obtain⟨i,e⟩:=j a z;exact absurd h' (S.old i a e).1⟩
 frm:=λb o q n=>by
  have h1:=S.frm b o q n;refine f b o h1 λz=>?_;obtain⟨i,e⟩:=j b z;rcases(S.old i b e).2 with w|w
  ·exact n w
  ·rw[q]at w;cases w
 par:=S.par
 pin:=λa h'=>by
  obtain⟨o,q⟩:=S.pin a h';by_cases z:P a
  ·obtain⟨i,e⟩:=j a z
   rcases h i with⟨_,n⟩|⟨s,d',c,g,w⟩
   ·exact absurd z (n a e)
   ·rw[e]at c
    cases c;obtain⟨o,q,_⟩:=w.soft;exact⟨o,q⟩
  ·exact⟨o,f a o q λy=>absurd y z⟩
 kep:=λp l=>(S.kep p l).fr f (λa z=>.inr (j a z)) λa z=>.inr (j a z)
abbrev bW:=List c6->Option (c6×List c6)
def QS(ml:List Nat)(vs:List V):Ub->Prop:=λa=>∃i∈ml,vs[i]?=b3 (.ref a)
def Zp(Z:Ub->Prop)(ml:List Nat)(vs:List V):Ub->Prop:=λa=>Z a∨QS ml vs a
structure Uy(K:Ah)(ml:List Nat)(Z:Ub->Prop)(H:Hp)(vs:List V)(ds:List c6):Prop where
 len:vs.length=ds.length
 mem:∀i∈ml,i<ds.length
 va:∀(i:Nat) (d:c6),i∉ml->ds[i]?=b3 d->∃v,vs[i]?=b3 v/\bV K (Zp Z ml vs) H (Zp Z ml vs) v d
 ow:∀(i:Nat) (d:c6),i∈ml->ds[i]?=b3 d->∃a,vs[i]?=b3 (.ref a)/\SU K (Zp Z ml vs) H a d/\¬Z a
 inj:∀(i j:Nat) (a:Ub),i∈ml->j∈ml->vs[i]?=b3 (.ref a)->vs[j]?=b3 (.ref a)->i=j
 zin:∀a,Z a->∃o,H a=b3 o
inductive spVi(K:Ah)(ml:List Nat)(n:Nat)(F:bW)(vs:List V)(H:Hp)(Q:VK):Prop
 |mk (Z:Ub->Prop) (ds:List c6) (r:c6) (os:List c6) (h0:ds.length=n) (h1:Uy K ml Z H vs ds) (h2:F ds=b3 (r,os)) (h3:∀v H',Fr (QS ml vs) H H'->(∀(k i:Nat) (a:Ub) (o:c6),ml[k]?=b3 i->vs[i]?=b3 (.ref a)->os[k]?=b3 o->SU K (Zp Z ml vs) H' a o)->bV K (Zp Z ml vs) H' (Zp Z ml vs) v r->Q v H'):spVi K ml n F vs H Q
def spV(K:Ah)(ml:List Nat)(n:Nat)(F:bW):Sp:=λvs H Q _=>spVi K ml n F vs H Q
def bG(ml:List Nat)(n:Nat)(ds:List c6):Ev:=ds.mapIdx (λi d=>if i∈ml then Sl.ow d else Sl.va d)++Av (n-ds.length) Sl.no
noncomputable def US(ml:List Nat)(δ:Ev):Option (List c6):=ml.mapM λ(i:Nat)=>match(δ[i]? :Option Sl)with
 |some (Sl.ow d)=>b3 d
 |_=>b4
def Z9(n:Nat)(ml:List Nat)(g:VS):bW:=λds=>(g (bG ml n ds)).bind λo=>match o with
 |.rt d δ=>(US ml δ).map λos=>(d,os)
 |.nx δ=>(US ml δ).map λos=>(.non,os)
 |_=>b4
theorem HP:∀{ml:List Nat}{δ:Ev}{os:List c6},US ml δ=b3 os->∀(k i:Nat) (o:c6),ml[k]?=b3 i->os[k]?=b3 o->δ[i]?=b3 (.ow o)
 |[],_,_,h,k,i,o,a,b=>by simp at a
 | j :: ml,δ,os,h,k,i,o,a,b => by
  unfold US at h;rw[Rv]at h;split at h
  ·rename_i d hd
   cases h2:(ml.mapM λ(i:Nat)=>match(δ[i]? :Option Sl)with
    |some (Sl.ow d)=>b3 d
    |_=>b4:Option (List c6))with
   |none=>rw[h2]at h;cases h
   |some c=>
    rw[h2]at h;cases h;cases k with
    |zero=>
     cases a;cases b;exact hd
    |succ k=>exact HP (ml:=ml) h2 k i o (by simpa using a) (by simpa using b)
  ·cases h
def L8{N:List Ue}{Z:Ub->Prop}{vs:List V}{ds:List c6}(A:Uy K ml Z H vs ds)(B:ds.length<=N.length):∃g:Nat->Option Ub,(∀i a,g i=b3 a↔i∈ml/\vs[i]?=b3 (.ref a))/\a7 K ml ⟨Z,QS ml vs,H,g,[]⟩ g H (start N vs) (bG ml N.length ds):=by
 classical
 let g:Nat->Option Ub:=λi=>if i∈ml then(match vs[i]? with
  |some (.ref a)=>b3 a
  |_=>b4)else b4
 have c:∀i a,g i=b3 a↔i∈ml/\vs[i]?=b3 (.ref a):=λi a=>by
  show(if i∈ml then(match vs[i]? with
   |some (.ref a)=>b3 a
   |_=>b4)else b4)=b3 a↔_
  by_cases hi:i∈ml
  ·rw[if_pos hi]
   constructor
   ·intro h
    split at h
    ·rename_i b x
     cases h;exact⟨hi,x⟩
    ·cases h
   ·rintro ⟨_,h⟩
    rw[h]
  ·rw[if_neg hi]
   exact⟨(λh=>nomatch h),λh=>absurd h.1 hi⟩
 have m:∀a,Nn ⟨Z,QS ml vs,H,g,[]⟩ g a->Zp Z ml vs a:=λa h=>by
  rcases h with h|⟨i,h⟩
  ·exact .inl h
  ·exact .inr ⟨i,(c i a).mp h⟩
 have t:∀(i:Nat) (s:Sl),(bG ml N.length ds)[i]?=b3 s->(∃d,ds[i]?=b3 d/\s=if i∈ml then .ow d else .va d)∨s=.no:=λi s h=>by
  unfold bG at h;by_cases hi:i<ds.length
  ·rw [An (by simpa using hi),Nb]at h
   cases q:ds[i]? with
   |none=>rw[q]at h;cases h
   |some d=>rw[q]at h;cases h;exact .inl ⟨d,rfl,rfl⟩
  ·rw [Bo (by simpa using hi),Dr]at h
   split at h
   ·cases h;exact .inr rfl
   ·cases h
 have k:∀(i:Nat) (v:V),vs[i]?=b3 v->(start N vs)[i]?=b3 (b3 v):=λi v h=>by unfold start;have hi:i<vs.length:=(Ag.mp h).1;rw[An (by simpa using hi),Ds,h];rfl
 refine⟨g,c,?_,λi d q=>?_,λi d q=>?_,λi a q=>?_,λi j a q1 q2=>?_,λi a q=>?_,A.zin,Fr.refl _ _,⟨λi a q=>((c i a).mp q).1,λi _=>rfl⟩,λa q=>?_,λp u=>nomatch u⟩
 ·unfold start bG
  have:=A.len
  simp;lia
 ·rcases t i _ q with⟨e,h1,h2⟩|h
  ·by_cases hi:i∈ml
   ·rw[if_pos hi]at h2;cases h2
   ·rw[if_neg hi]at h2
    cases h2;obtain⟨v,f,r⟩:=A.va i d hi h1;exact⟨v,k i v f,r.mono m m⟩
  ·cases h
 ·rcases t i _ q with⟨e,h1,h2⟩|h
  ·by_cases hi:i∈ml
   ·rw[if_pos hi]at h2
    cases h2;obtain⟨a,f,w,_⟩:=A.ow i d hi h1;exact⟨a,(c i a).mpr ⟨hi,f⟩,k i _ f,w.mono m⟩
   ·rw[if_neg hi]at h2;cases h2
  ·cases h
 ·obtain⟨hi,f⟩:=(c i a).mp q
  have hl:=A.mem i hi;refine⟨ds[i],?_⟩;unfold bG;rw[An (by simpa using hl),Nb];simp[hl,hi]
 ·exact A.inj i j a ((c i a).mp q1).1 ((c j a).mp q2).1 ((c i a).mp q1).2 ((c j a).mp q2).2
 ·obtain⟨hi,f⟩:=(c i a).mp q
  refine⟨λz=>?_,.inl ⟨i,hi,f⟩⟩;obtain⟨y,l,_,n⟩:=A.ow i (ds[i]'(A.mem i hi)) hi (by simp[A.mem i hi]);rw[f]at l;cases l;exact n z
 ·obtain⟨i,hi,f⟩:=q
  obtain⟨y,l,w,n⟩:=A.ow i (ds[i]'(A.mem i hi)) hi (by simp[A.mem i hi]);rw[f]at l;cases l;obtain⟨o,q,_⟩:=w.soft;exact⟨o,q⟩
def Vs{N ps:List Ue}{vs:List V}{Q:VK}{E:XK}(u:ps.length<=N.length)(h:spV K ml ps.length (Z9 N.length ml g) vs H Q E):WO K ml g {nx:=λ_ H'=>Q .non H',rt:=Q} (start N vs) H:=by
 obtain⟨Z,ds,r,os,D,AV,c,k⟩:=h;obtain⟨q,n,J⟩:=L8 (N:=N) AV (by rw[D];exact u);unfold Z9 at c;obtain⟨o,h1,c⟩:=Aa.mp c;refine⟨_,q,_,o,J,h1,?_⟩;have s:∀(δ':Ev) (v:V) (f:St) (H':Hp) (p:Nat->Option Ub),US ml δ'=b3 os->a7 K ml ⟨Z,QS ml vs,H,q,[]⟩ p H' f δ'->bV K (rz ⟨Z,QS ml vs,H,q,[]⟩) H' (rz ⟨Z,QS ml vs,H,q,[]⟩) v r->Q v H':=λδ' v f H' p C l m=>by
  have hz:∀a,Zp Z ml vs a->rz ⟨Z,QS ml vs,H,q,[]⟩ a:=λa h=>by
   rcases h with h|⟨i,hi,e⟩
   ·exact .inl h
   ·exact .inr ⟨i,(n i a).mpr ⟨hi,e⟩⟩
  refine k v H' l.frm (λB i a o A I G=>?_) (m.mono hz hz);have hd:=HP C B i o A G;obtain⟨L,z,_,w⟩:=l.ow i o hd;have hi:i∈ml:=Dt A;have:=(l.par.2 i hi).trans ((n i a).mpr ⟨hi,I⟩)
  rw[this]at z;cases z;refine w.mono λb x=>?_;rcases x with x|⟨j,y,F⟩
  ·exact .inl x
  ·exact .inr ⟨j,(l.par.2 j y).trans ((n j b).mpr ⟨y,F⟩)⟩
 cases o with
 |rt d δ'=>
  have c:(US ml δ').map (λos=>(d,os))=b3 (r,os):=c;cases h2:US ml δ' with
  |none=>rw[h2]at c;cases c
  |some t=>
   rw[h2]at c;cases c;exact λv f H' p l m=>s δ' v f H' p h2 l m
 |nx δ'=>
  have c:(US ml δ').map (λos=>(c6.non,os))=b3 (r,os):=c;cases h2:US ml δ' with
  |none=>rw[h2]at c;cases c
  |some t=>
   rw[h2]at c;cases c;exact λf H' p l=>s δ' .non f H' p h2 l .non
 |bk δ'=>cases c
 |ct δ'=>cases c
def X1.okV{P:Aw}{w:Uj}{mg:Ue->Option Ua}{base:Uk}{x qual:Ue}{st:Um}{f:Ub}{fd:Dw}{N ps:List Ue}{k:Nat}(F:X1 K x qual st f fd)(S:cD N ps (cV st))(b:ps.length<=N.length)(e:∀(a:Ua) (A:Cb) (outer:List Env) (s:Ae) (H:Hp) (E:XK),Y0 k (A.deeper (envOfC qual (cV st) s.heap.objs.size f a))->WU (QZ CX0 P w K mg base N qual (cV st) f a A outer s H E).nox (aQ st) (WO K ml g)):aI P w K mg base CX0 (k+1) f fd ps (spV K ml ps.length (Z9 N.length ml g)):=by refine F.ok S (λvs H Q E h=>?_) (λa A outer s H vs Q E c h=>⟨_,e a A outer s H E c,Vs b h⟩);obtain⟨Z,ds,r,os,d,AV,_⟩:=h;rw[AV.len,d]
noncomputable def NL:List (Option Nat)->List c6->Nat->Option (List c6)
 |some k::_,ds,0=>b3 (ds.take k)
 |none::sh,_::ds,j+1=>NL sh ds j
 |some k::sh,ds,j+1=>NL sh (ds.drop k) j
 |_,_,_=>b4
theorem RS.getL{sub:Ub->Option (List V)}{N:Ub->Prop}:∀{xs vs:List V}{sh:List (Option Nat)}{ds es:List c6}{j:Nat},RS sub xs sh vs->cG K N H vs ds->NL sh ds j=b3 es->∃p zs,xs[j]?=b3 (.ref p)/\sub p=b3 zs/\cG K N H zs es
 |_,_,_,_,_,_,.nil,_,h=>by simp[NL]at h
 |_,_,_,_,_,0,.val _ _,_,h=>by simp[NL]at h
 |_,_,_,_,_,j+1,.val _ t,.cons _ r,h=>by obtain⟨p,zs,d,c,b⟩:=RS.getL (j:=j) t r (by simpa[NL]using h);exact⟨p,zs,by simpa using d,c,b⟩
 |_,_,_,ds,_,0,.lst (p:=p) (zs:=zs) hs _ _,r,h=>by
  simp only[NL,Ky]at h;subst h;have:=r.take zs.length
  rw[Im]at this;exact⟨p,zs,rfl,hs,this⟩
 |_,_,_,ds,_,j+1,.lst (zs:=zs) _ _ t,r,h=>by
  have:=r.drop zs.length
  rw[Io]at this;obtain⟨p,a,d,c,b⟩:=RS.getL (j:=j) t this (by simpa[NL]using h);exact⟨p,a,by simpa using d,c,b⟩
def part(δ:Ev)(j k:Nat):Option c6:=match δ[j]? with
 |some (.ow (.nst sh ds))=>(NL sh ds k).map c6.lst
 |_=>b4
def WB{j k:Nat}(h:part δ j k=b3 d):∃sh ds es,δ[j]?=b3 (.ow (.nst sh ds))/\NL sh ds k=b3 es/\d=.lst es:=by
 unfold part at h;split at h
 ·rename_i sh ds e
  obtain⟨es,h1,h2⟩:=Ao.mp h;exact⟨sh,ds,es,e,h1,h2.symm⟩
 ·cases h
inductive AV where
 |d (d:c6)|o (j:Nat)|p (j k:Nat)
inductive YC(K:Ah)(N:Ub->Prop)(H:Hp)(σ:St):List V->List AV->Prop
 |nil:YC K N H σ [] []
 |d {v:V}{vs:List V}{d:c6}{as:List AV}:bV K N H N v d->YC K N H σ vs as->YC K N H σ (v::vs) (.d d::as)
 |o {v:V}{vs:List V}{j:Nat}{as:List AV}:σ[j]?=b3 (b3 v)->YC K N H σ vs as->YC K N H σ (v::vs) (.o j::as)
 |p {v:V}{vs us:List V}{j k:Nat}{x:Ub}{sub:Ub->Option (List V)}{as:List AV}:σ[j]?=b3 (b3 (.ref x))->H x=b3 (.nst us sub)->us[k]?=b3 v->YC K N H σ vs as->YC K N H σ (v::vs) (.p j k::as)
abbrev T9:=Ev->Option (List AV×Ev)
structure ResG(K:Ah)(ml:List Nat)(B:Bs)(O:Nat->Option Ub)(H:Hp)(σ:St)(pu:Bool)(H':Hp)(δ':Ev)(vs:List V)(as:List AV):Prop where
 sta:a7 K ml B O H' σ δ'
 frm:Fr (OA O) H H'
 pur:pu=ba->bH H H'
 rep:YC K (Nn B O) H' σ vs as
inductive TAGi(K:Ah)(ml:List Nat)(pu:Bool)(f:T9)(σ:St)(H:Hp)(Q:List V->Hp->Prop):Prop
 |mk (B:_) (O:_) (δ:_) (as:_) (δ':_) (h0:a7 K ml B O H σ δ) (h1:f δ=b3 (as,δ')) (h2:∀vs H',ResG K ml B O H σ pu H' δ' vs as->Q vs H'):TAGi K ml pu f σ H Q
def C0(K:Ah)(ml:List Nat)(pu:Bool)(f:T9):TA:=λσ H Q=>TAGi K ml pu f σ H Q
def cE:T9:=λδ=>b3 ([],δ)
noncomputable def aE(f:VF)(fs:T9):T9:=λδ=>(f δ).bind λp=>(fs p.2).map λq=>(.d p.1::q.1,q.2)
noncomputable def slot(δ:Ev)(j:Nat):Option c6:=match δ[j]? with
 |some (.va d)=>b3 d
 |some (.ow d)=>b3 d
 |_=>b4
def aO(j:Nat)(fs:T9):T9:=λδ=>(slot δ j).bind λ_=>(fs δ).map λq=>(.o j::q.1,q.2)
def cS:PA X [] (C0 K ml ba cE):=aH.imp λσ H Q a=>by obtain⟨B,O,δ,d,δ',S,q,k⟩:=a;cases q;exact k [] H ⟨S,Fr.refl _ _,λ_=>bH.refl _,.nil⟩
def cX{fs:T9}(i:PE X a (TV K ml pa ba ba fa))(h:PA X es (C0 K ml ps fs))(g:SE X a es:=by rfl):PA X (a::es) (C0 K ml (pa&&ps) (aE fa fs)):=(b8 i h g).imp λσ H Q c=>by obtain⟨B,O,δ,as,δ2,S,q,k⟩:=c;unfold aE at q;obtain⟨⟨x,δ1⟩,h1,q⟩:=Aa.mp q;have q:((fs δ1).map λq=>(AV.d x::q.1,q.2))=b3 (as,δ2):=q;obtain⟨p2,h2,q⟩:=Ao.mp q;cases q;refine⟨B,O,δ,x,δ1,S,h1,λj H1 b=>⟨B,O,δ1,_,_,b.sta,h2,λvs H2 R2=>k _ H2 ⟨R2.sta,b.frm.trans R2.frm,λz=>?_,.d (b.rep.fr R2.frm (λa z=>.inr z) λa z=>.inr z) R2.rep⟩⟩⟩;obtain⟨f,e⟩:=(Af _ _).mp z;exact(b.pur f).trans (R2.pur e)
def L7{j:Nat}{d:c6}(h:slot δ j=b3 d):δ[j]?=b3 (.va d)∨δ[j]?=b3 (.ow d):=by
 unfold slot at h;split at h
 ·cases h;exact .inl (by assumption)
 ·cases h;exact .inr (by assumption)
 ·cases h
def a7.slot(S:a7 K ml B O H σ δ){j:Nat}{d:c6}(h:slot δ j=b3 d):∃v,σ[j]?=b3 (b3 v):=by
 rcases L7 h with h|h
 ·obtain⟨v,e,_⟩:=S.va j d h
  exact⟨v,e⟩
 ·obtain⟨a,_,e,_⟩:=S.ow j d h
  exact⟨_,e⟩
def bO{fs:T9}{j:Nat}(g:PE X a (WH j))(f:PA X es (C0 K ml ps fs))(c:SE X a es:=by rfl):PA X (a::es) (C0 K ml ps (aO j fs)):=(b8 g f c).imp λσ H Q b=>by obtain⟨B,O,δ,as,δ2,S,q,k⟩:=b;unfold aO at q;obtain⟨d,h1,q⟩:=Aa.mp q;have q:((fs δ).map λq=>(AV.o j::q.1,q.2))=b3 (as,δ2):=q;obtain⟨p2,h2,q⟩:=Ao.mp q;cases q;obtain⟨v,e⟩:=S.slot h1;exact⟨v,e,B,O,δ,_,_,S,h2,λvs H2 R2=>k _ H2 ⟨R2.sta,R2.frm,R2.pur,.o e R2.rep⟩⟩
theorem YC.length:∀{N:Ub->Prop}{vs:List V}{as:List AV},YC K N H σ vs as->vs.length=as.length
 |_,_,_,.nil=>rfl
 |_,_,_,.d _ t=>congrArg (· +1) (YC.length t)
 |_,_,_,.o _ t=>congrArg (· +1) (YC.length t)
 |_,_,_,.p _ _ _ t=>congrArg (· +1) (YC.length t)
theorem YC.getD:∀{N:Ub->Prop}{vs:List V}{as:List AV}{i:Nat}{d:c6},YC K N H σ vs as->as[i]?=b3 (.d d)->∃v,vs[i]?=b3 v/\bV K N H N v d
 |_,_,_,_,_,.nil,e=>by simp at e
 |_,_,_,0,_,.d h _,e=>by simp at e;subst e;exact⟨_,rfl,h⟩
 |_,_,_,0,_,.o h _,e=>by simp at e
 |_,_,_,0,_,.p _ _ _ _,e=>by simp at e
 |_,_,_,i+1,_,.p _ _ _ t,e=>by obtain⟨u,h1,h2⟩:=YC.getD (i:=i) t (by simpa using e);exact⟨u,by simpa using h1,h2⟩
 |_,_,_,i+1,_,.d _ t,e=>by obtain⟨u,h1,h2⟩:=YC.getD (i:=i) t (by simpa using e);exact⟨u,by simpa using h1,h2⟩
 |_,_,_,i+1,_,.o _ t,e=>by obtain⟨u,h1,h2⟩:=YC.getD (i:=i) t (by simpa using e);exact⟨u,by simpa using h1,h2⟩
theorem YC.getP:∀{N:Ub->Prop}{vs:List V}{as:List AV}{i j k:Nat},YC K N H σ vs as->as[i]?=b3 (.p j k)->∃v x a sub,vs[i]?=b3 v/\σ[j]?=b3 (b3 (.ref x))/\H x=b3 (.nst a sub)/\a[k]?=b3 v
 |_,_,_,_,_,_,.nil,e=>by simp at e
 |_,_,_,0,_,_,.d h _,e=>by simp at e
 |_,_,_,0,_,_,.o h _,e=>by simp at e
 |_,_,_,0,_,_,.p h1 h2 b _,e=>by simp at e;obtain⟨rfl,rfl⟩:=e;exact⟨_,_,_,_,rfl,h1,h2,b⟩
 |_,_,_,i+1,_,_,.d _ t,e=>by obtain⟨v,x,a,sub,h⟩:=YC.getP (i:=i) t (by simpa using e);exact⟨v,x,a,sub,by simpa using h⟩
 |_,_,_,i+1,_,_,.o _ t,e=>by obtain⟨v,x,a,sub,h⟩:=YC.getP (i:=i) t (by simpa using e);exact⟨v,x,a,sub,by simpa using h⟩
 |_,_,_,i+1,_,_,.p _ _ _ t,e=>by obtain⟨v,x,a,sub,h⟩:=YC.getP (i:=i) t (by simpa using e);exact⟨v,x,a,sub,by simpa using h⟩
theorem YC.getO:∀{N:Ub->Prop}{vs:List V}{as:List AV}{i j:Nat},YC K N H σ vs as->as[i]?=b3 (.o j)->∃v,vs[i]?=b3 v/\σ[j]?=b3 (b3 v)
 |_,_,_,_,_,.nil,e=>by simp at e
 |_,_,_,0,_,.d h _,e=>by simp at e
 |_,_,_,0,_,.o h _,e=>by simp at e;subst e;exact⟨_,rfl,h⟩
 |_,_,_,0,_,.p _ _ _ _,e=>by simp at e
 |_,_,_,i+1,_,.p _ _ _ t,e=>by obtain⟨u,h1,h2⟩:=YC.getO (i:=i) t (by simpa using e);exact⟨u,by simpa using h1,h2⟩
 |_,_,_,i+1,_,.d _ t,e=>by obtain⟨u,h1,h2⟩:=YC.getO (i:=i) t (by simpa using e);exact⟨u,by simpa using h1,h2⟩
 |_,_,_,i+1,_,.o _ t,e=>by obtain⟨u,h1,h2⟩:=YC.getO (i:=i) t (by simpa using e);exact⟨u,by simpa using h1,h2⟩
def argD(δ:Ev):AV->Option c6
 |.d d=>b3 d
 |.o j=>slot δ j
 |.p j k=>part δ j k
def XH(δ:Ev):List AV->Option (List c6)
 |[]=>b3 []
 |a::as=>(argD δ a).bind λd=>(XH δ as).map λds=>d::ds
theorem KS:∀{as:List AV}{ds:List c6},XH δ as=b3 ds->as.length=ds.length/\∀(i:Nat) (d:c6),ds[i]?=b3 d->∃a,as[i]?=b3 a/\argD δ a=b3 d
 |[],ds,h=>by cases h;exact⟨rfl,λi d e=>by simp at e⟩
 | a :: as,ds,h => by
  unfold XH at h;obtain⟨d,h1,h⟩:=Aa.mp h;cases h2:XH δ as with
  |none=>simp[h2]at h
  |some k=>
   simp only[Ar,h2]at h;cases h;obtain⟨l,g⟩:=KS h2;refine⟨by simp[l],λi e c=>?_⟩;cases i with
   |zero=>cases c;exact⟨a,rfl,h1⟩
   |succ i=>
    obtain⟨b,j,f⟩:=g i e (by simpa using c);exact⟨b,by simpa using j,f⟩
noncomputable def WX:List AV->List Nat
 |[]=>[]
 |.d _::as=>WX as
 |.o j::as=>j::WX as
 |.p j _::as=>j::WX as
theorem UL:∀{as:List AV}{i j:Nat},as[i]?=b3 (.o j)->j∈WX as
 |[],_,_,e=>by simp at e
 |.d _::as,0,j,e=>by simp at e
 |.o k::as,0,j,e=>by simp at e;subst e;exact Au
 |.d _::as,i+1,j,e=>UL (as:=as) (i:=i) (by simpa using e)
 |.o k::as,i+1,j,e=>Am _ (UL (as:=as) (i:=i) (by simpa using e))
 |.p _ _::as,0,j,e=>by simp at e
 |.p _ _::as,i+1,j,e=>Am _ (UL (as:=as) (i:=i) (by simpa using e))
theorem Q3:∀{as:List AV}{i j k:Nat},as[i]?=b3 (.p j k)->j∈WX as
 |[],_,_,_,e=>by simp at e
 |.d _::as,0,j,_,e=>by simp at e
 |.o _::as,0,j,_,e=>by simp at e
 |.p a b::as,0,j,_,e=>by simp at e;rw[e.1];exact Au
 |.d _::as,i+1,j,_,e=>Q3 (as:=as) (i:=i) (by simpa using e)
 |.o k::as,i+1,j,_,e=>Am _ (Q3 (as:=as) (i:=i) (by simpa using e))
 |.p _ _::as,i+1,j,_,e=>Am _ (Q3 (as:=as) (i:=i) (by simpa using e))
theorem G2:∀{as:List AV}{j:Nat},j∈WX as->(∃i:Nat,as[i]?=b3 (AV.o j))∨∃i k:Nat,as[i]?=b3 (AV.p j k)
 |[],_,h=>nomatch h
 |.d _::as,j,h=>by
  rcases G2 (as:=as) h with⟨i,e⟩|⟨i,k,e⟩
  ·exact .inl ⟨i+1,by simpa using e⟩
  ·exact .inr ⟨i+1,k,by simpa using e⟩
 | .o k :: as,j,h => by
  rcases Ak.mp h with e|e
  ·exact .inl ⟨0,by rw[e];rfl⟩
  ·rcases G2 (as:=as) e with⟨i,e⟩|⟨i,k,e⟩
   ·exact .inl ⟨i+1,by simpa using e⟩
   ·exact .inr ⟨i+1,k,by simpa using e⟩
 | .p k b :: as,j,h => by
  rcases Ak.mp h with e|e
  ·exact .inr ⟨0,b,by rw[e];rfl⟩
  ·rcases G2 (as:=as) e with⟨i,e⟩|⟨i,k,e⟩
   ·exact .inl ⟨i+1,by simpa using e⟩
   ·exact .inr ⟨i+1,k,by simpa using e⟩
theorem NM:∀{as:List AV}{i k j:Nat},(WX as).Nodup->as[i]?=b3 (.o j)->as[k]?=b3 (.o j)->i=k
 |[],_,_,_,_,e,_=>by simp at e
 |.d _::as,0,_,j,_,e,_=>by simp at e
 |.d _::as,_+1,0,j,_,_,e=>by simp at e
 |.d _::as,i+1,k+1,j,n,b,a=>congrArg (· +1) (NM (as:=as) n (by simpa using b) (by simpa using a))
 |.p _ _::as,0,_,j,_,e,_=>by simp at e
 |.p _ _::as,_+1,0,j,_,_,e=>by simp at e
 |.p _ _::as,i+1,k+1,j,n,b,a=>congrArg (· +1) (NM (as:=as) (Ca.mp n).2 (by simpa using b) (by simpa using a))
 |.o x::as,0,0,j,_,_,_=>rfl
 |.o x::as,0,k+1,j,n,b,a=>by
  simp at b;subst b;have h:as[k]?=b3 (.o x):=by simpa using a
  exact absurd (UL h) (Ca.mp n).1
 |.o x::as,i+1,0,j,n,b,a=>by
  simp at a;subst a;have h:as[i]?=b3 (.o x):=by simpa using b
  exact absurd (UL h) (Ca.mp n).1
 |.o x::as,i+1,k+1,j,n,b,a=>congrArg (· +1) (NM (as:=as) (Ca.mp n).2 (by simpa using b) (by simpa using a))
theorem OT:∀{as:List AV}{i k j b:Nat},(WX as).Nodup->as[i]?=b3 (.o j)->as[k]?=b3 (.p j b)->False
 |[],_,_,_,_,_,e,_=>by simp at e
 |.d _::as,0,_,_,_,_,e,_=>by simp at e
 |.d _::as,_+1,0,_,_,_,_,e=>by simp at e
 |.d _::as,i+1,k+1,j,b,n,c,a=>OT (as:=as) (i:=i) (k:=k) n (by simpa using c) (by simpa using a)
 |.o x::as,0,0,_,_,_,_,e=>by simp at e
 |.o x::as,0,k+1,j,b,n,c,a=>by
  simp at c;subst c;have h:as[k]?=b3 (.p x b):=by simpa using a
  exact absurd (Q3 h) (Ca.mp n).1
 |.o x::as,_+1,0,_,_,_,_,e=>by simp at e
 |.o x::as,i+1,k+1,j,b,n,c,a=>OT (as:=as) (i:=i) (k:=k) (Ca.mp n).2 (by simpa using c) (by simpa using a)
 |.p x y::as,0,_,_,_,_,e,_=>by simp at e
 |.p x y::as,i+1,0,j,b,n,c,a=>by
  simp at a;obtain⟨rfl,_⟩:=a;have h:as[i]?=b3 (.o x):=by simpa using c
  exact absurd (UL h) (Ca.mp n).1
 |.p x y::as,i+1,k+1,j,b,n,c,a=>OT (as:=as) (i:=i) (k:=k) (Ca.mp n).2 (by simpa using c) (by simpa using a)
noncomputable def DO(δ:Ev)(as:List AV)(i:Nat):Bool:=match as[i]? with
 |some (.o j)=>match δ[j]? with
  |some (.ow _)=>ba
  |_=>bb
 |_=>bb
noncomputable def YF(mF:List Nat):List AV->Nat->Bool
 |[],_=>ba
 |.d _::as,i=>YF mF as (i+1)
 |.o _::as,i=>decide (i∈mF)&&YF mF as (i+1)
 |.p _ _::_,_=>bb
theorem TM{mF:List Nat}:∀{as:List AV}{k i j b:Nat},YF mF as k=ba->as[i]? ≠b3 (.p j b)
 |[],_,_,_,_,_=>by simp
 |.d _::as,k,0,j,_,_=>by simp
 |.o _::as,k,0,j,_,_=>by simp
 |.p _ _::_,_,_,_,_,h=>by simp[YF]at h
 |.d _::as,k,i+1,j,_,h=>by
  have:=TM (as:=as) (k:=k+1) (i:=i) (j:=j) (b:=by assumption) h
  simpa using this
 |.o _::as,k,i+1,j,_,h=>by
  simp only[YF,Af]at h;have:=TM (as:=as) (k:=k+1) (i:=i) (j:=j) (b:=by assumption) h.2
  simpa using this
theorem TL{mF:List Nat}:∀{as:List AV}{k i j:Nat},YF mF as k=ba->as[i]?=b3 (.o j)->k+i∈mF
 |[],_,_,_,_,e=>by simp at e
 |.d _::as,k,0,j,h,e=>by simp at e
 |.p _ _::_,_,_,_,h,_=>by simp[YF]at h
 |.o _::as,k,0,j,h,e=>by simp only[YF,Af,decide_eq_true_eq]at h;exact h.1
 |.d _::as,k,i+1,j,h,e=>by
  have:=TL (as:=as) (k:=k+1) (i:=i) (j:=j) h (by simpa using e)
  rwa[show k+(i+1)=k+1+i by lia]
 |.o _::as,k,i+1,j,h,e=>by
  simp only[YF,Af]at h;have:=TL (as:=as) (k:=k+1) (i:=i) (j:=j) h.2 (by simpa using e)
  rwa[show k+(i+1)=k+1+i by lia]
def UM:c6->Bool
 |.lst ds=>U8 ds
 |.dct _ ds=>U8 ds
 |.nst _ ds=>U8 ds
 |_=>bb
def SU.kids{N N':Ub->Prop}{a:Ub}(w:SU K N H a d)(h:UM d=ba):SU K N' H a d:=by
 cases w with
 |lst q r=>exact .lst q (r.hard h)
 |dct q r=>exact .dct q (r.hard h)
 |nst q r=>exact .nst q (r.hard h)
noncomputable def WT(as:List AV):List Nat->List c6->Ev->Ev
 |i::is,o::os,δ=>match as[i]? with
  |some (.o j)=>WT as is os (δ.set j (.ow o))
  |_=>WT as is os δ
 |_,_,δ=>δ
theorem RF{as:List AV}:∀{is:List Nat}{os:List c6}{δ:Ev},(WT as is os δ).length=δ.length
 |[],_,_=>rfl
 |_::_,[],_=>rfl
 |i::is,o::os,δ=>by
  unfold WT;split
  ·rw[RF,Cc]
  ·rw[RF]
theorem N0{as:List AV}:∀{is:List Nat}{os:List c6}{δ:Ev}(j:Nat),is.length=os.length->j<δ.length->(∃(k i:Nat) (o:c6),is[k]?=b3 i/\os[k]?=b3 o/\as[i]?=b3 (AV.o j)/\(WT as is os δ)[j]?=b3 (Sl.ow o))∨((∀i∈is,as[i]? ≠b3 (AV.o j))/\(WT as is os δ)[j]?=δ[j]?)
 |[],[],δ,j,_,_=>.inr ⟨(λi h=>nomatch h),rfl⟩
 | i :: is,o :: os,δ,j,hl,d => by
  unfold WT;split
  ·rename_i g l
   rcases N0 (is:=is) (os:=os) (δ:=δ.set g (.ow o)) j (by simpa using hl) (by rw[Cc];exact d)with⟨k,a,o',h1,h2,f,e⟩|⟨h1,h2⟩
   ·exact .inl ⟨k+1,a,o',by simpa using h1,by simpa using h2,f,e⟩
   ·by_cases b:j=g
    ·subst b
     rw[Dd d]at h2;exact .inl ⟨0,i,o,rfl,rfl,l,h2⟩
    ·rw[By (Di b)]at h2
     refine .inr ⟨λa c=>?_,h2⟩;rcases Ak.mp c with z|z
     ·rw[z,l]
      intro w;cases w;exact b rfl
     ·exact h1 a z
  ·rename_i m
   rcases N0 (is:=is) (os:=os) (δ:=δ) j (by simpa using hl) d with⟨k,a,o',h1,h2,f,e⟩|⟨h1,h2⟩
   ·exact .inl ⟨k+1,a,o',by simpa using h1,by simpa using h2,f,e⟩
   ·refine .inr ⟨λa c => ?_,h2⟩
    rcases Ak.mp c with z|z
    ·rw[z]
     exact λw=>m j w
    ·exact h1 a z
def VH(mF:List Nat)(as:List AV)(δ:Ev):Bool:=mF.all (DO δ as)&&decide (WX as).Nodup
def WK(mF:List Nat)(as:List AV)(r:c6)(os:List c6):Bool:=(YF mF as 0 || r.hard)&&(YF mF as 0 || os.all UM)&&decide (mF.length=os.length)
def cP(n:Nat)(mF:List Nat)(F:bW)(fs:T9):VF:=λδ=>(fs δ).bind λp=>(XH p.2 p.1).bind λds=>if ds.length=n/\VH mF p.1 p.2=ba then(F ds).bind λq=>if WK mF p.1 q.1 q.2=ba then b3 (q.1,WT p.1 mF q.2 p.2)else b4 else b4
def OY{n:Nat}{mF:List Nat}{F:bW}{fs:T9}{Q:VK}(h:TV K ml (ps && mF.isEmpty) ba ba (cP n mF F fs) σ H Q):EO (spV K mF n F) [] E0 (C0 K ml ps fs) σ H Q:=by
 obtain⟨B,O,δ,d,δ2,S,q,k⟩:=h;unfold cP at q;obtain⟨⟨as,δ1⟩,h1,q⟩:=Aa.mp q;have q:((XH δ1 as).bind λds=>if ds.length=n/\VH mF as δ1=ba then(F ds).bind λq=>if WK mF as q.1 q.2=ba then b3 (q.1,WT as mF q.2 δ1)else b4 else b4)=b3 (d,δ2):=q;obtain⟨ds,h2,q⟩:=Aa.mp q;have q:(if ds.length=n/\VH mF as δ1=ba then(F ds).bind λq=>if WK mF as q.1 q.2=ba then b3 (q.1,WT as mF q.2 δ1)else b4 else b4)=b3 (d,δ2):=q;split at q
 ·rename_i hc
  obtain⟨⟨r,os⟩,h3,q⟩:=Aa.mp q;have q:(if WK mF as r os=ba then b3 (r,WT as mF os δ1)else b4)=b3 (d,δ2):=q;split at q
  ·rename_i U
   cases q;obtain⟨hn,hc⟩:=hc;simp only[VH,Af,decide_eq_true_eq,Dn]at hc;simp only[WK,Af,decide_eq_true_eq]at U;obtain⟨hmu,hnd⟩:=hc;obtain⟨⟨oa,p3⟩,ah⟩:=U;refine⟨B,O,δ,as,δ1,S,h1,λvs H1 R=>?_⟩;show spV K mF n F (vs++[]) H1 Q E0;rw[Em];obtain⟨V,W⟩:=KS h2;have N:∀i∈mF,∃j a x,as[i]?=b3 (.o j)/\δ1[j]?=b3 (.ow x)/\O j=b3 a/\vs[i]?=b3 (.ref a)/\SU K (Nn B O) H1 a x:=λi hi=>by
    have:=hmu i hi
    unfold DO at this;split at this
    ·rename_i j ej
     split at this
     ·rename_i x ex
      obtain⟨a,c,m,w⟩:=R.sta.ow j x ex;obtain⟨v,l,C⟩:=R.rep.getO ej;rw[m]at C;cases C;exact⟨j,a,x,ej,ex,c,l,w⟩
     ·cases this
    ·cases this
   have Z:∀a,QS mF vs a->∃i j,i∈mF/\as[i]?=b3 (.o j)/\O j=b3 a:=λa q0=>by obtain⟨i,hi,e⟩:=q0;obtain⟨j,a',x,c,_,m,l,_⟩:=N i hi;rw[e]at l;cases l;exact⟨i,j,hi,c,m⟩
   have T:∀a,QS mF vs a->OA O a:=λa h=>by obtain⟨i,j,_,_,e⟩:=Z a h;exact⟨j,e⟩
   have A:∀a,Zp (λa=>Nn B O a/\∀j∈WX as,O j≠b3 a) mF vs a->Nn B O a:=λa h=>by
    rcases h with h|h
    ·exact h.1
    ·exact .inr (T a h)
   refine⟨λa=>Nn B O a/\∀j∈WX as,O j≠b3 a,ds,_,os,hn,⟨by rw[<-V,R.rep.length],λi hi=>?_,λi x hi e=>?_,λi x hi e=>?_,λi j a hi Y c m=>?_,λa h=>R.sta.nin h.1⟩,h3,λv H2 f2 w2 r2=>?_⟩
   ·obtain⟨j,a,x,c,_⟩:=N i hi
    rw[<-V];exact(Ag.mp c).1
   ·obtain⟨a,c,m⟩:=W i x e
    cases a with
    |d y=>
     cases m;obtain⟨v,l,r⟩:=R.rep.getD c;exact⟨v,l,r.mono A A⟩
    |o j=>
     obtain⟨v,l,C⟩:=R.rep.getO c;refine⟨v,l,?_⟩;rcases L7 m with D|D
     ·obtain⟨v',E,r⟩:=R.sta.va j x D
      rw[C]at E;cases E;exact r.mono A A
     ·obtain⟨a,M,E,w⟩:=R.sta.ow j x D
      rw[C]at E;cases E;refine(w.mono A).rep λz=>?_;rcases z with z|z
      ·exact z.2 j (UL c) M
      ·obtain⟨P,g,f,L,J⟩:=Z a z
       have:j=g:=R.sta.inj j g a M J
       subst this;have:=NM hnd c L
       subst this;exact hi f
    |p j b=>
     obtain⟨v,y,us,sub,l,C,D,E⟩:=R.rep.getP c;obtain⟨sh,ds1,es,M,L,rfl⟩:=WB m;obtain⟨y',J,t,w⟩:=R.sta.ow j _ M;rw[C]at t;cases t;cases w with
     |nst q r=>
      obtain⟨us',g7,s,ow,sp⟩:=q;rw[D]at s;cases s;obtain⟨p,zs,G,X,rz⟩:=sp.getL r L;rw[E]at G;cases G;refine⟨_,l,.fzm (xs:=zs) (.inr ⟨y,us,sub,ow p zs X,D,λz=>?_,X⟩) (rz.mono A)⟩;rcases z with z|z
      ·exact z.2 j (Q3 c) J
      ·obtain⟨P,g,f,e14,e15⟩:=Z y z
       have:j=g:=R.sta.inj j g y J e15
       subst this;exact OT hnd e14 c
   ·obtain⟨a,c,m⟩:=W i x e
    obtain⟨j,b,y,l,C,D,E,w⟩:=N i hi;rw[l]at c;cases c;have M:slot δ1 j=b3 y:=by unfold slot;rw[C]
    have m:slot δ1 j=b3 x:=m;rw[M]at m;cases m;exact⟨b,E,w.mono A,λz=>z.2 j (UL l) D⟩
   ·obtain⟨j1,b1,_,l,_,C,D,_⟩:=N i hi
    obtain⟨j2,b2,_,E,_,M,L,_⟩:=N j Y;rw[c]at D;cases D;rw[m]at L;cases L;have:j1=j2:=R.sta.inj j1 j2 a C M
    subst this;exact NM hnd l E
   ·have S2:a7 K ml B O H2 σ (WT as mF os δ1):=by
     refine R.sta.call RF (λj=>?_) f2 T;by_cases Y:j<δ1.length
     ·rcases N0 (as:=as) (is:=mF) (os:=os) (δ:=δ1) j ah Y with⟨kk,i,o,c,m,l,C⟩|⟨c,m⟩
      ·obtain⟨g,a,x,D,_,E,M,_⟩:=N i (Dt c)
       rw[l]at D;cases D;have w:=w2 kk i a o c M m;refine .inr ⟨a,o,E,C,?_⟩;rcases(Hs _ _).mp p3 with z|z
       ·refine w.mono λb U => ?_
        by_cases I:∃g∈WX as,O g=b3 b
        ·obtain⟨g,u,L⟩:=I
         obtain⟨P,J⟩:=(G2 u).resolve_right λ⟨_,_,e⟩=>TM z e;have f:=TL z J;rw[Km]at f;obtain⟨j'',a'',_,t,_,s,G,_⟩:=N P f;rw[J]at t;cases t;rw[L]at s;cases s;exact .inr ⟨P,f,G⟩
        ·exact .inl ⟨U,λg u e=>I ⟨g,u,e⟩⟩
       ·exact w.kids (Dn.mp z o (Dt m))
      ·refine .inl ⟨m,λa ea hPa => ?_⟩
       obtain⟨i,g,hi,l,C⟩:=Z a hPa;have:j=g:=R.sta.inj j g a ea C
       subst this;exact c i hi l
     ·refine .inl ⟨?_,λa ea => ?_⟩
      ·rw[Ee (by rw[RF];lia),Ee (by lia)]
      ·obtain⟨x,ex⟩:=R.sta.dom j a ea
       exact absurd (Ag.mp ex).1 Y
    refine k v H2 ⟨S2,R.frm.trans (f2.mono T),λz=>?_,?_⟩
    ·obtain⟨z1,z2⟩:=(Af _ _).mp z
     refine(R.pur z1).trans λb o e=>f2 b o e λw=>?_;obtain⟨i,hi,_⟩:=w;rw[Ql.mp z2]at hi;cases hi
    ·rcases(Hs _ _).mp oa with z|z
     ·have hN : ∀ a,Nn B O a -> Zp (λa => Nn B O a /\ ∀ j ∈ WX as,O j ≠ b3 a) mF vs a := λb U => by
       by_cases I:∃g∈WX as,O g=b3 b
       ·obtain⟨g,u,L⟩:=I
        obtain⟨P,J⟩:=(G2 u).resolve_right λ⟨_,_,e⟩=>TM z e;have f:=TL z J;rw[Km]at f;obtain⟨j'',a'',_,t,_,s,G,_⟩:=N P f;rw[J]at t;cases t;rw[L]at s;cases s;exact .inr ⟨P,f,G⟩
       ·exact .inl ⟨U,λg u e=>I ⟨g,u,e⟩⟩
      exact r2.mono hN hN
     ·exact r2.hard z
  ·cases q
 ·cases q
def qh{x:Ue}{c j n:Nat}{d:List Ue}{mF:List Nat}{F:bW}{m:Ub}{p':Pos}{fs:T9}(l:X.K=K)(D:Def X.prog X.w K X.mg X.base x c d (spV K mF n F) m)(f:Y0 j X.A)(hk:c<=j)(g:Gl X x)(k:PA X (e::es) (C0 K ml ps fs))(b:ND x:=by decide)(i:SE X e es:=by rfl)(a:(Fa pos (Uc es X.env)).any (·.1)=bb:=by rfl):PE X (.Call (.Name x p') (e::es) [] pos) (TV K ml (ps&&mF.isEmpty) ba ba (cP n mF F fs)):=by subst l;exact(NV D f hk g k b i a).imp λ_ _ _ h=>OY h
end
section
variable{X:Cx}{K:Ah}{ml:List Nat}{e a b c:Uh}{es:List Uh}{pi pt pe pu bt bi ps bs:Bool}{f:VF}{B B':Bs}{O:Nat->Option Ub}{H H0 H1 H':Hp}{σ:St}{δ δ':Ev}{v:V}{d:c6}{p:Ub}{pos:Pos}{ix:List Nat}{nl:Nat}
def aV(ix:List Nat)(δ:Ev):Ev:=ix.map λi=>(δ[i]?).getD .no
def GK(nl:Nat):Ev:=Av nl Sl.no
noncomputable def ZW(n nl:Nat)(gg:VG)(tb:VB)(fe:VF):List c6->List c6->Ev->Option (List c6×Ev)
 |[],acc,δ=>b3 (acc,δ)
 |d::r,acc,δ=>(gg d (δ++GK nl)).bind λδ1=>(tb δ1).bind λp=>if p.1=ba then(fe p.2).bind λq=>if acc.length<16777216 then ZW n nl gg tb fe r (acc++[q.1]) (q.2.take n)else b4 else ZW n nl gg tb fe r acc (p.2.take n)
noncomputable def Y1:List Nat->Ev->Ev->Ev
 |i::is,s::ss,δ=>match s with
  |.ow d=>Y1 is ss (δ.set i (.ow d))
  |_=>Y1 is ss δ
 |_,_,δ=>δ
def ZX(ix:List Nat)(nl:Nat)(fi:VI)(gg:VG)(tb:VB)(fe:VF):VF:=λδ=>(fi δ).bind λp=>(ZW ix.length nl gg tb fe p.1 [] (aV ix p.2)).map λq=>(.lst q.1,Y1 ix q.2 p.2)
def U4:VB:=λδ=>b3 (ba,δ)
theorem P0:∀{ix:List Nat}{ss δ:Ev},(Y1 ix ss δ).length=δ.length
 |[],_,_=>rfl
 |_::_,[],_=>rfl
 |i::is,s::ss,δ=>by
  cases s<;>simp only[Y1]<;>rw[P0]<;>try rw[Cc]
theorem TR:∀{ix:List Nat}{ss δ:Ev}(i:Nat),i<δ.length->ix.length=ss.length->(∃(j:Nat) (d:c6),ix[j]?=b3 i/\ss[j]?=b3 (Sl.ow d)/\(Y1 ix ss δ)[i]?=b3 (Sl.ow d))∨((∀(j:Nat) (d:c6),ix[j]?=b3 i->ss[j]? ≠b3 (Sl.ow d))/\(Y1 ix ss δ)[i]?=δ[i]?)
 |[],ss,δ,i,hi,hl=>.inr ⟨(λj d h=>by simp at h),rfl⟩
 |k::is,[],δ,i,hi,hl=>by cases hl
 | k :: is,s :: ss,δ,i,hi,hl => by
  have a:is.length=ss.length:=by simpa using hl
  cases s with
  |ow d=>
   simp only[Y1];rcases TR (ix:=is) (ss:=ss) (δ:=δ.set k (.ow d)) i (by rw[Cc];exact hi) a with⟨j,d',h1,h2,b⟩|⟨h1,h2⟩
   ·exact .inl ⟨j+1,d',by simpa using h1,by simpa using h2,b⟩
   ·by_cases hk:i=k
    ·subst hk
     rw[Dd hi]at h2;exact .inl ⟨0,d,rfl,rfl,h2⟩
    ·rw[By (Di hk)]at h2
     refine .inr ⟨λj d' e=>?_,h2⟩;cases j with
     |zero=>cases e;exact absurd rfl hk
     |succ j=>simpa using h1 j d' (by simpa using e)
  |va d=>
   simp only[Y1];rcases TR (ix:=is) (ss:=ss) (δ:=δ) i hi a with⟨j,d',h1,h2,b⟩|⟨h1,h2⟩
   ·exact .inl ⟨j+1,d',by simpa using h1,by simpa using h2,b⟩
   ·refine .inr ⟨λj d' e => ?_,h2⟩
    cases j with
    |zero=>simp
    |succ j=>simpa using h1 j d' (by simpa using e)
  |no=>
   simp only[Y1];rcases TR (ix:=is) (ss:=ss) (δ:=δ) i hi a with⟨j,d',h1,h2,b⟩|⟨h1,h2⟩
   ·exact .inl ⟨j+1,d',by simpa using h1,by simpa using h2,b⟩
   ·refine .inr ⟨λj d' e => ?_,h2⟩
    cases j with
    |zero=>simp
    |succ j=>simpa using h1 j d' (by simpa using e)
def Oc(ix:List Nat)(O:Nat->Option Ub):Nat->Option Ub:=λj=>(ix[j]?).bind O
def Bc(ix:List Nat)(B:Bs)(O:Nat->Option Ub)(H0:Hp)(D:Ub)(kp:List (V×c6)):Bs:=
 ⟨λa=>(B.Z a∨a=D)∨∃i,O i=b3 a/\i∉ix,OA (Oc ix O),H0,Oc ix O,kp⟩
def NR{D:Ub}{kp:List (V×c6)}:∀a,Nn (Bc ix B O H0 D kp) (Oc ix O) a->Nn B O a∨a=D:=λa h=>by
 rcases h with((h|h)|⟨i,h,_⟩)|⟨j,h⟩
 ·exact .inl (.inl h)
 ·exact .inr h
 ·exact .inl (.inr ⟨i,h⟩)
 ·unfold Oc at h
  cases q:ix[j]? with
  |none=>rw[q]at h;cases h
  |some i=>rw[q]at h;exact .inl (.inr ⟨i,h⟩)
def FN{D:Ub}{kp:List (V×c6)}:∀a,Nn (B.add D) O a->Nn (Bc ix B O H0 D kp) (Oc ix O) a:=λa h=>by
 rcases h with h|⟨i,h⟩
 ·exact .inl (.inl h)
 ·by_cases hi:i∈ix
  ·obtain⟨j,b⟩:=Ms.mp hi
   exact .inr ⟨j,by unfold Oc;rw[b];exact h⟩
  ·exact .inl (.inr ⟨i,h,hi⟩)
def a7.withKp{kp:List (V×c6)}(S:a7 K ml B O H σ δ)(h:∀p∈kp,bV K (Nn B O) H (Nn B O) p.1 p.2):a7 K ml {B with kp:=kp} O H σ δ:=
 ⟨S.len,S.va,S.ow,S.dom,S.inj,S.old,S.zin,S.frm,S.par,S.pin,h⟩
def a7.writeZ{D:Ub}{o:HO}{acc:List V}(S:a7 K ml B O H σ δ)(k:B.Z D)(hl:H D=b3 (.lst acc))(m:B.H0 D=b4):a7 K ml B O (upd H D o) σ δ:=by
 have j:Fr (λb=>b=D) H (upd H D o):=λb u q n=>by
  by_cases c:b=D
  ·subst c
   rw[hl]at q;cases q;exact absurd (n rfl) λz=>z
  ·rw[cB c]
   exact q
 have g:∀b,b=D->Nn B O b:=λb z=>.inl (z▸k);have f:∀b,(∃u,H b=b3 u)->∃u,upd H D o b=b3 u:=λb q0=>by
  obtain⟨u,q⟩:=q0;by_cases c:b=D
  ·exact⟨o,by rw[c];exact cH⟩
  ·exact⟨u,by rw[cB c];exact q⟩
 refine⟨S.len,λi d q=>?_,λi d q=>?_,S.dom,S.inj,S.old,λb h=>f b (S.zin b h),λb u q n=>?_,S.par,λb h=>f b (S.pin b h),λp l=>(S.kep p l).fr j g g⟩
 ·obtain⟨v,e,r⟩:=S.va i d q
  exact⟨v,e,r.fr j g g⟩
 ·obtain⟨a,e,s,w⟩:=S.ow i d q
  exact⟨a,e,s,w.fr j g λz=>(S.old i a e).1 (z▸k)⟩
 ·have c : b ≠ D := λz => by rw [z,m]at q;cases q
  rw[cB c];exact S.frm b u q n
def K4{j:Nat}{s:Sl}(h:(aV ix δ++GK nl)[j]?=b3 s):(∃i,ix[j]?=b3 i/\s=(δ[i]?).getD .no)∨s=.no:=by
 unfold aV GK at h;by_cases a:j<ix.length
 ·rw [An (by simpa using a),Ds]at h
  cases q:ix[j]? with
  |none=>rw[q]at h;cases h
  |some i=>rw[q]at h;cases h;exact .inl ⟨i,rfl,rfl⟩
 ·rw [Bo (by simpa using a),Dr]at h
  split at h
  ·cases h;exact .inr rfl
  ·cases h
def GU{i j:Nat}{v:V}(hi:ix[j]?=b3 i)(h:σ[i]?=b3 (b3 v)):(YM ix σ++Av nl b4)[j]?=b3 (b3 v):=by have a:j<ix.length:=(Ag.mp hi).1;unfold YM;rw[An (by simpa using a),Ds,hi];show b3 ((σ[i]?).join)=_;rw[h];rfl
def a7.inner{D:Ub}(S:a7 K ml B O H0 σ δ)(b:H0 D=b4)(hnd:ix.Nodup){m:List (V×c6)}(hk:∀p∈m,bV K (Nn B O) H0 (Nn B O) p.1 p.2):
  a7 K (Bf ix.length) (Bc ix B O H0 D m) (Oc ix O) (upd H0 D (.lst [])) (YM ix σ++Av nl b4) (aV ix δ++GK nl) where
 len:=by simp[YM,aV,GK]
 va := λj d e => by
  rcases K4 e with⟨i,hi,q⟩|q
  ·have q:δ[i]? =b3 (.va d):=by
    cases w:δ[i]? with
    |none=>rw[w]at q;cases q
    |some s=>rw[w]at q;rw[show s=.va d from q.symm]
   obtain⟨v,c,r⟩:=S.va i d q;exact⟨v,GU hi c,(r.away b _ _ NR NR).same (cW b)⟩
  ·cases q
 ow := λj d e => by
  rcases K4 e with⟨i,hi,q⟩|q
  ·have q:δ[i]? =b3 (.ow d):=by
    cases w:δ[i]? with
    |none=>rw[w]at q;cases q
    |some s=>rw[w]at q;rw[show s=.ow d from q.symm]
   obtain⟨a,c,f,w⟩:=S.ow i d q;refine⟨a,by unfold Oc;rw[hi];exact c,GU hi f,?_⟩;cases w with
   |lst l r=>exact .lst (cW b _ _ l) ((r.away b _ _ NR).same (cW b))
   |dct l r=>exact .dct (cW b _ _ l) ((r.away b _ _ NR).same (cW b))
   |nst l r=>exact .nst (l.same (cW b)) ((r.away b _ _ NR).same (cW b))
  ·cases q
 dom:=λj a e=>by unfold Oc at e;obtain⟨i,hi,e⟩:=Aa.mp e;obtain⟨d,q⟩:=S.dom i a e;refine⟨d,?_⟩;have x:j<ix.length:=(Ag.mp hi).1;unfold aV;rw[An (by simpa using x),Ds,hi];show b3 ((δ[i]?).getD .no)=_;rw[q];rfl
 inj:=λj k a c f=>by
  unfold Oc at c f;cases hi:ix[j]? with
  |none=>rw[hi]at c;cases c
  |some i=>
   cases hk:ix[k]? with
   |none=>rw[hk]at f;cases f
   |some t=>
    rw[hi]at c;rw[hk]at f;have:i=t:=S.inj i t a c f
    subst this;obtain⟨A,q1⟩:=Ag.mp hi;obtain⟨y,q2⟩:=Ag.mp hk;exact(Qi hnd).mp (q1.trans q2.symm)
 old:=λj a e=>by
  have g:=e;unfold Oc at g;cases hi:ix[j]? with
  |none=>rw[hi]at g;cases g
  |some i=>
   rw[hi]at g;refine⟨λz=>?_,.inl ⟨j,e⟩⟩;rcases z with(z|z)|⟨t,z,n⟩
   ·exact(S.old i a g).1 z
   ·obtain⟨o,q⟩:=S.nin (.inr ⟨i,g⟩)
    rw[z,b]at q;cases q
   ·have:i=t:=S.inj i t a g z
    subst this;exact n (Dt hi)
 zin:=λa h=>by
  rcases h with(h|h)|⟨i,h,_⟩
  ·obtain⟨o,q⟩:=S.zin a h
   exact⟨o,cW b _ _ q⟩
  ·exact⟨_,by rw[h];exact cH⟩
  ·obtain⟨o,q⟩:=S.nin (.inr ⟨i,h⟩)
   exact⟨o,cW b _ _ q⟩
 frm:=(cW b).fr
 par:=⟨λj a e=>by
  have e:(ix[j]?).bind O=b3 a:=e;cases hi:ix[j]? with
  |none=>rw[hi]at e;cases e
  |some i=>exact Db.mpr (Ag.mp hi).1,λj _=>rfl⟩
 pin:=λa q0=>by obtain⟨j,e⟩:=q0;unfold Oc at e;obtain⟨i,hi,e⟩:=Aa.mp e;obtain⟨o,q⟩:=S.nin (.inr ⟨i,e⟩);exact⟨o,cW b _ _ q⟩
 kep:=λp u=>((hk p u).away b _ _ NR NR).same (cW b)
def a7.turn{l:Nat->Option Ub}{f:St}{n:Nat}{m:St}(S:a7 K (Bf n) B l H f δ)(C:∀j,n<=j->B.mu j=b4)(x:m.length=n)(o:f.take n=m)(D:n<=δ.length):a7 K (Bf n) B B.mu H (m++Av nl b4) (δ.take n++GK nl):=by
 have z:∀j,j<n->l j=B.mu j:=λj b=>S.par.2 j (Db.mpr b);have c:∀j a,B.mu j=b3 a->l j=b3 a:=λj a e=>by rw[z j (Db.mp (S.par.1 j a e))];exact e
 have g:∀a,Nn B B.mu a->Nn B l a:=λa h=>by
  rcases h with h|⟨j,h⟩
  ·exact .inl h
  ·exact .inr ⟨j,c j a h⟩
 have y:∀(j:Nat) (s:Sl),(δ.take n++GK nl)[j]?=b3 s->(j<n/\δ[j]?=b3 s)∨s=.no:=λj s h=>by
  have hl:(δ.take n).length=n:=by rw[Cr];lia
  by_cases b:j<n
  ·rw [An (by rw [hl];exact b),Df b]at h
   exact .inl ⟨b,h⟩
  ·unfold GK at h
   rw[Bo (by rw[hl];lia),Dr]at h;split at h
   ·cases h;exact .inr rfl
   ·cases h
 have u:∀(j:Nat) (v:V),j<n->f[j]?=b3 (b3 v)->(m++Av nl b4)[j]?=b3 (b3 v):=λj v b e=>by rw[An (by rw[x];exact b),<-o,Df b];exact e
 refine⟨?_,λj d e=>?_,λj d e=>?_,λj a e=>?_,λj k a i t=>S.inj j k a (c j a i) (c k a t),λj a e=>S.old j a (c j a e),S.zin,S.frm,⟨S.par.1,λj _=>rfl⟩,S.pin,λp A=>(S.kep p A).mono g g⟩
 ·simp[x,GK,Cr]
  lia
 ·rcases y j _ e with⟨b,e⟩|e
  ·obtain⟨v,i,r⟩:=S.va j d e
   exact⟨v,u j v b i,r.mono g g⟩
  ·cases e
 ·rcases y j _ e with⟨b,e⟩|e
  ·obtain⟨a,i,t,w⟩:=S.ow j d e
   exact⟨a,(z j b)▸i,u j _ b t,w.mono g⟩
  ·cases e
 ·have b:=Db.mp (S.par.1 j a e)
  obtain⟨d,q⟩:=S.dom j a (c j a e);refine⟨d,?_⟩;rw[An (by rw[Cr];lia),Df b];exact q
def UG(ix:List Nat)(σ:St):(YM ix σ).length=ix.length:=by simp[YM]
def CI{a:St}(hl:ix.length<=a.length)(h:∀i∈Bf ix.length,a[i]?=(YM ix σ++Av nl b4)[i]?):a.take ix.length=YM ix σ:=by
 refine Pj λj=>?_;by_cases b:j<ix.length
 ·rw[Df b,h j (Db.mpr b),An (by rw[UG];exact b)]
 ·rw[Ee (by rw[Cr];lia),Ee (by rw[UG];lia)]
def gF{a:St}(d:∀i∈Bf ix.length,a[i]?=(YM ix σ++Av nl b4)[i]?):ix.length<=a.length:=by
 by_cases hz:ix.length=0
 ·lia
 ·have b : ix.length-1 < ix.length := by lia
  have:=d (ix.length-1) (Db.mpr b)
  have c:(YM ix σ++Av nl b4)[ix.length-1]? ≠b4:=by rw[An (by rw[UG];exact b)];simp[YM,b]
  rw[<-this]at c;have e:ix.length-1<a.length:=Nat.lt_of_not_le λz=>c (List.getElem?_eq_none_iff.mpr z);lia
def qG(K:Ah)(J:It)(a:List (V×c6))(ds:List c6)(H0:Hp)(b:Bool):Prop:=∀(N:Ub->Prop) (H:Hp),(∀p∈a,bV K N H N p.1 p.2)->(b=ba->bH H0 H)->
 (∀(i:Nat) (d:c6),ds[i]?=b3 d->J.go i H/\∀x H',J.yld i H x H'->bH H H'/\bV K N H' N x d)/\J.stop ds.length H
inductive TIVq(K:Ah)(ml:List Nat)(pu b:Bool)(f:VI)(σ:St)(H:Hp)(R:It->Hp->Prop):Prop
 |mk (B:_) (O:_) (δ:_) (ds:_) (δ':_) (h0:a7 K ml B O H σ δ) (h1:f δ=b3 (ds,δ')) (h2:∀J kps H',a7 K ml {B with kp:=kps++B.kp} O H' σ δ'->Fr (OA O) H H'->(pu=ba->bH H H')->qG K J kps ds H' b->R J H'):TIVq K ml pu b f σ H R
def IU{fi:VI}{gg:VG}{tb:VB}{fe:VF}(hnd:ix.Nodup){Q:VK}(h:TN K ml (pi&&pt&&pe) (ZX ix nl fi gg tb fe) σ H Q):IP ix nl (TIVq K ml pi (pt&&pe) fi) (TGV K (Bf ix.length) gg) (TB K (Bf ix.length) pt tb) (TV K (Bf ix.length) pe ba ba fe) σ H Q:=by
 obtain⟨B,O,δ,d,δ2,S,q,k⟩:=h;unfold ZX at q;obtain⟨⟨ds,δ1⟩,h1,q⟩:=Aa.mp q;have q:((ZW ix.length nl gg tb fe ds [] (aV ix δ1)).map λq=>(c6.lst q.1,Y1 ix q.2 δ1))=b3 (d,δ2):=q;obtain⟨⟨res,l⟩,h2,q⟩:=Ao.mp q;cases q;refine⟨B,O,δ,ds,δ1,S,h1,λJ f H0 y f0 p0 wk D u=>?_⟩;have hDO:∀j,Oc ix O j≠b3 D:=λj e=>by unfold Oc at e;obtain⟨i,hi,e⟩:=Aa.mp e;obtain⟨o,q⟩:=y.nin (.inr ⟨i,e⟩);rw[u]at q;cases q
 have lz:∀kp j,ix.length<=j->(Bc ix B O H0 D kp).mu j=b4:=λkp j R=>by show(ix[j]?).bind O=b4;rw[Ee R];rfl
 refine⟨λi m acc H1=>m=ds.length-i/\i<=ds.length/\∃(g:List c6) (c:Ev),c.length=ix.length/\acc.length=g.length∧
   a7 K (Bf ix.length) (Bc ix B O H0 D (f++acc.zip g)) (Oc ix O) H1 (YM ix σ++Av nl b4) (c++GK nl)/\H1 D=b3 (.lst acc)/\((pt&&pe)=ba->bH H0 H1)∧
   ZW ix.length nl gg tb fe (ds.drop i) g c=b3 (res,l),
  ⟨ds.length,rfl,Ep _,[],aV ix δ1,by simp[aV],rfl,by rw[List.zip_nil_left,Em];exact y.unkeep.inner u hnd λp t=>y.kep p (Bp _ t),cH,λ_=>cW u,h2⟩,?_⟩
 rintro i m acc H1 ⟨rfl,hi,g,c,P,X,M,G,Z,hc⟩;have w:=wk (Nn (Bc ix B O H0 D (f++acc.zip g)) (Oc ix O)) H1 (λp t=>M.kep p (Bp _ t)) Z;by_cases F:i<ds.length
 ·obtain ⟨go,yl⟩ := w.1 i ds[i] (by simp [F])
  rw[Fx F]at hc;simp only[ZW]at hc;obtain⟨N,g1,hc⟩:=Aa.mp hc;obtain⟨⟨kk,s⟩,g2,hc⟩:=Aa.mp hc;refine .inr ⟨go,λcq H'=>∃(g:List c6) (c:Ev),c.length=ix.length/\cq.length=g.length∧
   a7 K (Bf ix.length) (Bc ix B O H0 D (f++cq.zip g)) (Oc ix O) H' (YM ix σ++Av nl b4) (c++GK nl)/\H' D=b3 (.lst cq)/\((pt&&pe)=ba->bH H0 H')∧
   ZW ix.length nl gg tb fe (ds.drop (i+1)) g c=b3 (res,l),λcq H' w'=>⟨ds.length-(i+1),by lia,rfl,F,w'⟩,λx H2 hy=>?_⟩
  obtain⟨Y,rx⟩:=yl x H2 hy;refine⟨_,_,_,ds[i],N,M.same Y,rx,g1,λσ3 O3 S3 m3=>?_⟩;have E:=gF m3;have r:=CI E m3;refine⟨r,_,_,N,kk,s,S3,g2,λH4 I=>?_⟩;have V:H4 D=b3 (.lst acc):=I.frm _ _ (Y _ _ G) λz=>by
   obtain⟨j,e⟩:=z;have:=(I.sta.old j D e).1
   exact absurd (.inl (.inr rfl)) this
  have ln4:ix.length<=s.length:=by rw[<-I.sta.len];exact E
  cases kk with
  |false=>
   rw[if_neg Ek]at hc;refine MS ⟨g,s.take ix.length,by rw[Cr];lia,X,I.sta.turn (lz _) (UG ix σ) r ln4,V,λz=>?_,hc⟩;exact((Z z).trans Y).trans (I.pur ((Af _ _).mp z).1)
  |true=>
   rw[if_pos rfl]at hc;obtain⟨⟨W,C⟩,g3,hc⟩:=Aa.mp hc;split at hc
   ·rename_i hz
    refine MT ⟨_,_,s,W,C,I.sta,g3,λv H5 A=>?_⟩;have U:H5 D=b3 (.lst acc):=A.frm _ _ V λz=>by
     obtain⟨j,e⟩:=z;have:=(A.sta.old j D e).1
     exact absurd (.inl (.inr rfl)) this
    have ln5:ix.length<=C.length:=by rw[<-A.sta.len];exact E
    have S6:=A.sta.turn (nl:=nl) (lz _) (UG ix σ) r ln5;have hv:bV K (Nn (Bc ix B O H0 D (f++acc.zip g)) (Oc ix O)) H5 (Nn (Bc ix B O H0 D (f++acc.zip g)) (Oc ix O)) v W:=by
     have hN:∀a,Nn (Bc ix B O H0 D (f++acc.zip g)) (Oc ix O) a->av (Bc ix B O H0 D (f++acc.zip g)) O3 ba a:=λa h=>by
      rcases h with h|⟨j,h⟩
      ·exact .inl h
      ·refine .inr ⟨j,?_⟩
       have R:j∈Bf ix.length:=A.sta.par.1 j a h;rw[A.sta.par.2 j R];exact h
     exact A.rep.mono hN hN
    have S7:=S6.withKp (kp:=f++(acc++[v]).zip (g++[W])) λp t=>by
     rw[List.zip_append X,<-Ay]at t;rcases Bx.mp t with z|z
     ·exact S6.kep p z
     ·rw[At.mp (show p∈[(v,W)] from z)]
      exact hv
    refine⟨U,by rw[X,Ce];exact hz,g++[W],C.take ix.length,by rw[Cr];lia,by simp[X],?_,cH,λz=>?_,hc⟩
    ·exact S7.writeZ (.inl (.inr rfl)) U u
    ·intro b o e
     have hb:b≠D:=λz=>by rw[z,u]at e;cases e
     rw[cB hb];obtain⟨z1,z2⟩:=(Af _ _).mp z;exact(((Z z).trans Y).trans ((I.pur z1).trans (A.pur z2))) b o e
   ·cases hc
 ·have e : i = ds.length := by lia
  subst e;rw[Hc]at hc;cases hc;refine .inl ⟨w.2,k D H1 ?_⟩;have fP:Fr (OA (Oc ix O)) H0 H1:=M.frm;have T:∀a,OA (Oc ix O) a->OA O a:=λa q0=>by
   obtain⟨j,e⟩:=q0;unfold Oc at e;cases hi:ix[j]? with
   |none=>rw[hi]at e;cases e
   |some i=>rw[hi]at e;exact⟨i,e⟩
  have SL:=y.unkeep.laid (o:=.lst acc) u;have fL:Fr (OA (Oc ix O)) (upd H0 D (.lst acc)) H1:=λb o e n=>by
   by_cases hb:b=D
   ·subst hb
    rw[cH]at e;cases e;exact G
   ·rw[cB hb]at e
    exact fP b o e n
  refine⟨SL.call (P0) (λi=>?_) fL T,f0.trans (fP.mono T),λz=>?_,.lst G (VV X λp t=>(M.kep p (Bq _ t)).mono FN FN),y.unkeep.new u,y.fresh u⟩
  ·by_cases m6:i<δ1.length
   ·rcases TR (ix:=ix) (ss:=l) (δ:=δ1) i m6 P.symm with⟨j,x,e1,e2,e3⟩|⟨e1,e2⟩
    ·have e4:(l++GK nl)[j]? =b3 (.ow x):=by rw[An (Ag.mp e2).1];exact e2
     obtain⟨a,e5,_,w⟩:=M.ow j x e4;refine .inr ⟨a,x,?_,e3,w.mono FN⟩;unfold Oc at e5;rw[e1]at e5;exact e5
    ·refine .inl ⟨e2,λa ea ⟨j,L⟩ => ?_⟩
     obtain⟨x,ex⟩:=M.dom j a L;unfold Oc at L;cases hi:ix[j]? with
     |none=>rw[hi]at L;cases L
     |some i'=>
      rw[hi]at L;have:i=i':=y.inj i i' a ea L
      subst this;have R:j<l.length:=by rw[P];exact(Ag.mp hi).1
      rw[An R]at ex;exact e1 j x hi ex
   ·refine .inl ⟨?_,λa ea => ?_⟩
    ·rw[Ee (by rw[P0];lia),Ee (by lia)]
    ·obtain⟨x,ex⟩:=y.dom i a ea
     exact absurd (Ag.mp ex).1 m6
  ·simp only[Af]at z
   exact(p0 z.1.1).trans (Z (by simp[z.1.2,z.2]))
def ET{fi:VI}{gg:VG}{tb:VB}{fe:VF}(hnd:ix.Nodup){Q:VK}(h:TN K ml (pi&&pt&&pe) (ZX ix nl fi gg tb fe) σ H Q):IP ix nl (TIV K ml pi fi) (TGV K (Bf ix.length) gg) (TB K (Bf ix.length) pt tb) (TV K (Bf ix.length) pe ba ba fe) σ H Q:=
 let ⟨B,O,δ,ds,δ',S,e,k⟩:=IU hnd h
 ⟨B,O,δ,ds,δ',S,e,λJ a H' b f p w=>k J a H' b f p λN H1 z _=>w N H1 z⟩
def gX{Q:Bool->Hp->Prop}(h:TB K ml ba U4 σ H Q):tYes σ H Q:=by obtain⟨B,O,δ,k,δ',S,q,w⟩:=h;cases q;exact w H (AF.refl S)
def GG{Y:Cx}{t:VB}(h:PT Y c (TB K ml pt t)):PTs Y [c] (TB K ml pt t):=iI h
def VY{Y:Cx}:PTs Y [] (TB K ml ba U4):=λaa s σ H Q I hw=>gW aa s σ H Q I (gX hw)
def Yq{Q:VK}{o:Bool}(h:TX K ml (if o then xO f else xV f) σ H Q):TN K ml pu f σ H Q:=by
 obtain⟨B,O,δ,s,δ',S,q,k⟩:=h;have e:∃d,f δ=b3 (d,δ')/\s=if o then .ow d else .va d:=by
  cases o with
  |true=>
   have q:(f δ).map (λp=>(Sl.ow p.1,p.2))=b3 (s,δ'):=q;cases h1:f δ with
   |none=>rw[h1]at q;cases q
   |some p=>rw[h1]at q;cases q;exact⟨p.1,rfl,rfl⟩
  |false=>
   have q:(f δ).map (λp=>(Sl.va p.1,p.2))=b3 (s,δ'):=q;cases h1:f δ with
   |none=>rw[h1]at q;cases q
   |some p=>rw[h1]at q;cases q;exact⟨p.1,rfl,rfl⟩
 obtain⟨d,h1,a⟩:=e;refine⟨B,O,δ,d,δ',S,h1,λp H' R=>?_⟩;cases o with
 |true=>
  cases a;have w:=R.own;cases w with
  |lst q1 r=>exact k _ H' _ (R.sta.keepV (XG r)) (.ol q1 r.length R.nz R.h0) R.frm
  |dct q1 r=>exact k _ H' _ (R.sta.keepV (XG r)) (.od q1 (by simpa using r.length) R.nz R.h0) R.frm
  |nst q1 r=>exact k _ H' _ (R.sta.keepV (XG r)) (.of q1 r.length R.nz R.h0) R.frm
 |false=>
  cases a;exact k _ H' _ (R.sta.unadd.keepV (ps:=[(.ref p,d)]) λz hz=>by rw[At.mp hz];exact(R.own.mono SN).rep R.nz) .va R.frm
def Xa{i:Nat}{x:VX}{te:TE}(a:∀σ H Q,TX K ml x σ H Q->te σ H Q)(c:i∉ml){D:M0}(h:WO K ml (a8 i x) D σ H):tAsg te (DB i) D σ H:=by
 obtain⟨B,O,δ,o,S,q,k⟩:=h;unfold a8 at q;obtain⟨⟨s,δ1⟩,h1,q⟩:=Aa.mp q;have q:(if i<δ1.length then b3 (Ou.nx (δ1.set i s))else b4)=b3 o:=q;split at q
 ·rename_i hl
  cases q;refine a _ _ _ ⟨B,O,δ,s,δ1,S,h1,λv H' B' d h' f=>?_⟩;obtain⟨e,b⟩:=h'.bind d c hl;exact k _ _ _ b
 ·cases q
end
abbrev bQ(P:Aw)(w:Uj)(K:Ah)(mg:Ue->Option Ua)(base:Uk)(x:Ue)(k:Nat)(ps:List Ue)(mF:List Nat)(F:bW)(f:Ub):Prop:=Def P w K mg base x k ps (spV K mF ps.length F) f
section
variable{X:Cx}{K:Ah}{ml:List Nat}{e a b c:Uh}{es:List Uh}{pa ta ia pb tb ib pc tc ic pu bt bi ps bs:Bool}{fa fb fc f:VF}{B B':Bs}{O:Nat->Option Ub}{H H0 H1 H':Hp}{σ:St}{δ δ':Ev}{v:V}{d:c6}{p:Ub}{pos:Pos}
def bN{x:Ue}(a:Gl X x)(h:∃u v,X.mg x=b3 u/\b7 v u/\∀N H M,bV K N H M v d)(hd:ND x:=by decide):PE X (.Name x pos) (TV K ml ba ba ba (fC d)):=by obtain⟨u,v,h1,h2,b⟩:=h;exact CP (oC a h1 h2 hd) b
def Xb(K:Ah):R2:=λx y H Q=>∃a b xs ys,x=.ref a/\y=.ref b/\WS K H a xs/\WS K H b ys/\xs.length+ys.length<=sizeLine∧
 (xs=[]->Q (.ref b) H)/\(xs≠[]->ys=[]->Q (.ref a) H)/\(xs≠[]->ys≠[]->∀p,H p=b4->Q (.ref p) (upd H p (.tup (xs++ys))))
def dW:XJ X (Fq .Add) (Xb X.K):=by
 intro aa s σ H x y v u Q I t r h;obtain⟨a,b,xs,ys,rfl,rfl,C,B,hz,q0,q1,q2⟩:=h;cases t;cases r;obtain⟨its,g,l,_⟩:=I.tuple C;obtain⟨E,f,p2,_⟩:=I.tuple B;by_cases i:xs=[]
 ·subst i
  have D:its=[]:=g.nil_iff.mpr rfl;subst D;obtain⟨⟨cls,dd,data,p⟩,m,hc,n,hd⟩:=id l;obtain⟨⟨G,k,data2,j⟩,c,e,A,d⟩:=id p2;simp only at hc hd e d;subst hc hd e d;exact Mn ⟨_,m,rfl⟩ ⟨_,c,rfl⟩ Mb Oe Hv Ho (Hh _ _)
   (tuple_addW0 a b _ E.toArray n A dd k p j (by simp)) ⟨m,c,⟨.ref b,H,I,rfl,q0 rfl⟩⟩
 ·refine HT.zFC l p2 (λz => i (g.nil_iff.mp z)) (λz => ⟨.ref a,H,I,rfl,q1 i (f.nil_iff.mp z)⟩) (λz => ?_) (by rw [<- g.length,<- f.length];exact hz)
  refine⟨.ref s.heap.objs.size,_,I.laid (t':=s.toks) (o:=.tup (xs++ys)) (λb F q=>Ad _ q) (Aq _) ?_,rfl,q2 i (λw=>z (f.nil_iff.mpr w)) _ (I.hok.fresh (Aq _))⟩;exact⟨by rw[Bv];exact hz,_,g.append f,Jp _ _⟩
def Vz(K:Ah):R2:=λx y H Q=>∃l b xs zs,x=.ref l/\y=.ref b/\X9 K H l xs/\X9 K H b zs/\xs.length+zs.length<=sizeLine/\∀p,H p=b4->Q (.ref p) (upd H p (.lst (xs++zs)))
def kW:XJ X (Fq .Add) (Vz X.K):=by
 intro aa s σ H x y v u Q I p o h;obtain⟨l,b,xs,zs,rfl,rfl,z,A,hz,q⟩:=h;cases p;cases o;obtain⟨its,r,t,_⟩:=I.list z;obtain⟨i,j,p2,_⟩:=I.list A;obtain⟨⟨cls,dd,data,m⟩,n,k,hc,_,hd⟩:=id t;obtain⟨⟨C,g,data2,e⟩,w,a,d,_,c⟩:=id p2;simp only at hc hd d c;subst hc hd d c;have B:its.toArray++i.toArray=(its++i).toArray:=by simp
 have hl:=r.length;have f:=j.length;refine Mn ⟨_,k,rfl⟩ ⟨_,a,rfl⟩ noFill_list_add seq_list_add PySem.F.slot_list_add PySem.F.entry_list_add (PySem.F.args_list_add_2 _ _) (list_addW l b its.toArray i.toArray n w dd g m e (by rw[Aj,Aj,<-hl,<-f];exact hz)) ⟨k,a,?_⟩;rw[B];exact⟨.ref _,_,I.lnew (t':=s.toks) (r.append j) (by rw[Bv];lia),rfl,q _ I.fresh⟩
def Wl(K:Ah):R2:=λx y H Q=>((FZ (λi j=>.int (i+j)) x y H Q∨Xb K x y H Q)∨Vz K x y H Q)∨∃i j,x=.str i/\y=.str j/\i.length+j.length<=sizeLine/\Q (.str (i++j)) H
def ZR(h:X.K=K:=by rfl):XJ X (Fq .Add) (Wl K):=by subst h;exact((zIE.or dW).or kW).or FQ
noncomputable def aS:c6->c6->Option c6
 |.int i,.int j=>b3 (.int (i+j))
 |.tup ds,.tup es=>if ds.length+es.length<=16777216 then b3 (.tup (ds++es))else b4
 |.lst ds,.lst es=>if ds.length+es.length<=16777216 then b3 (.lst (ds++es))else b4
 |.str x,.str y=>if x.length+y.length<=16777216 then b3 (.str (x++y))else b4
 |_,_=>b4
def bV.tupE{N M:Ub->Prop}{ds:List c6}(h:bV K N H M v (.tup ds)):∃a xs,v=.ref a/\WS K H a xs/\cG K N H xs ds:=by
 cases h.onT with
 |tup q r=>exact⟨_,_,rfl,q,r⟩
def bV.lstE{N M:Ub->Prop}{ds:List c6}(h:bV K N H M v (.lst ds)):∃a xs,v=.ref a/\X9 K H a xs/\cG K N H xs ds:=by
 cases h.onL with
 |lst q n r=>exact⟨_,_,rfl,X9.of q,r⟩
 |fzm q r=>exact⟨_,_,rfl,q.sq,r⟩
def aK:OpC K (Wl K) aS:=by
 intro H N M M' x y d e c Q n m h k;cases d with
 |int i=>
  cases e with
  |int j=>
   cases h;cases n.onI;cases m.onI;exact .inl (.inl (.inl ⟨_,_,rfl,rfl,k _ _ (bH.refl _) λ_ _=>.int _⟩))
  |_=>cases h
 |str i=>
  cases e with
  |str j=>
   simp only[aS]at h;split at h
   ·cases h
    cases n.onS;cases m.onS;exact .inr ⟨_,_,rfl,rfl,by rw[Ce];assumption,k _ _ (bH.refl _) λ_ _=>.str _⟩
   ·cases h
  |_=>cases h
 |tup ds=>
  cases e with
  |tup es=>
   simp only[aS]at h;split at h
   ·rename_i hz
    cases h;obtain⟨a,xs,rfl,q1,g⟩:=n.tupE;obtain⟨b,ys,rfl,q2,f⟩:=m.tupE;refine .inl (.inl (.inr ⟨a,b,xs,ys,rfl,rfl,q1,q2,by rw[g.length,f.length,Ce];exact hz,λz=>?_,λt s=>?_,λt s p l=>?_⟩))
    ·subst z
     have:ds=[]:=Gj.mp g.length.symm
     subst this;exact k _ _ (bH.refl _) λM r=>.tup q2 f
    ·subst s
     have:es=[]:=Gj.mp f.length.symm
     subst this;rw[Em]at k;exact k _ _ (bH.refl _) λM r=>.tup q1 g
    ·exact k _ _ (cW l) λM r=>.tup (WS.of cH) ((g.append f).same (cW l))
   ·cases h
  |_=>cases h
 |lst ds=>
  cases e with
  |lst es=>
   simp only[aS]at h;split at h
   ·rename_i hz
    cases h;obtain⟨a,xs,rfl,q1,g⟩:=n.lstE;obtain⟨b,ys,rfl,q2,f⟩:=m.lstE;exact .inl (.inr ⟨a,b,xs,ys,rfl,rfl,q1,q2,by rw[g.length,f.length,Ce];exact hz,λp l=>k _ _ (cW l) λM r=>.lst cH (λz=>by obtain⟨o,q⟩:=r _ z;rw[l]at q;cases q) ((g.append f).same (cW l))⟩)
   ·cases h
  |_=>cases h
 |_=>cases h
def Vr:Ah->R2:=λ_=>rI CMul λi j=>.int (i*j)
def JV(h:X.K=K:=by rfl):XJ X (Fq .Mult) (Vr K):=lN
abbrev NS:=oMul
def OL:OpC K (Vr K) NS:=by intro H N M M' x y d e c Q b a h k;exact eK H N N M M' x y d e c Q b a h λv f=>k v H (bH.refl _) λM _=>f _ _ _
noncomputable def V9:c6->Option aY
 |.int i=>b3 (.inl i)
 |.str x=>b3 (.inr x)
 |_=>b4
def bV.key{N M:Ub->Prop}{k:aY}(h:bV K N H M v d)(e:V9 d=b3 k):v=kV k:=by
 cases h<;>first
  |(cases e;rfl)
  |cases e
noncomputable def bF(ks:List aY)(ds:List c6)(k:aY):Option c6:=match ks,ds with
 |k'::ks,d::ds=>if k'=k then b3 d else bF ks ds k
 |_,_=>b4
theorem Q6{N:Ub->Prop}{k:aY}:∀{kvs:List (aY×V)}{ds:List c6},cG K N H (kvs.map Er) ds->(∃v d,TH kvs k=b3 v/\bF (kvs.map Dh) ds k=b3 d/\bV K N H N v d)∨(TH kvs k=b4/\bF (kvs.map Dh) ds k=b4)
 |[],_,.nil=>.inr ⟨rfl,rfl⟩
 | (k',v) :: kvs,_,.cons h t => by
  by_cases hk:k'=k
  ·refine .inl ⟨v,_,RK (p:=(k',v)) hk,?_,h⟩
   simp[bF,hk]
  ·rcases Q6 (k:=k) t with⟨a,d',h1,h2,b⟩|⟨h1,h2⟩
   ·exact .inl ⟨a,d',(UY (p:=(k',v)) hk).trans h1,by simpa[bF,hk]using h2,b⟩
   ·exact .inr ⟨(UY (p:=(k',v)) hk).trans h1,by simpa[bF,hk]using h2⟩
def nP(f:X.A.units+1<cLine):CY X (λx y H Q=>∃a v,x=.ref a/\PX H a y (b3 v)/\Q v H):=by intro value b aa s σ H x y v u Q I e d h i;obtain⟨a,w,rfl,g,q⟩:=h;cases e;exact Sr (GX I g) PySem.F.slot_dict_getitem.lookup (AX f I g d λk l j c=>⟨w,H,j,c,q⟩) i
def rIxA(K:Ah):R2:=λx y H Q=>(rIx K x y H Q∨∃a v,x=.ref a/\PX H a y (b3 v)/\Q v H)∨∃a k D v,x=.ref a/\y=.str k/\KTab K a D/\Fw k D=b3 v/\Q v H
def kIxA(a:X.A.units+1<cLine)(h:X.K=K:=by rfl):CY X (rIxA K):=by subst h;exact(zJH.or (nP a)).or dE
def bL:c6->c6->Option c6
 |.tup ds,.int i=>UA ds i
 |.lst ds,.int i=>UA ds i
 |.dct ks ds,e=>(V9 e).bind (bF ks ds)
 |.str z,.int i=>if z.length<=16777216 then(UA z.cps.toList i).map λc=>.str ⟨#[c]⟩else b4
 |_,_=>b4
theorem P1{N:Ub->Prop}{k:Ue}:∀{D:List (Ue×V)}{ds:List c6},cG K N H (D.map Er) ds->(∃v d,Fw k D=b3 v/\bF (D.map λp=>.inr p.1) ds (.inr k)=b3 d/\bV K N H N v d)∨(Fw k D=b4/\bF (D.map λp=>.inr p.1) ds (.inr k)=b4)
 |[],_,.nil=>.inr ⟨rfl,rfl⟩
 | (k',v) :: D,_,.cons h t => by
  by_cases hk:k'=k
  ·subst hk
   exact .inl ⟨v,_,by simp[Fw],by simp[bF],h⟩
  ·have a : ¬ k = k' := λz => hk z.symm
   rcases P1 (k:=k) t with⟨b,d',h1,h2,c⟩|⟨h1,h2⟩
   ·exact .inl ⟨b,d',by simpa[Fw,hk,a]using h1,by simpa[bF,hk]using h2,c⟩
   ·exact .inr ⟨by simpa[Fw,hk,a]using h1,by simpa[bF,hk]using h2⟩
theorem HA{i:Int}:∀{D:List (Ue×V)}{ds:List c6},bF (D.map λp=>.inr p.1) ds (.inl i)=b4
 |[],_=>by simp[bF]
 |_::_,[]=>by simp[bF]
 |p::D,d::ds=>by simpa[bF]using HA (D:=D) (ds:=ds)
def nW:OpI K (rIxA K) bL:=by
 intro H N N' M M' x y d e c Q j g h k;have seq:∀ds i,XO d=b3 ds->e=.int i->UA ds i=b3 c->rIxA K x y H Q:=λds i h1 h2 b=>by
  subst h2;cases g.onI;obtain⟨a,xs,rfl,sq,r⟩:=j.seq h1;obtain⟨v,o,m⟩:=Zf r b;rcases sq with sq|sq
  ·exact .inl (.inl (.inl ⟨a,xs,i,v,rfl,rfl,sq,o,k v m⟩))
  ·exact .inl (.inl (.inr (.inl ⟨a,xs,i,v,rfl,rfl,sq,o,k v m⟩)))
 cases d with
 |tup ds=>
  cases e with
  |int i=>exact seq ds i rfl rfl h
  |_=>cases h
 |lst ds=>
  cases e with
  |int i=>exact seq ds i rfl rfl h
  |_=>cases h
 |str z=>
  cases e with
  |int i=>
   simp only[bL]at h;split at h
   ·obtain⟨ch,hc,h⟩:=Ao.mp h
    cases h;cases j.onS;cases g.onI;exact .inl (.inl (.inr (.inr ⟨z,i,ch,rfl,rfl,by rw[Ce];assumption,hc,k _ (.str _)⟩)))
   ·cases h
  |_=>cases h
 |dct ks ds=>
  simp only[bL]at h;obtain⟨f,hk,h⟩:=Aa.mp h;have h:bF ks ds f=b3 c:=h;have p:=g.key hk;subst p;cases j.onD with
  |dct q n r l=>
   subst l;rcases Q6 (k:=f) r with⟨v,d',h1,h2,b⟩|⟨h1,h2⟩
   ·rw[h]at h2
    cases h2;exact .inl (.inr ⟨_,v,rfl,h1▸PX.k q,k v b⟩)
   ·rw[h]at h2;cases h2
  |ktb T r l=>
   subst l;cases f with
   |inl i=>rw[HA]at h;cases h
   |inr x=>
    rcases P1 (k:=x) r with⟨v,d',h1,h2,b⟩|⟨h1,h2⟩
    ·rw[h]at h2
     cases h2;exact .inr ⟨_,x,_,v,rfl,rfl,T,h1,k v b⟩
    ·rw[h]at h2;cases h2
 |_=>cases h
noncomputable def XM(δ:Ev)(i:Nat):Option (List aY×List c6):=match δ[i]? with
 |some (.ow (.dct ks ds))=>b3 (ks,ds)
 |_=>b4
def T3{i:Nat}{ks:List aY}{ds:List c6}(h:XM δ i=b3 (ks,ds)):δ[i]?=b3 (.ow (.dct ks ds)):=by
 unfold XM at h;split at h
 ·cases h;assumption
 ·cases h
def JQ(i:Nat)(fk fx:VF):VF:=λδ=>(XM δ i).bind λ_=>(fk δ).bind λp=>(fx p.2).bind λq=>(V9 p.1).bind λk=>(XM q.2 i).map λz=>((bF z.1 z.2 k).getD q.1,q.2)
def lC{i:Nat}{fk fx:VF}{ao ae:Pos}(P:X.A.units+1<cLine)(h:PE X a (WH i))(hk:PE X b (TV K ml pa ta ia fk))(N:PE X c (TV K ml pb ba ba fx))(m:M2 X a "get" ao b c ae):
  PE X (.Call (.Attribute a "get" ao) [b,c] [] ae) (TV K ml (pa&&pb) ba ba (JQ i fk fx)):=(jQ P h hk N m).imp λσ H Q g=>by
 obtain⟨B,O,δ,d,F,S,q,k⟩:=g;unfold JQ at q;cases p:XM δ i with
 |none=>rw[p]at q;cases q
 |some L=>
  obtain⟨f,x⟩:=L;rw[p]at q;cases h1:fk δ with
  |none=>simp[h1]at q
  |some M=>
   obtain⟨y,δ1⟩:=M;simp only[Ar,h1]at q;cases h2:fx δ1 with
   |none=>simp[h2]at q
   |some p2=>
    obtain⟨z,δ2⟩:=p2;simp only[Ar,h2]at q;cases n:V9 y with
    |none=>simp[n]at q
    |some D=>
     simp only[Ar,n]at q;cases j:XM δ2 i with
     |none=>simp[j]at q
     |some G=>
      obtain⟨ks,ds⟩:=G;simp only[j]at q;cases q;obtain⟨l,W,U,w⟩:=S.ow i _ (T3 p);refine⟨.ref l,U,l,rfl,?_,B,O,δ,y,δ1,S,h1,λZ H1 e=>⟨B,O,δ1,z,_,e.sta,h2,λY H2 R2=>?_⟩⟩
      ·generalize hw:c6.dct f x=dd at w
       cases w with
       |lst _ _=>cases hw
       |dct q _=>exact .inl ⟨_,.inl (.inl q)⟩
       |nst _ _=>cases hw
      ·have T:=e.rep.key n
       subst T;obtain⟨l',E,_,C⟩:=R2.sta.ow i _ (T3 j);rw[W]at E;cases E;have u:∀o,bV K (Nn B O) H2 (Nn B O) (o:V) ((bF ks ds D).getD z)->Q o H2:=λo h=>k o H2 ⟨R2.sta,e.frm.trans R2.frm,λz=>by obtain⟨J,I⟩:=(Af _ _).mp z;exact(e.pur J).trans (R2.pur I),h⟩
       generalize hw:c6.dct ks ds=dd at C;cases C with
       |lst _ _=>cases hw
       |nst _ _=>cases hw
       |dct q r=>
        cases hw;refine⟨_,PX.k q,u _ ?_⟩;rcases Q6 (k:=D) r with⟨v,d',t,s,R⟩|⟨t,s⟩
        ·rw[t,s];exact R
        ·rw[t,s];exact R2.rep
noncomputable def YL:List aY->List c6->aY->c6->List aY×List c6
 |k'::ks,d::ds,k,v=>if k'=k then(k'::ks,v::ds)else let r:=YL ks ds k v;(k'::r.1,d::r.2)
 |_,_,k,v=>([k],[v])
def IC(i:Nat)(fk fv:VF):VS:=λδ=>(fv δ).bind λp=>(XM p.2 i).bind λ_=>(fk p.2).bind λq=>(V9 q.1).bind λk=>(XM q.2 i).bind λz=>if z.1.length<16777216/\z.1.Nodup then b3 (.nx (q.2.set i (.ow (let r:=YL z.1 z.2 k p.1;.dct r.1 r.2))))else b4
theorem LY{N:Ub->Prop}{k:aY}{v:V}(h:bV K N H N v d):∀{kvs:List (aY×V)}{ds:List c6},(kvs.map Dh).Nodup->cG K N H (kvs.map Er) ds->(XN kvs k v).map Dh=(YL (kvs.map Dh) ds k d).1/\cG K N H ((XN kvs k v).map Er) (YL (kvs.map Dh) ds k d).2
 |[],_,_,.nil=>⟨rfl,.cons h .nil⟩
 | (k',u) :: kvs,_,a,.cons f t => by
  obtain⟨c,b⟩:=Ca.mp a;by_cases hk:k'=k
  ·subst hk
   have e:XN ((k',u)::kvs) k' v=(k',v)::kvs:=by
    unfold XN;rw[if_pos (by simp)];simp only[Ba,if_true];congr 1;refine(Jv λp g=>?_).trans (List.map_id _);have:p.1≠k':=λz=>c (Cu.mpr ⟨p,g,z⟩)
    simp[this]
   rw[e];exact⟨by simp[YL],by simpa[YL]using cG.cons h t⟩
  ·obtain⟨h1,h2⟩:=LY (k:=k) h b t
   have e:XN ((k',u)::kvs) k v=(k',u)::XN kvs k v:=by
    unfold XN;simp only[Jb,hk,decide_false,Su];split
    ·simp[hk]
    ·rfl
   rw[e];exact⟨by simpa[YL,hk]using h1,by simpa[YL,hk]using cG.cons f h2⟩
def KA{N:Ub->Prop}{l:Ub}{o:HO}{xs:List V}{ds:List c6}{kvs:List (aY×V)}(d:H l=b3 (.dK kvs))(e:N l)(h:cG K N H xs ds):cG K N (upd H l o) xs ds:=
 h.fr (P:=λb=>b=l) (λb u q n=>by
  by_cases c:b=l
  ·subst c
   rw[d]at q;cases q;exact absurd (n rfl) λz=>z
  ·rw[cB c]
   exact q) λa z=>z▸e
def EW{i:Nat}{fk fv:VF}{ai:Pos}(G:X.A.units+1<cLine)(J:PE X a (WH i))(hk:PE X b (TV K ml pa ta ia fk))(F:PE X c (TV K ml pb ba ba fv))(I:Hk c (b3 (.Subscript a b ai)) pos.line X.env=pure bb):
  PS X (.Assign [.Subscript a b ai] c pos) (WO K ml (IC i fk fv)):=(qE G J hk F I).imp λD σ H f=>by
 obtain⟨B,O,δ,o,S,q,k⟩:=f;unfold IC at q;obtain⟨⟨z,δ1⟩,h1,q⟩:=Aa.mp q;have q:((XM δ1 i).bind λ_=>(fk δ1).bind λq=>(V9 q.1).bind λk=>(XM q.2 i).bind λd=>if d.1.length<16777216/\d.1.Nodup then b3 (Ou.nx (q.2.set i (.ow (let r:=YL d.1 d.2 k z;.dct r.1 r.2))))else b4)=b3 o:=q;cases j:XM δ1 i with
 |none=>rw[j]at q;cases q
 |some x=>
 obtain⟨E,Q⟩:=x;rw[j]at q;cases h2:fk δ1 with
 |none=>simp[h2]at q
 |some p2=>
  obtain⟨y,δ2⟩:=p2;simp only[Ar,h2]at q;cases h:V9 y with
  |none=>simp[h]at q
  |some e=>
   simp only[Ar,h]at q;cases g:XM δ2 i with
   |none=>simp[g]at q
   |some v=>
    obtain⟨ks,ds⟩:=v;simp only[g,Ar]at q;split at q
    ·rename_i hz
     cases q;refine⟨B,O,δ,z,δ1,S,h1,λs H1 n=>?_⟩;obtain⟨l,m,P,_⟩:=n.sta.ow i _ (T3 j);refine⟨.ref l,P,B,O,δ1,y,δ2,n.sta,h2,λR H2 R2=>?_⟩;have N:=R2.rep.key h;subst N;obtain⟨T,u,_,p⟩:=R2.sta.ow i _ (T3 g);rw[m]at u;cases u;generalize hw:c6.dct ks ds=dd at p;cases p with
     |lst _ _=>cases hw
     |nst _ _=>cases hw
     |dct t r=>
      cases hw;have C:=n.rep.fr R2.frm (λa z=>.inr z) λa z=>.inr z;obtain⟨M,L⟩:=LY (k:=e) C hz.2 r;refine⟨l,_,rfl,DPut.k t (by rw[Ce];simpa using hz.1),k σ _ O (R2.sta.wrote m (λz=>z) ?_)⟩;have w:SU K (Nn B O) (upd H2 l (.dK (XN _ e s))) l (.dct ((XN _ e s).map Dh) _):=.dct cH (KA t (.inr ⟨i,m⟩) L);rw[M]at w;exact w
    ·cases q
end
section
variable{X:Cx}{K:Ah}{ml:List Nat}{e a b c:Uh}{es:List Uh}{pa ta ia pb tb ib pc tc ic pu bt bi ps bs:Bool}{fa fb fc f:VF}{B B':Bs}{O:Nat->Option Ub}{H H0 H1 H':Hp}{σ:St}{δ δ':Ev}{v:V}{d:c6}{p:Ub}{pos:Pos}
def Zw(i j k:Nat)(ta:TA):TS:=λD σ H=>ta σ H λvs H1=>∃v w u,vs=[v,w,u]/\D.nx (((σ.set i (b3 v)).set j (b3 w)).set k (b3 u)) H1
def pO{i j k:Nat}{x y z:Ue}{a b c:Uh}{ta:TA}{t r n pt:Pos}{kt k2 pt2}(hc:X.calm=ba)(J:X.N.Nodup)(hi:X.N[i]?=b3 x)(U:X.N[j]?=b3 y)(hk:X.N[k]?=b3 z)(G:i≠j)(F:i≠k)(E:j≠k)(L:X.env.scope.names.lookup x=b3 .local)(K:X.env.scope.names.lookup y=b3 .local)(hz:X.env.scope.names.lookup z=b3 .local)(V:PA X [a,b,c] ta)(hw:Ey [.Tuple [.Name x t,.Name y r,.Name z n] kt pt] (.Tuple [a,b,c] k2 pt2) X.env=pure (b3 [x,y,z]))(T:Ex [.Tuple [.Name x t,.Name y r,.Name z n] kt pt] (.Tuple [a,b,c] k2 pt2) pos.line X.env=pure bb:=by rfl):PS X (.Assign [.Tuple [.Name x t,.Name y r,.Name z n] kt pt] (.Tuple [a,b,c] k2 pt2) pos) (Zw i j k ta):=by
 intro aa s σ H D I h;rw[exec_Assign_arm];refine Ac (Gg ?_);rw[T];refine Ac (Ai ?_);rw[if_neg (by decide)];refine Ac (Tuple_ (ZT (V _ aa s σ H _ I h) λO s1 ⟨vs,H1,I1,R,q1⟩=>?_));obtain⟨v,w,u,W,q1⟩:=q1;subst W;obtain⟨g,f,d,rfl,P,l,Q⟩:∃g f d,O=[g,f,d]/\b7 v g/\b7 w f/\b7 u d:=by
  cases R with
  |cons p q=>
   cases q with
   |cons p' S=>
    cases S with
    |cons B m=>
     cases m;exact⟨_,_,_,rfl,p,p',B⟩
 refine Dq ?_ (by show 3<=sizeLine;decide);have I2:cM X aa σ H1 {s1 with heap:=s1.heap.push {cls:=.type "tuple",data:=.seq [g,f,d].toArray}}:=I1.kept (t':=s1.toks) λb o e=>Ad _ e;rw[hw];refine Ac (Ai ?_);show Ud (Uf X.prog X.w) X.A (do rule "assign.swapped-stores";let items<-Jo (.ref s1.heap.objs.size) 3 b4;Us [λv=>Ik X.env z v,λv=>Ik X.env y v,λv=>Ik X.env x v] items.reverse;pure Flow.next) _ _ _;refine Ac (Hz (Ac (Pb (items:= #[g,f,d]) (I.ok.hd hc) (Jp s1.heap _) λh' C=>?_)));have I3:=I2.kept (h':=h') (t':=s1.toks) λb o e=>C b o (Bb (Ap e)) e;show Ud _ _ (Us [λv=>Ik X.env z v,λv=>Ik X.env y v,λv=>Ik X.env x v] [d,f,g]>>=λ_=>pure Flow.next) _ _ _;refine Ac (Ej (Il (Y4 I3 J hk (.inl hz) Q (λs2 Z=>?_) (.inr hz))));refine Ej (Il (Y4 Z J U (.inl K) l (λs3 Y=>?_) (.inr K)));refine Ej (Il (Y4 Y J hi (.inl L) P (λs4 M=>Hy (Ai ?_)) (.inr L)));rw[Ez _ _ (Di G),Ez _ _ (Di F),Ez _ _ (Di E)]at M;exact⟨_,H1,M,q1⟩
noncomputable def N7(i j k:Nat)(x y z:VX):VS:=λδ=>(x δ).bind λp=>(y p.2).bind λq=>(z q.2).bind λr=>if i<r.2.length/\j<r.2.length/\k<r.2.length then b3 (.nx (((r.2.set k r.1).set j q.1).set i p.1))else b4
def L6{i j k:Nat}{x y z:VX}{o:Ou}(h:N7 i j k x y z δ=b3 o):∃s1 δ1 d δ2 c a,x δ=b3 (s1,δ1)/\y δ1=b3 (d,δ2)/\z δ2=b3 (c,a)/\(i<a.length/\j<a.length/\k<a.length)/\o=.nx (((a.set k c).set j d).set i s1):=by
 unfold N7 at h;cases h1:x δ with
 |none=>rw[h1]at h;cases h
 |some p=>
  rw[h1]at h;cases h2:y p.2 with
  |none=>simp[h2]at h
  |some q=>
   simp only[Ar,h2]at h;cases b:z q.2 with
   |none=>simp[b]at h
   |some r=>
    simp only[Ar,b]at h;split at h
    ·cases h
     exact⟨p.1,p.2,q.1,q.2,r.1,r.2,rfl,h2,b,by assumption,rfl⟩
    ·cases h
def oF{i j k:Nat}{x y z:Ue}{fx C A:VX}{m l h pt:Pos}{kt k2 pt2}(hc:X.calm=ba)(Z:X.N.Nodup)(hi:X.N[i]?=b3 x)(U:X.N[j]?=b3 y)(hk:X.N[k]?=b3 z)(f:i≠j)(e:i≠k)(d:j≠k)(R:X.env.scope.names.lookup x=b3 .local)(Q:X.env.scope.names.lookup y=b3 .local)(hz:X.env.scope.names.lookup z=b3 .local)(Y:PE X a (TX K ml fx))(W:PE X b (TX K ml C))(w:PE X c (TX K ml A))(hw:Ey [.Tuple [.Name x m,.Name y l,.Name z h] kt pt] (.Tuple [a,b,c] k2 pt2) X.env=pure (b3 [x,y,z]))(s:i∉ml:=by decide)(r:j∉ml:=by decide)(p:k∉ml:=by decide)(T:Ex [.Tuple [.Name x m,.Name y l,.Name z h] kt pt] (.Tuple [a,b,c] k2 pt2) pos.line X.env=pure bb:=by rfl)(V:SE X a [b,c]:=by rfl)(u:SE X b [c]:=by rfl)(t:SE X c []:=by rfl):
  PS X (.Assign [.Tuple [.Name x m,.Name y l,.Name z h] kt pt] (.Tuple [a,b,c] k2 pt2) pos) (WO K ml (N7 i j k fx C A)):=(pO hc Z hi U hk f e d R Q hz (b8 Y (b8 W (b8 w aH t) u) V) hw T).imp λD σ H n=>by
 obtain⟨B,O,δ,o,S,q,k⟩:=n;obtain⟨s1,δ1,P,δ2,M,g,h1,h2,h3,hl,rfl⟩:=L6 q;refine⟨B,O,δ,s1,δ1,S,h1,λv H1 B1 S1 I f1=>⟨B1,O,δ1,P,δ2,S1,h2,λL H2 B2 S2 G f2=>⟨B2,O,δ2,M,g,S2,h3,λJ H3 B3 S3 F f3=>⟨v,L,J,rfl,?_⟩⟩⟩⟩;obtain⟨O4,S4⟩:=F.bind S3 p hl.2.2;obtain⟨O5,S5⟩:=(G.fr f3).bind S4 r (by rw[Cc];exact hl.2.1);obtain⟨O6,E⟩:=((I.fr f2).fr f3).bind S5 s (by rw[Cc,Cc];exact hl.1);rw[Ez _ _ (Di f),Ez _ _ (Di e),Ez _ _ (Di d)]at E;exact k _ _ _ E
def iO{i j k:Nat}{x y z:Ue}{fx R Q:VX}{f e d pt:Pos}{kt k2 pt2}(hK:X.K=K)(hc:X.calm=ba)(E:X.N.Nodup)(hi:X.N[i]?=b3 x)(hj:X.N[j]?=b3 y)(hk:X.N[k]?=b3 z)(u:i≠j)(t:i≠k)(s:j≠k)(hx:AB X.env.scope x)(hy:AB X.env.scope y)(hz:AB X.env.scope z)(ha:PE X a (TX K ml fx))(hb:PE X b (TX K ml R))(C:PE X c (TX K ml Q))(r:i∉ml:=by decide)(n:j∉ml:=by decide)(m:k∉ml:=by decide)(hs:Ex [.Tuple [.Name x f,.Name y e,.Name z d] kt pt] (.Tuple [a,b,c] k2 pt2) pos.line X.env=pure bb:=by rfl)(hw:Ey [.Tuple [.Name x f,.Name y e,.Name z d] kt pt] (.Tuple [a,b,c] k2 pt2) X.env=pure b4:=by rfl)(hn:(Ui [.Name x f,.Name y e,.Name z d] X.env).length=3:=by rfl)(h:(Ui [.Name x f,.Name y e,.Name z d] X.env).findIdx? (·.1)=b4:=by rfl)(g1:(Ui [.Name x f,.Name y e,.Name z d] X.env).map (·.2)=assign (.Name x f) X.env::(Ui [.Name y e,.Name z d] X.env).map (·.2):=by rfl)(g2:(Ui [.Name y e,.Name z d] X.env).map (·.2)=assign (.Name y e) X.env::(Ui [.Name z d] X.env).map (·.2):=by rfl)(g3:(Ui [.Name z d] X.env).map (·.2)=assign (.Name z d) X.env::(Ui [] X.env).map (·.2):=by rfl)(I:LO X x:=by first|exact .inl rfl|exact .inr rfl|assumption)(G:LO X y:=by first|exact .inl rfl|exact .inr rfl|assumption)(F:LO X z:=by first|exact .inl rfl|exact .inr rfl|assumption)(h1:(Ui [.Tuple [.Name x f,.Name y e,.Name z d] kt pt] X.env).map (·.2)=[assign (.Tuple [.Name x f,.Name y e,.Name z d] kt pt) X.env]:=by rfl)(he:SE X a [b,c]:=by rfl)(A:SE X b [c]:=by rfl)(w:SE X c []:=by rfl):PS X (.Assign [.Tuple [.Name x f,.Name y e,.Name z d] kt pt] (.Tuple [a,b,c] k2 pt2) pos) (WO K ml (N7 i j k fx R Q)):=
 (QI (FT (b8 ha (b8 hb (b8 C aH w) A) he)) (Yj (K:=K) hK hc (WD (RA E hi hx I) (WD (RA E hj hy G) (WD (RA E hk hz F) J7 g3) g2) g1) hn h) hs hw h1).imp λD σ H l=>by obtain⟨B,O,δ,o,S,q,k⟩:=l;obtain⟨s1,δ1,s2,δ2,Z,g,h1,h2,h3,hl,rfl⟩:=L6 q;refine⟨B,O,δ,s1,δ1,S,h1,λv H1 B1 S1 Y f1=>⟨B1,O,δ1,s2,δ2,S1,h2,λM H2 B2 S2 W f2=>⟨B2,O,δ2,Z,g,S2,h3,λL U B3 S3 V f3=>⟨(by show 3<=sizeLine;decide),λp P=>⟨p,_,rfl,WS.of cH,rfl,v,_,rfl,M,_,rfl,L,_,rfl,rfl,?_⟩⟩⟩⟩⟩;have J:Fr (OA O) U (upd U p (.tup [v,M,L])):=(cW P).fr;obtain⟨O4,S4⟩:=(V.fr J).bind (S3.same (cW P)) m hl.2.2;obtain⟨O5,S5⟩:=((W.fr f3).fr J).bind S4 n (by rw[Cc];exact hl.2.1);obtain⟨O6,T⟩:=(((Y.fr f2).fr f3).fr J).bind S5 r (by rw[Cc,Cc];exact hl.1);rw[Ez _ _ (Di u),Ez _ _ (Di t),Ez _ _ (Di s)]at T;exact k _ _ _ T
def rIsB(neg:Bool):R2:=λx y H Q=>∃k,y=.bl k/\Q (.bl (if neg then !decide (x=.bl k)else decide (x=.bl k))) H
def Xc:XJ X (Ct .Is) (rIsB bb):=by
 intro aa s σ H x y v u Q I a b h;obtain⟨k,rfl,q⟩:=h;cases b;have e:(v==Gk k)=decide (x=V.bl k):=by
  cases x<;>first
   |(cases a;first|rfl|(rename_i z;cases z<;>cases k<;>rfl))
   |(obtain⟨t,rfl⟩:=a;rfl)
 exact wpAny_is_plain (by cases x<;>first|(cases a;cases k<;>rfl)|(obtain⟨t,rfl⟩:=a;cases k<;>rfl)) (by rw[e];exact⟨.bl _,H,I,rfl,q⟩)
def WR:XJ X (Ct .IsNot) (rIsB ba):=by
 intro aa s σ H x y v u Q I a b h;obtain⟨k,rfl,q⟩:=h;cases b;have e:(v==Gk k)=decide (x=V.bl k):=by
  cases x<;>first
   |(cases a;first|rfl|(rename_i z;cases z<;>cases k<;>rfl))
   |(obtain⟨t,rfl⟩:=a;rfl)
 exact wpAny_isNot_plain (by cases x<;>first|(cases a;cases k<;>rfl)|(obtain⟨t,rfl⟩:=a;cases k<;>rfl)) (by rw[e];exact⟨.bl _,H,I,rfl,q⟩)
noncomputable def isBl(k:Bool):c6->Bool
 |.bl x=>x==k
 |_=>bb
def BQ:c6->c6->Option c6
 |d,.bl k=>b3 (.bl (isBl k d))
 |_,_=>b4
def YQ:c6->c6->Option c6
 |d,.bl k=>b3 (.bl (!isBl k d))
 |_,_=>b4
def EB{N M:Ub->Prop}{k:Bool}(h:bV K N H M v d):decide (v=V.bl k)=isBl k d:=by
 cases h<;>simp[isBl];rename_i b;cases b<;>cases k<;>rfl
def Wv:QP K (rIsB bb) BQ:=by
  intro H N N' M M' x y d e c Q b a h k;cases a<;>first
    | (cases h
       refine⟨_,rfl,?_⟩;simp only[De,if_false];rw[EB b];exact k _ λ_ _ _=>.bl _)
    |(simp[BQ]at h)
def UV:QP K (rIsB ba) YQ:=by
  intro H N N' M M' x y d e c Q b a h k;cases a<;>first
    | (cases h
       refine⟨_,rfl,?_⟩;simp only[if_true];rw[EB b];exact k _ λ_ _ _=>.bl _)
    |(simp[YQ]at h)
end
section
variable{prog:Aw}{w:Uj}{A:Cb}{E:Ua->Ae->Prop}{s:Ae}
def SY{it t:Ub}{i:Nat}{items:Array Ua}{x:Ua}{Q:Ua->Ae->Prop}(a:s.heap.IsTupleIter it t i)(e:s.heap.IsTuple t items)(d:items[i]?=b3 x)(f:∀h',h'.IsTupleIter it t (i+1)->Fp it s.heap h'->Q x {s with heap:=h'}):Ud (Uf prog w) A (Bz (.ref it)) Q E s:=by obtain⟨l,c,j,b⟩:=id a;obtain⟨k,g,_,m,h⟩:=e;unfold Bz;refine Ac (Cw (name:=Be "__next__") a.typeIs Fn (Es Fn a.typeIs Jw ?_ (Jd _)));show Ud _ _ (field (Bu it) 0>>=_) _ _ s;refine Ac (Eo c b (x:=.ref t) rfl ?_);show Ud _ _ (if(Bu t== .none)=ba then _ else _) _ _ s;rw[if_neg (show¬(Bu t==Value.none)=ba from Ek)];show Ud _ _ (field (Bu it) 1>>=_) _ _ s;refine Ac (Eo c b (x:=.int i 0) rfl ?_);show Ud _ _ (seqItems? (Bu t)>>=_) _ _ s;refine Ac (Fh g h ?_);simp only[d,Ib];refine Ac (wpAny_setField c b (by simp) (Ai ⟨x,rfl,Ai (f _ ⟨_,Iq _ c (Obj.isFreed_of_fields (Oi b _)),(Obj.cls_mapFields ..).trans j,?_⟩ (Nt ..))⟩));rw[Oi b];simp[rawInt]
def Q8{it t:Ub}{i:Nat}{items:Array Ua}{Q:Ua->Ae->Prop}(f:A.handled=b4)(b:s.heap.IsTupleIter it t i)(h:s.heap.IsTuple t items)(g:items[i]?=b4)(j:∀h' e,Ju it s.heap h'->(∃o,h'.get? e=b3 o/\o.cls=.type "StopIteration")->E (.ref e) {s with heap:=h'}):Ud (Uf prog w) A (Bz (.ref it)) Q E s:=by
 obtain⟨p,c,r,d⟩:=id b;obtain⟨n,k,_,q,l⟩:=h;unfold Bz;refine Ac (Cw (name:=Be "__next__") b.typeIs Fn (Es Fn b.typeIs Jw ?_ (Jd _)));show Ud _ _ (field (Bu it) 0>>=_) _ _ s;refine Ac (Eo c d (x:=.ref t) rfl ?_);show Ud _ _ (if(Bu t== .none)=ba then _ else _) _ _ s;rw[if_neg (show¬(Bu t==Value.none)=ba from Ek)];show Ud _ _ (field (Bu it) 1>>=_) _ _ s;refine Ac (Eo c d (x:=.int i 0) rfl ?_);show Ud _ _ (seqItems? (Bu t)>>=_) _ _ s;refine Ac (Fh k l ?_);simp only[g,Ib];refine Ac (Hz (Ac (wpAny_setField c d (by simp) ?_)));show Ud _ _ (newExc (Kx "StopIteration") []>>=_) _ _ _;refine Ac ?_;unfold newExc newTuple;refine Ac (Dq ?_ (by size_fits));refine Ac (m:=firstArgMember _ _) (wpAny_of_eq (a:=Value.none) (by first|rfl|(unfold firstArgMember;rfl)) (Dq ?_ (by size_fits)));unfold raiseNew;refine Ac (wpAny_handled ?_);first|rw[f]|rw[show A.in1.handled=b4 from f]
 refine Ac (Ai (wpAny_throw (j _ _ (((Nt ..).extBut.push _).push _) ⟨_,As _ rfl,rfl⟩)))
end
def AZ{prog:Aw}{w:Uj}{A:Cb}(f:A.handled=b4)(it t:Ub)(d:t≠it)(items:Array Ua):
  Draws prog w A it [it,t] items.size (λi v=>items[i]?=b3 v) (λi h=>h.IsTupleIter it t i/\h.IsTuple t items) where
 live:=λ_ _ st=>let ⟨o,c,_⟩:=st.1;⟨o,c⟩
 frame:=λ_ _ _ st hk=>⟨st.1.at λo e=>hk it (by simp) o e,by obtain⟨o,c,r⟩:=st.2;exact⟨o,hk t (by simp) o c,r⟩⟩
 item:=λi s Q E hi st g=>SY st.1 st.2 (x:=items[i]) (by simp[hi]) λh' a b=>g _ h' s.toks (by simp[hi]) ⟨a,st.2.extBut b.extBut d⟩ b
 done:=λs Q E st j=>Q8 f st.1 st.2 (by simp) j
section
variable{X:Cx}{aa:List (Ub×Ul)}{σ:St}{H:Hp}{s:Ae}{h':Uk}
def cM.turnedL{t':Nat}{fp:List Ub}(I:cM X aa σ H s)(k:∀b o,b∉fp->s.heap.get? b=b3 o->h'.get? b=b3 o)(there:∀b∈fp,∃o,h'.get? b=b3 o)(d:∀b∈fp,ML X aa H b):cM X aa σ H {s with heap:=h',toks:=t'}:=by
 have a:∀b u,H b=b3 u->b∉fp:=λb u e z=>by rw[(d b z).1]at e;cases e
 have i:X.env.locals∉fp:=λz=>(d _ z).2.1 rfl;refine I.step (g':=s.gens) (d':=s.drawn) (ch:=fp) (λb h=>?_) (λb o _ _ hc e _=>k b o hc e) (λb o _ _ hc e _=>⟨o.slots,k b o hc e⟩) (λ_ _ _ _ n=>n)
  (λb o hc e=>⟨o,k b o hc e⟩) (λ_ _ e=>e) (λ_ _ _ e=>e) (λb ps e=>⟨#[],by rw[e];simp⟩) (λm g=>?_) (λb u e=>?_) I.bare
 ·obtain⟨_,f1,f2,f3,l,j⟩:=d b h
  exact⟨f3,f1,l,j⟩
 ·obtain⟨o,es,p,f,r⟩:=g
  exact⟨o,es,p,k _ o i f,r⟩
 ·refine (I.hok b u e).stay (λc v hc q => k c v ?_ q) (λ_ q => q) λ_ _ q => q
  rcases hc with z|z
  ·rw[z];exact a b u e
  ·exact a c _ z
end
section
variable{X:Cx}{aa:List (Ub×Ul)}{σ:St}{H:Hp}{s:Ae}{h':Uk}
def cM.turnedL'{t':Nat}{fp:List Ub}(I:cM X aa σ H s)(k:∀b o,b∉fp->s.heap.get? b=b3 o->h'.get? b=b3 o)(d:∀b∈fp,ML X aa H b):cM X aa σ H {s with heap:=h',toks:=t'}:=by
 have a:∀b u,H b=b3 u->b∉fp:=λb u e z=>by rw[(d b z).1]at e;cases e
 have i:X.env.locals∉fp:=λz=>(d _ z).2.1 rfl;refine I.step (g':=s.gens) (d':=s.drawn) (ch:=fp) (λb h=>?_) (λb o _ _ hc e _=>k b o hc e) (λb o _ _ hc e _=>⟨o.slots,k b o hc e⟩) (λ_ _ _ _ n=>n)
  (λb o hc e=>⟨o,k b o hc e⟩) (λ_ _ e=>e) (λ_ _ _ e=>e) (λb ps e=>⟨#[],by rw[e];simp⟩) (λm g=>?_) (λb u e=>?_) I.bare
 ·obtain⟨_,f1,f2,f3,l,j⟩:=d b h
  exact⟨f3,f1,l,j⟩
 ·obtain⟨o,es,p,f,r⟩:=g
  exact⟨o,es,p,k _ o i f,r⟩
 ·refine (I.hok b u e).stay (λc v hc q => k c v ?_ q) (λ_ q => q) λ_ _ q => q
  rcases hc with z|z
  ·rw[z];exact a b u e
  ·exact a c _ z
end
def KR(K:Ah)(tup:Bool)(H:Hp)(a:Ub)(xs:List V):Prop:=if tup=ba then WS K H a xs else X9 K H a xs
def QR(tup:Bool)(h:Uk)(a:Ub)(items:Array Ua):Prop:=if tup=ba then h.IsTuple a items else h.IsList a items
def U3(tup:Bool)(h:Uk)(it a:Ub)(i:Nat):Prop:=if tup=ba then h.IsTupleIter it a i else h.IsListIter it a i
def Xi{prog:Aw}{w:Uj}{A:Cb}(b:A.handled=b4)(tup:Bool)(it t:Ub)(a:t≠it)(items:Array Ua):Draws prog w A it [it,t] items.size (λi v=>items[i]?=b3 v) (λi h=>U3 tup h it t i/\QR tup h t items):=by
 cases tup with
 |true=>exact AZ b it t a items
 |false=>exact Draws.list b it t a items
def QR.lt{tup:Bool}{h:Uk}{a:Ub}{items:Array Ua}(s:QR tup h a items):a<h.objs.size:=by
 cases tup with
 |true=>obtain⟨o,e,_⟩:=s;exact Ap e
 |false=>obtain⟨o,e,_⟩:=s;exact Ap e
def cM.srcA{X:Cx}{aa:List (Ub×Ul)}{σ:St}{H:Hp}{s:Ae}{a:Ub}{xs:List V}{tup:Bool}(I:cM X aa σ H s)(h:KR X.K tup H a xs):∃its:List Ua,bX xs its/\QR tup s.heap a its.toArray/\xs.length<=sizeLine:=by
 cases tup with
 |true=>
  obtain⟨its,r,p,z⟩:=I.tuple h;exact⟨its,r,p,z⟩
 |false=>
  obtain⟨its,r,p,z⟩:=I.list h;exact⟨its,r,p.isList,z⟩
def cM.sq_inj{X:Cx}{aa:List (Ub×Ul)}{σ:St}{H:Hp}{s:Ae}{a:Ub}{xs ys:List V}{tup:Bool}(I:cM X aa σ H s)(h:KR X.K tup H a xs)(h':KR X.K tup H a ys):xs=ys:=by
 cases tup with
 |true=>exact I.tuple_inj h h'
 |false=>exact I.list_inj h h'
def U3.at{tup:Bool}{h h':Uk}{it a:Ub}{i:Nat}(st:U3 tup h it a i)(k:∀o,h.get? it=b3 o->h'.get? it=b3 o):U3 tup h' it a i:=by
 cases tup with
 |true=>exact Heap.IsTupleIter.at st k
 |false=>exact Heap.IsListIter.at st k
def U3.obj{tup:Bool}{h:Uk}{it a:Ub}{i:Nat}(st:U3 tup h it a i):∃o,h.get? it=b3 o/\∀v,o.data≠ .cell v:=by
 cases tup with
 |true=>
  obtain⟨o,e,c,d⟩:=st;exact⟨o,e,λv z=>by rw[d]at z;cases z⟩
 |false=>
  obtain⟨o,e,c,d⟩:=st;exact⟨o,e,λv z=>by rw[d]at z;cases z⟩
def Ite(K:Ah)(tup:Bool)(a:Ub):It:=
 ⟨λi H=>∃xs x,KR K tup H a xs/\xs[i]?=b3 x,λi H v H'=>∃p x,(∀xs,KR K tup H a xs->xs[i]?=b3 x)/\H p=b4/\H'=upd H p (.tup [.int i,x])/\v=.ref p,λi H=>∃xs,KR K tup H a xs/\xs.length=i⟩
def CK{P:Aw}{w:Uj}{K:Ah}{es:List Uh}{k:Nat}{pos:Pos}(tup:Bool)(a e it:Ub)(g:e≠it)(Q:a≠e)(C:a≠it):
  E2 P w K (.Tuple es k pos) (Ite K tup a) [e,it] e (λi h=>(∃f,IsEnum h e it i f)/\U3 tup h it a i) where
 mem:=by simp
 obj:=λi h st b c=>by
  obtain⟨⟨f,j⟩,hi⟩:=st;rcases Ak.mp c with z|z
  ·subst z
   exact⟨_,j,λv z=>by cases z⟩
  ·have:=At.mp z
   subst this;exact hi.obj
 keep:=λi h h' st G=>by obtain⟨⟨f,j⟩,hi⟩:=st;exact⟨⟨f,G e (by simp) _ j⟩,hi.at λo q=>G it (by simp) o q⟩
 item:=by
  intro X R hw S hc i aa s σ H E I t st O;subst R hw S;obtain⟨⟨f,j⟩,hi⟩:=st;obtain⟨xs,x,J,r⟩:=O;obtain⟨its,F,l,hz⟩:=I.srcA J;have M:i<its.toArray.size:=by
   have:=(Ag.mp r).1
   have:=F.length
   simp only[Aj];lia
  have N:X.A.in1.handled=b4:=I.ok.hd hc;refine wpAny_pyNext_enum_itemD (Xi N tup it a C its.toArray) j ⟨hi,l⟩ M g (by simp[g,Di Q]) λu h1 tk m ho p Z hsz hk=>⟨_,rfl,?_⟩;refine wpAny_letOwnedTupleGo_enum (s:={s with heap:=h1,toks:=tk+1}) ho λh2 y d=>?_;have d:Fp e h1 h2:=d;obtain⟨n,L,W⟩:=F.get r;have m:its.toArray[i]?=b3 u:=m;rw[List.getElem?_toArray,L]at m;have m:=Cg m;subst m;have G:∀b o,b∉[e,it]->s.heap.get? b=b3 o->h2.get? b=b3 o:=λb o c q=>by have D:b≠e:=λz=>c (by simp[z]);have T:b≠it:=λz=>c (by simp[z]);exact(d.2 b D).trans (hk b o D T q)
  have g9:h2.get? s.heap.objs.size=b3 {cls:=.type "tuple",data:=.seq #[.int i tk,n]}:=(d.2 _ (Hg (Ap j))).trans Z;have bu:H s.heap.objs.size=b4:=I.hok.fresh (Aq _);have U:∀b∈[e,it],b<s.heap.objs.size:=λb c=>by
   rcases Ak.mp c with z|z
   ·rw[z];exact Ap j
   ·rw[At.mp z]
    obtain⟨o,q,_⟩:=hi.obj;exact Ap q
  have I0:cM X aa σ (upd H s.heap.objs.size (.tup [.int i,x])) {s with heap:=s.heap.push {cls:=.type "tuple",data:=.seq #[.int i tk,n]},toks:=tk}:=
   I.laid (λb o q=>Ad _ q) (Aq _) ⟨by show 2<=sizeLine;decide,[.int i tk,n],.cons ⟨tk,rfl⟩ (.cons W .nil),Jp _ _⟩
  have I1:cM X aa σ (upd H s.heap.objs.size (.tup [.int i,x])) {s with heap:=h2,toks:=tk+1}:=by
   refine cM.turnedL (s:={s with heap:=s.heap.push {cls:=.type "tuple",data:=.seq #[.int i tk,n]},toks:=tk}) (h':=h2) (t':=tk+1) (fp:=[e,it]) I0 (λb o c q=>?_) (λb c=>?_) λb c=>⟨by rw[cB (Bb (U b c))];exact(t b c).1,(t b c).2⟩
   ·by_cases B:b=s.heap.objs.size
    ·subst B
     have q:(s.heap.push {cls:=.type "tuple",data:=.seq #[.int i tk,n]}).get? s.heap.objs.size=b3 o:=q;rw[As _ rfl]at q;cases q;exact g9
    ·exact G b o c ((Ig _ _ _ B).symm.trans q)
   ·rcases Ak.mp c with z|z
    ·rw[z];exact⟨_,y⟩
    ·rw[At.mp z]
     obtain⟨o,q,_⟩:=p.1.obj;exact⟨o,(d.2 it (Di g)).trans q⟩
  refine⟨.ref s.heap.objs.size,upd H s.heap.objs.size (.tup [.int i,x]),?_,rfl,⟨_,x,λys Y=>by rw[I.sq_inj Y J];exact r,bu,rfl,rfl⟩,⟨⟨_,by simpa using y⟩,p.1.at λo q=>(d.2 it (Di g)).trans q⟩,λb c=>?_⟩
  ·exact I1
  ·rw[cB (Bb (U b c))]
   exact(t b c).1
 done:=by
  intro X R hw S hc i aa s σ H E I t st O;subst R hw S;obtain⟨⟨f,j⟩,hi⟩:=st;obtain⟨xs,J,r⟩:=O;obtain⟨its,F,l,hz⟩:=I.srcA J;have N:X.A.in1.handled=b4:=I.ok.hd hc;have hn:its.toArray.size=i:=by rw[Aj,<-F.length];exact r
  refine wpAny_pyNext_enum_endD (Xi N tup it a C its.toArray) j ⟨by rw[hn];exact hi,l⟩ λh1 V=>⟨rfl,?_⟩;obtain⟨f0,f1,f2,f3,f4,f5⟩:=t it (by simp);exact I.turned (t':=s.toks) (λb o c q=>V b o c q) f0 f1 f3 f4 f5
 self:=λ_ i _ _ _ st h=>Pk st.1.choose_spec h
def A0(a:Ub)(items:Array Ua)(n:Nat)(dd:Option Ub)(f:Array (Option Ua)):Meets (Fu.«enumerate.__new__» ⟨[.type "enumerate",.ref a],[]⟩) (λ_ R s=>s.heap.get? a=b3 {cls:=.type "tuple",dict:=dd,data:=.seq items n,slots:=f}∧R (.ok (.ret (.ref (s.heap.push {cls:=.type "tuple_iterator",data:=.fields #[.ref a,.int 0 0]}).objs.size))) {s with heap:=(s.heap.push {cls:=.type "tuple_iterator",data:=.fields #[.ref a,.int 0 0]}).push {cls:=.type "enumerate",data:=.fields #[.none,.bool bb,.ref s.heap.objs.size,rawInt 0,.none,.none]}}):=by
 refine .of_wp λprog w A R s h=>?_;obtain⟨i,g,d,tk,os⟩:=s;obtain⟨b,h⟩:=h;have j:=sub_enumerate;have e:Heap.IsTuple (Ri ⟨i,g,d,tk,os⟩) a items:=⟨_,b,rfl,n,rfl⟩;wp_walk using Bg b
 refine wpAny_stack_any λst=>Ai ?_;split
 ·rename_i c _ _ _ _ _
  cases (c==Kx "enumerate")<;>(wp_walk using Bg b,Hl e;exact⟨_,rfl,h⟩)
 ·wp_walk using Bg b,Hl e
  exact⟨_,rfl,h⟩
def E7{prog:Aw}{w:Uj}{A:Cb}{E:Ua->Ae->Prop}{s:Ae}{a:Ub}{items:Array Ua}{tup:Bool}{Q:Ua->Ae->Prop}(d:QR tup s.heap a items)(h:∀h',IsEnum h' (s.heap.objs.size+1) s.heap.objs.size 0 .none->U3 tup h' s.heap.objs.size a 0->(∀b o,s.heap.get? b=b3 o->h'.get? b=b3 o)->Q (.ref (s.heap.objs.size+1)) {s with heap:=h'}):Ud (Uf prog w) A (call (.type "enumerate") [.ref a]) Q E s:=by
 cases tup with
 |false=>exact call_enumerate_list d λh' k j _ a4=>h h' k j a4
 |true=>
  obtain⟨⟨i,dd,g,e⟩,f,hc,n,hd⟩:=d;replace hc:i=.type "tuple":=hc
  replace hd:g=.seq items n:=hd
  subst hc hd;have hz:(s.heap.push {cls:=.type "tuple_iterator",data:=.fields #[.ref a,.int 0 0]}).objs.size=s.heap.objs.size+1:=Ei ..;refine callType_new F.called_enumerate (by decide) (F.typeCall_enumerate_1 _) (F.newCall_enumerate_1 _) (λobj=>F.args_object_init_2 obj _) F.entry_enumerate_new (A0 a items n dd e) ⟨f,?_⟩;show _/\_;rw[hz];have c:=As (s.heap.push {cls:=.type "tuple_iterator",data:=.fields #[.ref a,.int 0 0]}) (o:={cls:=.type "enumerate",data:=.fields #[.none,.bool bb,.ref s.heap.objs.size,rawInt 0,.none,.none]}) rfl;rw[hz]at c;exact⟨⟨_,c,rfl⟩,h _ c ⟨_,Ad _ (As _ rfl),rfl,rfl⟩ λb o x=>Ad _ (Ad _ x)⟩
def JJ:Bm "enumerate"=b3 (.type "enumerate"):=by decide+kernel
def pL:Bm "zip"=b3 (.type "zip"):=by decide+kernel
section
variable{X:Cx}{K:Ah}{ml:List Nat}{l:Uh}{pu:Bool}{f:VF}{p pos du:Pos}{es:List Uh}{tk:Nat}{δ:Ev}
def iEnu(K:Ah)(tl:TE):TI:=λσ H R=>tl σ H λx H1=>∃a tup,x=.ref a/\(∃xs,KR K tup H1 a xs)/\R (Ite K tup a) H1
def kT{tl:TE}(r:Gl X "enumerate")(q:X.mg "enumerate"=b4)(hl:PE X l tl)(k:SE X l []:=by rfl):PI X (.Tuple es tk du) (.Call (.Name "enumerate" p) [l] [] pos) (iEnu X.K tl):=by
 intro aa s σ H R I h;refine Fd (SJ I r q JJ ?_ (by decide) (by decide));refine El (ZT (b8 hl aH k pos aa s σ H (λvs H1=>match vs with
  |[x]=>∃a tup,x=.ref a/\(∃xs,KR X.K tup H1 a xs)/\R (Ite X.K tup a) H1
  |_=>False) I h) λw s1 ⟨vs,H1,f,g,q1⟩=>?_) k (by rfl)
 match vs,g,q1 with
 |[x],g,q1=>
  obtain⟨a,tup,rfl,⟨xs,n⟩,t⟩:=q1;obtain⟨u,rfl,m⟩:=SZ g;cases m;obtain⟨its,y,c,_⟩:=f.srcA n;refine E7 c λh' d i kp=>?_;have v:cM X aa σ H1 {s1 with heap:=h'}:=f.kept (t':=s1.toks) kp;have o:∀b,s1.heap.objs.size<=b->H1 b=b4:=λb j=>f.hok.fresh j;refine Pk d ⟨s1.heap.objs.size+1,[s1.heap.objs.size+1,s1.heap.objs.size],_,Ite X.K tup a,H1,rfl,v,CK tup a (s1.heap.objs.size+1) s1.heap.objs.size (Nat.succ_ne_self _) (λz=>?_) (λz=>?_),⟨⟨_,d⟩,i⟩,λb j=>?_,t⟩
  ·have:=c.lt
   rw[z]at this;exact absurd this (Nat.not_lt_of_le (Ih _))
  ·have:=c.lt
   rw[z]at this;exact absurd this (Ck _)
  ·have e:s1.heap.objs.size<=b:=by
    rcases Ak.mp j with z|z
    ·rw[z];exact Ih _
    ·rw[At.mp z];exact Aq _
   exact f.fpOk e (o b e)
def dY(h:X.K=K){tl:TE}(b:Gl X "enumerate")(a:X.mg "enumerate"=b4)(hl:PE X l tl)(c:SE X l []:=by rfl):PI X (.Tuple es tk du) (.Call (.Name "enumerate" p) [l] [] pos) (iEnu K tl):=by subst h;exact kT b a hl c
noncomputable def YG:Nat->List c6->List c6
 |_,[]=>[]
 |i,d::ds=>.tup [.int i,d]::YG (i+1) ds
def NI(f:VF):VI:=λδ=>(f δ).bind λp=>(XO p.1).map λds=>(YG 0 ds,p.2)
theorem NA:∀{ds:List c6}{n i:Nat}{d:c6},(YG n ds)[i]?=b3 d->∃x,ds[i]?=b3 x/\d=.tup [.int (n+i:Nat),x]
 |[],_,_,_,h=>by simp[YG]at h
 |x::ds,n,0,d,h=>by simp[YG]at h;exact⟨x,rfl,h.symm⟩
 |x::ds,n,i+1,d,h=>by
  have h:(YG (n+1) ds)[i]?=b3 d:=by simpa[YG]using h
  obtain⟨y,h1,h2⟩:=NA h;exact⟨y,by simpa using h1,by rw[h2,show n+1+i=n+(i+1) by lia]⟩
theorem NB:∀(ds:List c6) (n:Nat),(YG n ds).length=ds.length
 |[],_=>rfl
 |_::ds,n=>congrArg (· +1) (NB ds (n+1))
def MJ{a:Ub}{tup:Bool}{ds:List c6}:Walk K (Ite K tup a) [(.ref a,if tup=ba then .tup ds else .lst ds)] (YG 0 ds):=by
 intro N H h;have r:=h _ (At.mpr rfl);have b:∀xs,KR K tup H a xs->cG K N H xs ds->(∀(i:Nat) (d:c6),(YG 0 ds)[i]?=b3 d->(Ite K tup a).go i H/\∀x H',(Ite K tup a).yld i H x H'->bH H H'/\bV K N H' N x d)/\(Ite K tup a).stop (YG 0 ds).length H:=λxs sq r=>by
  refine⟨λi d e=>?_,xs,sq,by rw[r.length,NB]⟩;obtain⟨z,l,rfl⟩:=NA e;obtain⟨x,f,g⟩:=r.get l;refine⟨⟨xs,x,sq,f⟩,λy H' j=>?_⟩;obtain⟨p,m,k,c,rfl,rfl⟩:=j;have:=k xs sq
  rw[f]at this;cases this;refine⟨cW c,.tup (WS.of cH) (.cons ?_ (.cons (g.same (cW c)) .nil))⟩;rw[Km];exact .int _
 cases tup with
 |true=>
  have r:bV K N H N (.ref a) (.tup ds):=r;cases r.onT with
  |tup sq r=>exact b _ sq r
 |false=>
  have r:bV K N H N (.ref a) (.lst ds):=r;cases r.onL with
  |lst q n r=>exact b _ (X9.of q) r
  |fzm q r=>exact b _ q.sq r
def KN(m:X.K=K)(i:Gl X "enumerate")(g:X.mg "enumerate"=b4)(h:PE X l (TV K ml pu ba ba f))(j:SE X l []:=by rfl):
  PI X (.Tuple es tk du) (.Call (.Name "enumerate" p) [l] [] pos) (TIV K ml pu (NI f)):=(dY (K:=K) m i g h j).imp λσ H R d=>by
 obtain⟨B,O,δ,ds,δ',S,q,k⟩:=d;unfold NI at q;obtain⟨⟨x,δ1⟩,h1,q⟩:=Aa.mp q;refine⟨B,O,δ,x,δ1,S,h1,λv H1 b=>?_⟩;cases x with
 |lst c=>
  cases q;obtain⟨a,xs,rfl,sq,r⟩:=b.rep.lstE;exact⟨a,bb,rfl,⟨xs,sq⟩,k _ [(.ref a,.lst c)] H1 (b.sta.keepV λp e=>by rw[At.mp e];exact b.rep) b.frm b.pur (MJ (tup:=bb))⟩
 |tup c=>
  cases q;obtain⟨a,xs,rfl,sq,r⟩:=b.rep.tupE;exact⟨a,ba,rfl,⟨xs,sq⟩,k _ [(.ref a,.tup c)] H1 (b.sta.keepV λp e=>by rw[At.mp e];exact b.rep) b.frm b.pur (MJ (tup:=ba))⟩
 |_=>cases q
end
section
variable{prog:Aw}{w:Uj}{A:Cb}{E:Ua->Ae->Prop}{s:Ae}
def U3.ext{tup:Bool}{h h':Uk}{it a b:Ub}{i:Nat}(x:U3 tup h it a i)(d:Ju b h h')(c:it≠b):U3 tup h' it a i:=x.at λo e=>d _ _ c e
def QR.ext{tup:Bool}{h h':Uk}{a b:Ub}{xs:Array Ua}(x:QR tup h a xs)(d:Ju b h h')(c:a≠b):QR tup h' a xs:=by
 cases tup with
 |true=>obtain⟨o,e,r⟩:=x;exact⟨o,d _ _ c e,r⟩
 |false=>obtain⟨o,e,r⟩:=x;exact⟨o,d _ _ c e,r⟩
def SM{tup:Bool}{it a:Ub}{i:Nat}{xs:Array Ua}{x:Ua}{Q:Ua->Ae->Prop}(hi:U3 tup s.heap it a i)(c:QR tup s.heap a xs)(b:xs[i]?=b3 x)(d:∀h',U3 tup h' it a (i+1)->Fp it s.heap h'->Q x {s with heap:=h'}):Ud (Uf prog w) A (Bz (.ref it)) Q E s:=by
 cases tup with
 |true=>exact SY hi c b d
 |false=>exact wpAny_nextOf_list_item hi c b d
def LR{tup:Bool}{it a:Ub}{i:Nat}{xs:Array Ua}{Q:Ua->Ae->Prop}(d:A.handled=b4)(hi:U3 tup s.heap it a i)(c:QR tup s.heap a xs)(b:xs[i]?=b4)(f:∀h' e,Ju it s.heap h'->(∃o,h'.get? e=b3 o/\o.cls=.type "StopIteration")->E (.ref e) {s with heap:=h'}):Ud (Uf prog w) A (Bz (.ref it)) Q E s:=by
 cases tup with
 |true=>exact Q8 d hi c b f
 |false=>exact wpAny_nextOf_list_end d hi c b f
structure ZSt(t1 t2:Bool)(h:Uk)(z p q i1 i2 a b:Ub)(k:Nat)(f0:Ua):Prop where
 zip:IsZip h z p q f0
 its:IsPair h p (.ref i1) (.ref i2)
 res:∃u v,IsPair h q u v
 one:U3 t1 h i1 a k
 two:U3 t2 h i2 b k
def CV{H G:Bool}{z p q f e a b:Ub}{k:Nat}{xs ys:Array Ua}{x y:Ua}{Q:Ua->Ae->Prop}(D:My z p q f e a b)(S:ZSt H G s.heap z p q f e a b k .none)(s1:QR H s.heap a xs)(Z:QR G s.heap b ys)(hx:xs[k]?=b3 x)(hy:ys[k]?=b3 y)(hQ:∀h',ZSt H G h' z p q f e a b (k+1) (rawInt s.heap.objs.size)->IsPair h' s.heap.objs.size x y->h'.objs.size=s.heap.objs.size+1->(∀c o,c≠z->c≠q->c≠f->c≠e->s.heap.get? c=b3 o->h'.get? c=b3 o)->Q (.ref s.heap.objs.size) {s with heap:=h'}):Ud (Uf prog w) A (Fu.«zip.__next__» ⟨[.ref z],[]⟩) (λN s'=>∃v,N=.done (.ret v)/\Q v s') E s:=by
 obtain⟨t,X,⟨u,v,gr⟩,g1,g2⟩:=S;show Ud _ _ (field (Bu z) 2>>=_) _ _ _;refine Ac (Eo t rfl (x:=.bool bb) rfl ?_);show Ud _ _ (field (Bu z) 3>>=_) _ _ _;refine Ac (Eo t rfl (x:=.ref p) rfl (Ac (Fh X rfl ?_)));show Ud _ _ (Dy (Bu z)>>=_) _ _ _;refine Ac ?_
 (unfold Dy)
 refine Ac (Eo t rfl (x:=.none) rfl (Ai ?_));simp only[if_true];refine Ac (Hz (Ac (Eo t rfl (x:=.ref q) rfl (Ac (Fs t (by simp) λha L i=>Ac ?_)))));have L:IsZip ha z p q .ellipsis:=L;simp only[Rj,Qm,Nj,Jt];refine Ac (Ac (Lo ?_));show Ud _ _ (Bz (Bu f)>>=_) _ _ _;refine Ac (SM (g1.ext i.extBut D.i1z) (s1.ext i.extBut D.l1z) hx λhb n1 l=>Ai ?_);have V:IsPair hb q u v:=l.extBut _ _ D.TOi1 (i.extBut _ _ D.TOz gr);refine Ac (Fh V rfl (Ac (Iz V λhc M j=>Ac (Nu (Ai ?_)))));have M:IsPair hc q x v:=M;refine Ac (Ac (Lo ?_));show Ud _ _ (Bz (Bu e)>>=_) _ _ _;refine Ac (SM (((g2.ext i.extBut D.i2z).ext l.extBut D.i12.symm).ext j.extBut D.TOi2.symm) (((Z.ext i.extBut D.l2z).ext l.extBut D.l2i1).ext j.extBut D.l2TO) hy λhd n2 C=>Ai ?_);have U:IsPair hd q x v:=C.extBut _ _ D.TOi2 M;refine Ac (Fh U rfl (Ac (Iz U λd I B=>Ac (Nu (Ai (Ai ?_))))));have I:IsPair d q x y:=I;refine Ac (Fh I rfl (Ac (wpAny_newTuple ?_)));have size:d.objs.size=s.heap.objs.size:=by rw[B.1,C.1,j.1,l.1,i.1]
 have T:IsZip d z p q .ellipsis:=B.extBut _ _ D.TOz.symm (C.extBut _ _ D.i2z.symm (j.extBut _ _ D.TOz.symm (l.extBut _ _ D.i1z.symm L)));have W:∀c o,c≠z->c≠q->c≠f->c≠e->s.heap.get? c=b3 o->d.get? c=b3 o:=λc o h J P O g=>B.extBut _ _ J (C.extBut _ _ O (j.extBut _ _ J (l.extBut _ _ P (i.extBut _ _ h g))));have e1:U3 H d f a (k+1):=((n1.ext j.extBut D.TOi1.symm).ext C.extBut D.i12).ext B.extBut D.TOi1.symm;have e2:U3 G d e b (k+1):=n2.ext B.extBut D.TOi2.symm;have ie:IsPair d p (.ref f) (.ref e):=W _ _ D.TIz D.TITO D.TIi1 D.TIi2 X;have m:z<d.objs.size:=Ap T;show Ud _ _ (Ha (Bu z) (.ref d.objs.size)>>=_) _ _ _;refine Ac ?_
 (unfold Ha)
 have Y:IsZip (d.push {cls:=.type "tuple",data:=.seq #[x,y]}) z p q .ellipsis:=Ad _ T;refine Ac (Fs Y (by simp) λhg K R=>?_);have K:IsZip hg z p q (rawInt d.objs.size):=K;refine Fs K (by simp) λhk F bk=>?_;have F:IsZip hk z p q (rawInt d.objs.size):=F;have n:∀c o,c≠z->d.get? c=b3 o->hk.get? c=b3 o:=λc o h g=>bk.extBut _ _ h (R.extBut _ _ h (Ad _ g));have tk:IsPair hk d.objs.size x y:=bk.extBut _ _ (Hg m) (R.extBut _ _ (Hg m) (As _ rfl));have r:hk.objs.size=d.objs.size+1:=by rw[bk.1,R.1,Ei]
 rw[size]at F tk r;refine Ai ⟨_,rfl,?_⟩;show Q (.ref d.objs.size) _;rw[size];exact hQ hk ⟨F,n _ _ D.TIz ie,⟨x,y,n _ _ D.TOz I⟩,e1.at λo g=>n _ o D.i1z g,e2.at λo g=>n _ o D.i2z g⟩ tk r λc o h J P O g=>n c o h (W c o h J P O g)
def Zu{K J:Bool}{z p q t r a b:Ub}{k:Nat}{xs ys:Array Ua}{Q:Fin->Ae->Prop}(M:A.handled=b4)(D:My z p q t r a b)(S:ZSt K J s.heap z p q t r a b k .none)(s1:QR K s.heap a xs)(T:QR J s.heap b ys)(U:xs[k]?=b4∨ys[k]?=b4)(N:∀h' e,(∀c o,c≠z->c≠q->c≠t->c≠r->s.heap.get? c=b3 o->h'.get? c=b3 o)->(∃o,h'.get? e=b3 o/\o.cls=.type "StopIteration")->E (.ref e) {s with heap:=h'}):Ud (Uf prog w) A (Fu.«zip.__next__» ⟨[.ref z],[]⟩) Q E s:=by
 obtain⟨j,Z,⟨u,v,Y⟩,O,g2⟩:=S;show Ud _ _ (field (Bu z) 2>>=_) _ _ _;refine Ac (Eo j rfl (x:=.bool bb) rfl ?_);show Ud _ _ (field (Bu z) 3>>=_) _ _ _;refine Ac (Eo j rfl (x:=.ref p) rfl (Ac (Fh Z rfl ?_)));show Ud _ _ (Dy (Bu z)>>=_) _ _ _;refine Ac ?_
 (unfold Dy)
 refine Ac (Eo j rfl (x:=.none) rfl (Ai ?_));simp only[if_true];refine Ac (Hz (Ac (Eo j rfl (x:=.ref q) rfl (Ac (Fs j (by simp) λX n d=>Ac ?_)))));have n:IsZip X z p q .ellipsis:=n;simp only[Rj,Qm,Nj,Jt];refine Ac (Ac (Lo ?_));show Ud _ _ (Bz (Bu t)>>=_) _ _ _;cases C:xs[k]? with
 |none=>
  refine Ac (LR M (O.ext d.extBut D.i1z) (s1.ext d.extBut D.l1z) C λF e f ⟨y,h,l⟩=>?_);have I:IsZip F z p q .ellipsis:=f _ _ D.i1z.symm n;have B:e≠z:=λw=>by subst w;rw[I]at h;cases h;simp at l
  exact Fs I (by simp) λhc _ i=>N hc e (λc o m _ G _ g=>i.extBut _ _ m (f _ _ G (d.extBut _ _ m g))) ⟨y,i.extBut _ _ B h,l⟩
 |some x=>
  have V:ys[k]?=b4:=U.resolve_left λw=>by rw[C]at w;cases w
  refine Ac (SM (O.ext d.extBut D.i1z) (s1.ext d.extBut D.l1z) C λF n1 f=>Ai ?_);have L:IsPair F q u v:=f.extBut _ _ D.TOi1 (d.extBut _ _ D.TOz Y);refine Ac (Fh L rfl (Ac (Iz L λhc rc i=>Ac (Nu (Ai (Ac (Ac (Lo ?_))))))));show Ud _ _ (Bz (Bu r)>>=_) _ _ _;refine Ac (LR M (((g2.ext d.extBut D.i2z).ext f.extBut D.i12.symm).ext i.extBut D.TOi2.symm) (((T.ext d.extBut D.l2z).ext f.extBut D.l2i1).ext i.extBut D.l2TO) V λhd e R ⟨y,h,l⟩=>?_);have H:IsZip hd z p q .ellipsis:=R _ _ D.i2z.symm (i.extBut _ _ D.TOz.symm (f.extBut _ _ D.i1z.symm n));have B:e≠z:=λw=>by subst w;rw[H]at h;cases h;simp at l
  exact Fs H (by simp) λW _ P=>N W e (λc o m c2 G c4 g=>P.extBut _ _ m (R _ _ c4 (i.extBut _ _ c2 (f.extBut _ _ G (d.extBut _ _ m g))))) ⟨y,P.extBut _ _ B h,l⟩
def FL{g f:Bool}{z p q e d a b:Ub}{k:Nat}{xs ys:Array Ua}{x y:Ua}{Q:Option Ua->Ae->Prop}(D:My z p q e d a b)(S:ZSt g f s.heap z p q e d a b k .none)(s1:QR g s.heap a xs)(h:QR f s.heap b ys)(j:xs[k]?=b3 x)(i:ys[k]?=b3 y)(l:∀h',ZSt g f h' z p q e d a b (k+1) (rawInt s.heap.objs.size)->IsPair h' s.heap.objs.size x y->h'.objs.size=s.heap.objs.size+1->(∀c o,c≠z->c≠q->c≠e->c≠d->s.heap.get? c=b3 o->h'.get? c=b3 o)->Q (b3 (.ref s.heap.objs.size)) {s with heap:=h'}):Ud (Uf prog w) A (pyNext (.ref z)) Q E s:=by
 have ty:s.TypeIs (.ref z) "zip":=⟨_,S.zip,rfl⟩
 (unfold pyNext)
 exact Ac (Lp (Cw (name:=Be "__next__") ty Jx (Es Jx ty Qn (CV D S s1 h j i λh' r n m a4=>Ai (l h' r n m a4)) (Pn _))))
def BO{h g:Bool}{z p q f d a b:Ub}{k:Nat}{xs ys:Array Ua}{Q:Option Ua->Ae->Prop}(m:A.handled=b4)(D:My z p q f d a b)(S:ZSt h g s.heap z p q f d a b k .none)(s1:QR h s.heap a xs)(i:QR g s.heap b ys)(l:xs[k]?=b4∨ys[k]?=b4)(n:∀h',(∀c o,c≠z->c≠q->c≠f->c≠d->s.heap.get? c=b3 o->h'.get? c=b3 o)->Q b4 {s with heap:=h'}):Ud (Uf prog w) A (pyNext (.ref z)) Q E s:=by
 have ty:s.TypeIs (.ref z) "zip":=⟨_,S.zip,rfl⟩
 (unfold pyNext)
 refine Ac (Lp (Cw (name:=Be "__next__") ty Jx (Es Jx ty Qn (Zu m D S s1 i l λh' e j ⟨o,r,t⟩=>?_) (Pn _))));exact Ac (wpAny_isInstance (T:= "StopIteration") (b:=ba) ⟨o,r,t⟩ isSubtype_stop (Ai (n _ j)))
end
def kC(tup:Bool):String:=if tup=ba then "tuple_iterator" else "list_iterator"
noncomputable abbrev zO(tup:Bool)(a:Ub):Ul:={cls:=.type (kC tup),data:=.fields #[.ref a,.int 0 0]}
def Vt{prog:Aw}{w:Uj}{A:Cb}{E:Ua->Ae->Prop}{s:Ae}{tup:Bool}{a:Ub}{xs:Array Ua}{Q:Ua->Ae->Prop}(h:QR tup s.heap a xs)(b:Q (.ref s.heap.objs.size) {s with heap:=s.heap.push (zO tup a)}):Ud (Uf prog w) A (pyIter (.ref a)) Q E s:=by
 cases tup with
 |true=>exact Hl h b
 |false=>exact Gw h b
def QR.push{tup:Bool}{h:Uk}{a:Ub}{xs:Array Ua}(x:QR tup h a xs)(o:Ul):QR tup (h.push o) a xs:=by
 cases tup with
 |true=>obtain⟨o,e,r⟩:=x;exact⟨o,Ad _ e,r⟩
 |false=>obtain⟨o,e,r⟩:=x;exact⟨o,Ad _ e,r⟩
def kD(c e:Bool)(a b:Ub)(xs ys:Array Ua):Meets (Fu.«zip.__new__» ⟨[.type "zip",.ref a,.ref b],[]⟩) (λ_ R s=>QR c s.heap a xs/\QR e s.heap b ys/\∀h1 h2 i f k,h1=s.heap.push (zO c a)->h2=h1.push (zO e b)->i=h2.push {cls:=.type "tuple",data:=.seq #[.ref s.heap.objs.size,.ref h1.objs.size]}->f=i.push {cls:=.type "tuple",data:=.seq #[.none,.none]}->k=f.push {cls:=.type "zip",data:=.fields #[.none,.bool bb,.bool bb,.ref h2.objs.size,.ref i.objs.size]}->R (.ok (.ret (.ref f.objs.size))) {s with heap:=k}):=by
 refine .of_wp λprog w A R s h=>?_;obtain⟨j,g,d,tk,os⟩:=s;obtain⟨m,l,h⟩:=h;have n:=sub_zip;have k1:QR c (Ri ⟨j,g,d,tk,os⟩) a xs:=m;have k2:QR e (Ri ⟨j.push (zO c a),g,d,tk,os⟩) b ys:=QR.push l _;wp_walk using Vt k1,Vt k2
 exact⟨_,rfl,h _ _ _ _ _ rfl rfl rfl rfl rfl⟩
def AS{prog:Aw}{w:Uj}{A:Cb}{E:Ua->Ae->Prop}{s:Ae}{f e:Bool}{a b:Ub}{xs ys:Array Ua}{Q:Ua->Ae->Prop}(K:QR f s.heap a xs)(J:QR e s.heap b ys)(h:∀h',ZSt f e h' (s.heap.objs.size+4) (s.heap.objs.size+2) (s.heap.objs.size+3) s.heap.objs.size (s.heap.objs.size+1) a b 0 .none->(∀c o,s.heap.get? c=b3 o->h'.get? c=b3 o)->Q (.ref (s.heap.objs.size+4)) {s with heap:=h'}):Ud (Uf prog w) A (call (.type "zip") [.ref a,.ref b]) Q E s:=by
 refine callType_new F.called_zip (by decide) (F.typeCall_zip_2 _ _) (F.newCall_zip_2 _ _) (λobj=>F.args_object_init_3 obj _ _) F.entry_zip_new (kD f e a b xs ys) ⟨K,J,?_⟩;rintro h1 h2 g n d u t r p H;have k:h1.objs.size=s.heap.objs.size+1:=by rw[u,Ei]
 have j:h2.objs.size=s.heap.objs.size+2:=by rw[t,Ei,k]
 have i:g.objs.size=s.heap.objs.size+3:=by rw[r,Ei,j]
 have v:n.objs.size=s.heap.objs.size+4:=by rw[p,Ei,i]
 have x:∀c o,n.get? c=b3 o->d.get? c=b3 o:=λc o q=>by rw[H];exact Ad _ q
 have y:∀c o,g.get? c=b3 o->d.get? c=b3 o:=λc o q=>x c o (by rw[p];exact Ad _ q);have z:∀c o,h2.get? c=b3 o->d.get? c=b3 o:=λc o q=>y c o (by rw[r];exact Ad _ q);have B:∀c o,h1.get? c=b3 o->d.get? c=b3 o:=λc o q=>z c o (by rw[t];exact Ad _ q);have I:∀c o,s.heap.get? c=b3 o->d.get? c=b3 o:=λc o q=>B c o (by rw[u];exact Ad _ q);have l:d.get? n.objs.size=b3 {cls:=.type "zip",data:=.fields #[.none,.bool bb,.bool bb,.ref h2.objs.size,.ref g.objs.size]}:=by rw[H];exact As _ rfl
 have C:d.get? g.objs.size=b3 {cls:=.type "tuple",data:=.seq #[.none,.none]}:=x _ _ (by rw[p];exact As _ rfl);have D:d.get? h2.objs.size=b3 {cls:=.type "tuple",data:=.seq #[.ref s.heap.objs.size,.ref h1.objs.size]}:=y _ _ (by rw[r];exact As _ rfl);have m:d.get? h1.objs.size=b3 (zO e b):=z _ _ (by rw[t];exact As _ rfl);have G:d.get? s.heap.objs.size=b3 (zO f a):=B _ _ (by rw[u];exact As _ rfl);show _/\_;rw[j,i,v]at l;rw[i]at C;rw[k,j]at D;rw[k]at m;rw[v];refine⟨⟨_,l,rfl⟩,h _ ⟨l,D,⟨_,_,C⟩,?_,?_⟩ I⟩
 ·cases f with
  |true=>exact⟨_,G,rfl,rfl⟩
  |false=>exact⟨_,G,rfl,rfl⟩
 ·cases e with
  |true=>exact⟨_,m,rfl,rfl⟩
  |false=>exact⟨_,m,rfl,rfl⟩
def ql(n a b:Nat)(d:a<n)(c:b<n):My (n+4) (n+2) (n+3) n (n+1) a b:=by
 have f:∀x y:Nat,x<y∨y<x->x≠y:=λx y h=>by lia
 exact⟨f _ _ (by lia),f _ _ (by lia),f _ _ (by lia),f _ _ (by lia),f _ _ (by lia),f _ _ (by lia),f _ _ (by lia),f _ _ (by lia),f _ _ (by lia),f _ _ (by lia),f _ _ (by lia),f _ _ (by lia),f _ _ (by lia),f _ _ (by lia),f _ _ (by lia),f _ _ (by lia),f _ _ (by lia),f _ _ (by lia)⟩
def Itz(K:Ah)(d c:Bool)(a b:Ub):It:=
  ⟨λi H=>∃xs ys x y,KR K d H a xs/\KR K c H b ys/\xs[i]?=b3 x/\ys[i]?=b3 y,λi H v H'=>∃p x y,(∀xs,KR K d H a xs->xs[i]?=b3 x)/\(∀ys,KR K c H b ys->ys[i]?=b3 y)/\H p=b4/\H'=upd H p (.tup [x,y])/\v=.ref p,λi H=>∃xs ys,KR K d H a xs/\KR K c H b ys/\(xs.length<=i∨ys.length<=i)⟩
def kJ{P:Aw}{w:Uj}{K:Ah}{es:List Uh}{k:Nat}{pos:Pos}(F C:Bool)(z p q l j a b:Ub)(D:My z p q l j a b):
  E2 P w K (.Tuple es k pos) (Itz K F C a b) [z,p,q,l,j] z (λi h=>ZSt F C h z p q l j a b i .none) where
 mem:=by simp
 obj:=λi h st c hc=>by
  simp only[Ak,Ax,or_false]at hc;rcases hc with rfl|rfl|rfl|rfl|rfl
  ·exact⟨_,st.zip,λv e=>by cases e⟩
  ·exact⟨_,st.its,λv e=>by cases e⟩
  ·obtain⟨u,v,g⟩:=st.res
   exact⟨_,g,λv e=>by cases e⟩
  ·exact st.one.obj
  ·exact st.two.obj
 keep:=λi h h' st t=>by obtain⟨u,v,g⟩:=st.res;exact⟨t z (by simp) _ st.zip,t p (by simp) _ st.its,⟨u,v,t q (by simp) _ g⟩,st.one.at λo e=>t l (by simp) o e,st.two.at λo e=>t j (by simp) o e⟩
 item:=by
  intro X O hw Q hc i aa s σ H E I A st M;subst O hw Q;obtain⟨xs,ys,x,y,n,m,V,U⟩:=M;obtain⟨T,L,S,_⟩:=I.srcA n;obtain⟨vs,J,R,_⟩:=I.srcA m;obtain⟨u,hu,ru⟩:=L.get V;obtain⟨v,hv,rv⟩:=J.get U;refine FL D st S R (by simpa using hu) (by simpa using hv) λh1 f hp hsz hk=>⟨_,rfl,?_⟩;refine wpAny_letOwnedTupleGo_zip (s:={s with heap:=h1}) f.zip λh2 W G=>?_;have G:Fp z h1 h2:=G;have lt:∀c∈[z,p,q,l,j],c<s.heap.objs.size:=λc hc=>by
   simp only[Ak,Ax,or_false]at hc;rcases hc with rfl|rfl|rfl|rfl|rfl
   ·exact Ap st.zip
   ·exact Ap st.its
   ·obtain⟨u,v,g⟩:=st.res
    exact Ap g
   ·obtain⟨o,e,_⟩:=st.one.obj
    exact Ap e
   ·obtain⟨o,e,_⟩:=st.two.obj
    exact Ap e
  have r:∀c o,c≠z->h1.get? c=b3 o->h2.get? c=b3 o:=λc o N e=>(G.2 c N).trans e;have d:ZSt F C h2 z p q l j a b (i+1) .none:=by obtain⟨Z,Y,g⟩:=f.res;exact⟨W,r _ _ D.TIz f.its,⟨Z,Y,r _ _ D.TOz g⟩,f.one.at λo e=>r _ o D.i1z e,f.two.at λo e=>r _ o D.i2z e⟩
  have g9:h2.get? s.heap.objs.size=b3 {cls:=.type "tuple",data:=.seq #[u,v]}:=r _ _ (Hg (lt z (by simp))) hp;have bu:H s.heap.objs.size=b4:=I.hok.fresh (Aq _);have I0:cM X aa σ (upd H s.heap.objs.size (.tup [x,y])) {s with heap:=s.heap.push {cls:=.type "tuple",data:=.seq #[u,v]},toks:=s.toks}:=
   I.laid (λc o e=>Ad _ e) (Aq _) ⟨by show 2<=sizeLine;decide,[u,v],.cons ru (.cons rv .nil),Jp _ _⟩
  have I1:cM X aa σ (upd H s.heap.objs.size (.tup [x,y])) {s with heap:=h2,toks:=s.toks}:=by
   refine cM.turnedL (s:={s with heap:=s.heap.push {cls:=.type "tuple",data:=.seq #[u,v]},toks:=s.toks}) (h':=h2) (t':=s.toks) (fp:=[z,p,q,l,j]) I0 (λc o hc e=>?_) (λc hc=>?_) λc hc=>⟨by rw[cB (Bb (lt c hc))];exact(A c hc).1,(A c hc).2⟩
   ·by_cases B:c=s.heap.objs.size
    ·subst B
     have e:(s.heap.push {cls:=.type "tuple",data:=.seq #[u,v]}).get? s.heap.objs.size=b3 o:=e;rw[As _ rfl]at e;cases e;exact g9
    ·have e':=(Ig _ _ _ B).symm.trans e
     exact r c o (λw=>hc (by simp[w])) (hk c o (λw=>hc (by simp[w])) (λw=>hc (by simp[w])) (λw=>hc (by simp[w])) (λw=>hc (by simp[w])) e')
   ·simp only[Ak,Ax,or_false]at hc
    rcases hc with rfl|rfl|rfl|rfl|rfl
    ·exact⟨_,d.zip⟩
    ·exact⟨_,d.its⟩
    ·obtain⟨u,v,g⟩:=d.res
     exact⟨_,g⟩
    ·obtain⟨o,e,_⟩:=d.one.obj
     exact⟨o,e⟩
    ·obtain⟨o,e,_⟩:=d.two.obj
     exact⟨o,e⟩
  exact⟨.ref s.heap.objs.size,_,I1,rfl,⟨_,x,y,λzs hz=>by rw[I.sq_inj hz n];exact V,λzs hz=>by rw[I.sq_inj hz m];exact U,bu,rfl,rfl⟩,d,λc hc=>by rw[cB (Bb (lt c hc))];exact(A c hc).1⟩
 done:=by
  intro X O hw Q hc i aa s σ H E I A st M;subst O hw Q;obtain⟨xs,ys,n,m,i4⟩:=M;obtain⟨T,L,S,_⟩:=I.srcA n;obtain⟨vs,J,R,_⟩:=I.srcA m;have l1:=L.length;have l2:=J.length;have he:T.toArray[i]?=b4∨vs.toArray[i]?=b4:=by
   rcases i4 with z|z
   ·exact .inl (by simp;lia)
   ·exact .inr (by simp;lia)
  refine BO (I.ok.hd hc) D st S R he λh1 hk=>⟨rfl,?_⟩;have fq:∀c∈[z,q,l,j],c∈[z,p,q,l,j]:=λc hc=>by simp only[Ak,Ax,or_false]at hc⊢;rcases hc with w|w|w|w<;>simp[w]
  have I':=cM.turnedL' (s:=s) (h':=h1) (t':=s.toks) (fp:=[z,q,l,j]) I (λc o hc e=>hk c o (λw=>hc (by simp[w])) (λw=>hc (by simp[w])) (λw=>hc (by simp[w])) (λw=>hc (by simp[w])) e) λc hc=>A c (fq c hc);exact I'
 self:=λ_ i _ _ _ st h=>wpAny_pyIter_zip st.zip h
section
variable{X:Cx}{K:Ah}{ml:List Nat}{l m:Uh}{pa ta ia pb tb ib:Bool}{f g:VF}{p pos du:Pos}{es:List Uh}{tk:Nat}{δ:Ev}
def iZp(K:Ah)(tl e:TE):TI:=λσ H R=>tl σ H λx H1=>e σ H1 λy H2=>∃a b d c,x=.ref a/\y=.ref b/\(∃xs,KR K d H2 a xs)/\(∃ys,KR K c H2 b ys)/\R (Itz K d c a b) H2
def qH{tl q:TE}(G:Gl X "zip")(F:X.mg "zip"=b4)(hl:PE X l tl)(E:PE X m q)(r:SE X l [m]:=by rfl)(o:SE X m []:=by rfl)(n:(Fa pos (Uc [m] X.env)).any (·.1)=bb:=by rfl):PI X (.Tuple es tk du) (.Call (.Name "zip" p) [l,m] [] pos) (iZp X.K tl q):=by
 intro aa s σ H R I h;refine Fd (SJ I G F pL ?_ (by decide) (by decide));refine El (ZT (b8 hl (b8 E aH o) r pos aa s σ H (λvs H1=>match vs with
  |[x,y]=>∃a b e d,x=.ref a/\y=.ref b/\(∃xs,KR X.K e H1 a xs)/\(∃ys,KR X.K d H1 b ys)/\R (Itz X.K e d a b) H1
  |_=>False) I h) λA s1 ⟨vs,H1,g,i,q1⟩=>?_) r n
 match vs,i,q1 with
 |[x,y],i,q1=>
  obtain⟨a,b,e,d,rfl,rfl,⟨xs,k⟩,⟨ys,j⟩,M⟩:=q1;obtain⟨u,v,rfl,C,B⟩:=IV i;cases C;cases B;obtain⟨A,P,z,_⟩:=g.srcA k;obtain⟨vs,O,t,_⟩:=g.srcA j;refine AS z t λh' st kp=>?_;have N:cM X aa σ H1 {s1 with heap:=h'}:=g.kept (t':=s1.toks) kp;have L:=z.lt;have J:=t.lt;have D:My (s1.heap.objs.size+4) (s1.heap.objs.size+2) (s1.heap.objs.size+3) s1.heap.objs.size (s1.heap.objs.size+1) a b:=by exact ql _ a b L J
  refine wpAny_pyIter_zip st.zip ⟨s1.heap.objs.size+4,[s1.heap.objs.size+4,s1.heap.objs.size+2,s1.heap.objs.size+3,s1.heap.objs.size,s1.heap.objs.size+1],_,Itz X.K e d a b,H1,rfl,N,kJ e d _ _ _ _ _ a b D,st,λc hc=>?_,M⟩;have f:s1.heap.objs.size<=c:=by simp only[Ak,Ax,or_false]at hc;rcases hc with w|w|w|w|w<;>rw[w]<;>first|exact Iu _ _|exact Aq _
  exact g.fpOk f (g.hok.fresh f)
def pK(h:X.K=K){tl c:TE}(f:Gl X "zip")(e:X.mg "zip"=b4)(hl:PE X l tl)(d:PE X m c)(g:SE X l [m]:=by rfl)(b:SE X m []:=by rfl)(a:(Fa pos (Uc [m] X.env)).any (·.1)=bb:=by rfl):PI X (.Tuple es tk du) (.Call (.Name "zip" p) [l,m] [] pos) (iZp K tl c):=by subst h;exact qH f e hl d g b a
noncomputable def TJ:List c6->List c6->List c6
 |d::ds,e::es=>.tup [d,e]::TJ ds es
 |_,_=>[]
def iZip(f g:VF):VI:=λδ=>(f δ).bind λp=>(g p.2).bind λq=>(XO p.1).bind λds=>(XO q.1).map λes=>(TJ ds es,q.2)
theorem JD:∀{ds es:List c6}{i:Nat}{d:c6},(TJ ds es)[i]?=b3 d->∃x y,ds[i]?=b3 x/\es[i]?=b3 y/\d=.tup [x,y]
 |[],_,_,_,h=>by simp[TJ]at h
 |_::_,[],_,_,h=>by simp[TJ]at h
 |x::ds,y::es,0,d,h=>by simp[TJ]at h;exact⟨x,y,rfl,rfl,h.symm⟩
 |x::ds,y::es,i+1,d,h=>by obtain⟨b,a,h1,h2,c⟩:=JD (ds:=ds) (es:=es) (i:=i) (d:=d) (by simpa[TJ]using h);exact⟨b,a,by simpa using h1,by simpa using h2,c⟩
theorem JE:∀{ds es:List c6},ds.length<=(TJ ds es).length∨es.length<=(TJ ds es).length
 |[],_=>.inl (Ep _)
 |_::_,[]=>.inr (Ep _)
 |x::ds,y::es=>by
  rcases JE (ds:=ds) (es:=es)with h|h
  ·exact .inl (Qo h)
  ·exact .inr (Qo h)
def dG:c6->Bool
 |.tup _=>ba
 |_=>bb
def bV.sqA{N M:Ub->Prop}{H:Hp}{v:V}{d:c6}{ds:List c6}(h:bV K N H M v d)(e:XO d=b3 ds):∃a tup xs,v=.ref a/\KR K tup H a xs/\cG K N H xs ds/\tup=dG d:=by
  cases d<;>first
    | (cases e
       obtain⟨a,xs,h1,h2,b⟩:=h.tupE;exact⟨a,ba,xs,h1,h2,b,rfl⟩)
    | (cases e
       obtain⟨a,xs,h1,h2,b⟩:=h.lstE;exact⟨a,bb,xs,h1,h2,b,rfl⟩)
    |cases e
def lV(hK:X.K=K)(hg:Gl X "zip")(hm:X.mg "zip"=b4)(h:PE X l (TV K ml pa ba ba f))(h':PE X m (TV K ml pb ba ba g))(he:SE X l [m]:=by rfl)(E:SE X m []:=by rfl)
  (C:(Fa pos (Uc [m] X.env)).any (·.1)=bb:=by rfl):PI X (.Tuple es tk du) (.Call (.Name "zip" p) [l,m] [] pos) (TIV K ml (pa&&pb) (iZip f g)):=(pK (K:=K) hK hg hm h h' he E C).imp λσ H R A=>by
 obtain⟨B,O,δ,ds,δ2,S,q,k⟩:=A;unfold iZip at q;obtain⟨⟨x,δ1⟩,h1,q⟩:=Aa.mp q;cases h2:g δ1 with
 |none=>simp[h2]at q
 |some p2=>
  obtain⟨y,r⟩:=p2;simp only[Ar,h2]at q;obtain⟨xs,Q,q⟩:=Aa.mp q;have q:(XO y).map (λes=>(TJ xs es,r))=b3 (ds,δ2):=q;obtain⟨ys,P,q⟩:=Ao.mp q;cases q;refine⟨B,O,δ,x,δ1,S,h1,λt H1 o=>⟨B,O,δ1,y,_,o.sta,h2,λs H2 R2=>?_⟩⟩;have M:=o.rep.fr R2.frm (λa z=>.inr z) λa z=>.inr z;obtain⟨a,L,us,W,q1,w1,I⟩:=M.sqA Q;obtain⟨b,J,vs,V,q2,w2,G⟩:=R2.rep.sqA P;refine⟨a,b,L,J,W,V,⟨us,q1⟩,⟨vs,q2⟩,k _ [(t,x),(s,y)] H2 (R2.sta.keepV λz hz=>?_) (o.frm.trans R2.frm) (λz=>?_) ?_⟩
  ·simp only[Ak,Ax,or_false]at hz
   rcases hz with rfl|rfl
   ·exact M
   ·exact R2.rep
  ·obtain⟨z1,z2⟩:=(Af _ _).mp z
   exact(o.pur z1).trans (R2.pur z2)
  ·intro N H h
   obtain⟨a',v,j,f1,f2,f3,f4⟩:=(h (t,x) (by simp)).sqA Q;obtain⟨b',u,c,n,F,T,g4⟩:=(h (s,y) (by simp)).sqA P;have f1:t=.ref a':=f1;have n:s=.ref b':=n;rw[W]at f1;rw[V]at n;cases f1;cases n;have:v=L:=f4.trans I.symm
   subst this;have:u=J:=g4.trans G.symm
   subst this;refine⟨λi d e=>?_,j,c,f2,F,?_⟩
   ·obtain⟨dx,dy,hx,hy,rfl⟩:=JD e
    obtain⟨ux,ex,rx⟩:=f3.get hx;obtain⟨uy,U,ry⟩:=T.get hy;refine⟨⟨j,c,ux,uy,f2,F,ex,U⟩,λz H' hz=>?_⟩;obtain⟨pp,x',y',c1,c2,D,rfl,rfl⟩:=hz;have Z:=c1 j f2;have Y:=c2 c F;rw[ex]at Z;rw[U]at Y;cases Z;cases Y;exact⟨cW D,.tup (WS.of cH) (.cons (rx.same (cW D)) (.cons (ry.same (cW D)) .nil))⟩
   ·rcases JE (ds:=xs) (es:=ys)with w|w
    ·exact .inl (by rw[f3.length];exact w)
    ·exact .inr (by rw[T.length];exact w)
end
end L2
namespace L2
open PySem PySem.Spec PyProof.Rows PySem.W
section
variable{prog:Aw}{w:Uj}{A:Cb}{E:Ua->Ae->Prop}{s:Ae}
def GA{t:Ub}{items:Array Ua}{Q:List Ua->Ae->Prop}(n:A.handled=b4)(f:IsTup s.heap t items)(h1:1<=items.size)(hz:items.size<=16777216)(p:∀(x:Ua) (c:Uk) (tk:Nat),items[0]?=b3 x->(∀b o,s.heap.get? b=b3 o->c.get? b=b3 o)->Q [x,.ref c.objs.size] {s with heap:=c.push {cls:=.type "list",data:=.seq (items.toList.drop 1).toArray},toks:=tk}):Ud (Uf prog w) A (Jo (.ref t) 2 (b3 1)) Q E s:=by
 have a:t≠s.heap.objs.size:=by obtain⟨o,e,_⟩:=f;exact Bb (Ap e)
 (unfold Jo)
 refine Ac ?_
 (unfold notIterableAtAll)
 refine Ac (wpAny_specialOf f.typeIs slot_tuple_iter.lookup (Ai ?_));simp only[De,if_false];refine Ac (Br (iter_tuple f (Ac (Br (draw_tuple a 1 0 _ _ ⟨_,As _ rfl,rfl,rfl⟩ (f.push _) (by lia) λg ia h=>?_)))));have ta:IsTup g t items:=(f.push _).extBut h.extBut a;have ia:g.IsTupleIter s.heap.objs.size t 1:=ia;obtain⟨G,v,_⟩:=id ia;obtain⟨F,q,_⟩:=id ta;have hsz:g.objs.size=s.heap.objs.size+1:=by rw[h.1,Ei]
 have l:((items.toList.drop 0).take 1).length=1:=by simp;lia
 rw[if_neg (show¬((items.toList.drop 0).take 1).length<1 by rw[l];exact Ck _)];refine Ac (Br (kun_collect (s:={s with heap:=g}) (T:= "tuple_iterator") (.inr (.inr (.inr rfl))) (Walks.tuple (A:=A.in1) n s.heap.objs.size t a items) (λj u st=>st.1.typeIs) (k:=1) h1 ⟨ia,ta⟩ (Ap v) (Ap q) (λc tk m=>?_) (by rw[Ce];exact hz)));have D:(items.toList.drop 1).length=items.size-1:=by simp
 show Ud _ _ (if(items.toList.drop 1).length<2-1-1 then _ else _) _ _ _;rw[if_neg (Mt _)];show Ud _ _ (newList ((items.toList.drop 1).take ((items.toList.drop 1).length-(2-1-1)))>>=λd=>pure ((items.toList.drop 0).take 1++[d]++(items.toList.drop 1).drop ((items.toList.drop 1).length-(2-1-1)))) _ _ _;have C:(items.toList.drop 1).take ((items.toList.drop 1).length-(2-1-1))=items.toList.drop 1:=Cn (Aq _);have B:(items.toList.drop 1).drop ((items.toList.drop 1).length-(2-1-1))=[]:=Hc;rw[C,B];refine Ac (Dq (Ai ?_) (by show _<=sizeLine;rw[Ce];simp;lia));obtain⟨x,i⟩:∃x,items[0]?=b3 x:=⟨items[0],by simp[show 0<items.size by lia]⟩;have z:(items.toList.drop 0).take 1=[x]:=by
  rw[Ni];have:items.toList[0]?=b3 x:=by simpa using i
  cases hl:items.toList with
  |nil=>rw[hl]at this;cases this
  |cons y r=>rw[hl]at this;cases this;rfl
 rw[z];have keep:∀b o,s.heap.get? b=b3 o->c.get? b=b3 o:=λb o e=>m b o (Bb (Ap e)) (h.extBut b o (Bb (Ap e)) (Ad _ e));exact p x c tk i keep
end
section
variable{X:Cx}{K:Ah}{ml:List Nat}{e a b c:Uh}{es:List Uh}{pa ta ia pb tb ib pc tc ic pu bt bi ps bs:Bool}{fa fb fc f:VF}{B B':Bs}{O:Nat->Option Ub}{H H0 H1 H':Hp}{σ:St}{δ δ':Ev}{v:V}{d:c6}{p:Ub}{pos:Pos}
def jZ(K:Ah)(i j:Nat):TG:=λv σ H Q=>∃a x xs,v=.ref a/\WS K H a (x::xs)/\∀p,H p=b4->Q ((σ.set i (b3 x)).set j (b3 (.ref p))) (upd H p (.lst xs))
def nB{i j:Nat}{x y:Ue}{d c ps p:Pos}{k:Nat}(hc:X.calm=ba)(n:X.N.Nodup)(hi:X.N[i]?=b3 x)(E:X.N[j]?=b3 y)(A:AB X.env.scope x)(t:AB X.env.scope y)(fx:X.fn x=ba∨X.env.scope.names.lookup x=b3 .local)(F:X.fn y=ba∨X.env.scope.names.lookup y=b3 .local)(hl:(Ui [.Name x d,.Starred (.Name y c) ps] X.env).map (·.2)=[assign (.Name x d) X.env,assign (.Name y c) X.env])(D:(Ui [.Name x d,.Starred (.Name y c) ps] X.env).length=2)(g:(Ui [.Name x d,.Starred (.Name y c) ps] X.env).findIdx? (·.1)=b3 1):PG X (.Tuple [.Name x d,.Starred (.Name y c) ps] k p) (jZ X.K i j):=by
 intro aa s σ H v u Q I r hw;obtain⟨a,z,zs,G,C,q⟩:=hw;subst G;cases r;obtain⟨its,m,B,hz⟩:=I.tuple C;rw[assign_Tuple];refine Ac (Gg ?_)
 (unfold unpack)
 rw[D,g];have l:=m.length;rw[Bw]at l;have e:its.length<=16777216:=by rw[<-Ce,<-l];exact hz
 refine Ac (Br (GA (I.ok.hd hc) B (by rw[Aj];lia) (by rw[Aj];exact e) λu h tk f kp=>?_));rw[hl];cases m with
 | @cons _ w _ O rz b=>
  have f:b3 w=b3 u:=by simpa using f
  cases f;have o:cM X aa σ H {s with heap:=h,toks:=tk}:=I.kept kp;have M:=cM.lnew (s:={s with heap:=h,toks:=tk}) (t':=tk) o b (by rw[Ce];simp only[Bw]at e l;have:=b.length;lia);refine Ej (Hx (Y4 M n hi A rz (λR L=>?_) fx));refine Ej (Hx (Y4 L n E t (v:=.ref h.objs.size) rfl (λP J=>Hy ⟨_,_,J,q _ (o.hok.fresh (Aq _))⟩) F))
noncomputable def IE(i j:Nat)(f:VF):VS:=λδ=>(f δ).bind λp=>match p.1 with
 |.tup (d::ds)=>b3 (.nx ((p.2.set i (.va d)).set j (.va (.lst ds))))
 |_=>b4
def lR{i j:Nat}{x y:Ue}{g b sp h:Pos}{k:Nat}(Q:X.K=K)(hc:X.calm=ba)(P:X.N.Nodup)(hi:X.N[i]?=b3 x)(J:X.N[j]?=b3 y)(L:i≠j)(F:AB X.env.scope x)(E:AB X.env.scope y)(M:PE X e (TV K ml pu ba ba f))(t:i∉ml:=by decide)(s:j∉ml:=by decide)(fx:LO X x:=by first|exact .inl rfl|exact .inr rfl|assumption)(T:LO X y:=by first|exact .inl rfl|exact .inr rfl|assumption)(hl:(Ui [.Name x g,.Starred (.Name y b) sp] X.env).map (·.2)=[assign (.Name x g) X.env,assign (.Name y b) X.env]:=by rfl)(I:(Ui [.Name x g,.Starred (.Name y b) sp] X.env).length=2:=by rfl)(m:(Ui [.Name x g,.Starred (.Name y b) sp] X.env).findIdx? (·.1)=b3 1:=by rfl)(G:Ex [.Tuple [.Name x g,.Starred (.Name y b) sp] k h] e pos.line X.env=pure bb:=by rfl)(hw:Ey [.Tuple [.Name x g,.Starred (.Name y b) sp] k h] e X.env=pure b4:=by rfl)(h1:(Ui [.Tuple [.Name x g,.Starred (.Name y b) sp] k h] X.env).map (·.2)=[assign (.Tuple [.Name x g,.Starred (.Name y b) sp] k h) X.env]:=by rfl):PS X (.Assign [.Tuple [.Name x g,.Starred (.Name y b) sp] k h] e pos) (WO K ml (IE i j f)):=by
 subst Q;refine(QI M (nB hc P hi J F E fx T hl I m) G hw h1).imp λD σ H n=>?_;obtain⟨B,O,δ,o,S,q,k⟩:=n;unfold IE at q;obtain⟨⟨z,δ1⟩,h1,q⟩:=Aa.mp q;refine⟨B,O,δ,z,δ1,S,h1,λv H1 R=>?_⟩;cases z with
 |tup ds=>
  cases ds with
  |nil=>cases q
  |cons d ds=>
   cases q;obtain⟨a,xs,rfl,sq,r⟩:=R.rep.tupE;cases r with
   | @cons w vs _ _ C A=>
    refine⟨a,w,vs,rfl,sq,λp l=>?_⟩;have U:=(R.sta.same (cW (o:=.lst vs) l)).setVa t (C.same (cW (o:=.lst vs) l));have u:∀c,Nn B (λj=>if j=i then b4 else O j) c->Nn B O c:=PP (o:=b4);refine k _ _ _ (U.setVa s (.lst cH (λz=>R.sta.new l (u _ z)) ((A.same (cW l)).mono u)))
 |_=>cases q
end
end L2
namespace L2
open PySem PySem.Spec PyProof.Rows
section
variable{X:Cx}{K:Ah}{ml:List Nat}{e a b c:Uh}{es:List Uh}{pa ta ia pb tb ib pc tc ic pu bt bi ps bs:Bool}{fa fb fc f:VF}{B B':Bs}{O:Nat->Option Ub}{H H0 H1 H':Hp}{σ:St}{δ δ':Ev}{v:V}{d:c6}{p:Ub}{pos:Pos}
def rInD(K:Ah)(neg:Bool):R2:=λx y H Q=>∃d e ds,Dp K H x d/\Dp K H y e/\(e=.list ds∨e=.tuple ds)/\Fb d=ba/\Fb e=ba/\Q (.bl (if neg then !ds.any (λz=>Jg z d)else ds.any λz=>Jg z d)) H
def RH{d:Nh}(h:Fb d=ba):d.canLay0=ba/\d.depth<=64:=by unfold Fb at h;simp only[Af,decide_eq_true_eq]at h;exact h
def Wa(neg:Bool)(p:X.A.units+64<cLine):XJ X (Ct (if neg then .NotIn else .In)) (rInD X.K neg):=by
 intro aa s σ H x y v u Q I m l h;obtain⟨d,e,ds,hd,o,hk,j,i,q⟩:=h;obtain⟨as,h1⟩:=I.reads hd m;obtain⟨bs,h2⟩:=I.reads o l;obtain⟨c,r⟩:=RH j;obtain⟨g,f⟩:=RH i;have a:∀k,(k=if neg then !ds.any (λz=>Jg z d)else ds.any λz=>Jg z d)->EP X aa σ Q (.bool k) s:=λk hk=>by subst hk;exact⟨.bl _,H,I,rfl,q⟩
 rcases hk with rfl|rfl
 ·have hc : Ii ds = ba := by simpa [Gm]using g
  have n:Fl ds<=63:=by simp only[Ip]at f;lia
  have b:X.A.units+1+min (Fl ds) d.depth<cLine:=by have:=Rk (Fl ds) d.depth;lia
  cases neg with
  |false=>exact SeqAt.in_list_reads h2 h1 hc c b (a _ rfl)
  |true=>exact SeqAt.notIn_list_reads h2 h1 hc c b (a _ rfl)
 ·have hc : Ii ds = ba := by simpa [Gm]using g
  have n:Fl ds<=63:=by simp only[Ip]at f;lia
  have b:X.A.units+1+min (Fl ds) d.depth<cLine:=by have:=Rk (Fl ds) d.depth;lia
  cases neg with
  |false=>exact SeqAt.in_tuple_reads h2 h1 hc c b (a _ rfl)
  |true=>exact SeqAt.notIn_tuple_reads h2 h1 hc c b (a _ rfl)
def SH(a:X.A.units+64<cLine)(h:X.K=K:=by rfl):XJ X (Ct .In) (rInD K bb):=by subst h;exact Wa bb a
def Q4(a:X.A.units+64<cLine)(h:X.K=K:=by rfl):XJ X (Ct .NotIn) (rInD K ba):=by subst h;exact Wa ba a
def LG(d:c6)(ds:List c6):Bool:=(pds ds).any λz=>Jg z d.pd
def Z2(neg:Bool)(d e:c6):Option c6:=(XO e).bind λds=>if(LS d&&LS e)=ba then b3 (.bl (if neg then !LG d ds else LG d ds))else b4
def YR{neg:Bool}:QP K (rInD K neg) (Z2 neg):=by
 intro H N N' M M' x y d e c Q g f h k;unfold Z2 at h;obtain⟨ds,b,h⟩:=Aa.mp h;have h:(if(LS d&&LS e)=ba then b3 (c6.bl (if neg then !LG d ds else LG d ds))else b4)=b3 c:=h;split at h
 ·rename_i a
  cases h;simp only[LS,Af]at a;refine⟨d.pd,e.pd,pds ds,g.dp a.1.1,f.dp a.2.1,?_,a.1.2,a.2.2,k _ λ_ _ _=>.bl _⟩;cases e<;>first
   |(cases b;exact .inr rfl)
   |(cases b;exact .inl rfl)
   |cases b
 ·cases h
def pN(K:Ah)(td ty:TE):TE:=λσ H Q=>td σ H λx H1=>∃a,x=.ref a/\((IsD H1 a/\ty σ H1 λy H2=>∃o,PX H2 a y o/\Q (o.getD .non) H2)∨∃D,KTab K a D/\ty σ H1 λy H2=>∃k,y=.str k/\Q ((Fw k D).getD .non) H2)
def mW{ao ae:Pos}{td ty:TE}(E:X.A.units+1<cLine)(F:PE X a td)(n:PE X e ty)(m:M1 X a "get" ao e ae):PE X (.Call (.Attribute a "get" ao) [e] [] ae) (pN X.K td ty):=by
 intro aa s σ H Q I h;refine Pf m.base m.few m.line Ln Ec Mq (ZT (F aa s σ H _ I h) λu s1 ⟨x,H1,d,w,l,ex,q1⟩=>?_);subst ex;obtain rfl:u=Bu l:=w;rcases q1 with⟨hd,q1⟩|⟨D,T,q1⟩
 ·obtain⟨v,r,_⟩:=Xl d hd
  refine⟨v,r,?_⟩;rw[m.trees];refine Go rfl (Fy (Gq (ZT (n aa s1 σ H1 _ d q1) λB f ⟨y,H2,c,i,S,g,q2⟩=>Ia ?_)));exact oZ E c g i λO P N j=>⟨_,H2,N,j,q2⟩
 ·obtain⟨z,o,R,U,hk,hex,V,_⟩:=id T
  refine⟨⟨o,d.kIn _ _ hk,hex.1⟩,λb q=>?_,?_⟩
  ·cases q
   exact⟨o,d.kIn _ _ hk,hex.2.1⟩
  rw[m.trees];refine Go rfl (Fy (Gq (ZT (n aa s1 σ H1 _ d q1) λB f ⟨y,H2,c,i,k,M,q2⟩=>Ia ?_)));subst M;obtain⟨t,rfl⟩:=i;have L:f.TypeIs (.ref l) "dict":=⟨o,c.kIn _ _ hk,hex.1⟩;refine Es Ec L Fm ?_ (Hr _ _);show Ud _ _ (dictGet l (.str k t)>>=_) _ _ f;refine Ac (G6 c.kIn T (λd' p J C=>Ai ⟨p,rfl,?_⟩) λG=>?_)
  ·rw[J]at q2
   exact⟨d',H2,c.tok _,C,q2⟩
  ·rw[G]at q2
   show Ud _ _ (Nv l (.str k t)>>=_) _ _ _;unfold Nv;rw[if_neg (by rw[z];exact Ek)];exact Ac (Ai (Ai ⟨.none,rfl,.non,H2,c.tok _,rfl,q2⟩))
def Yk:c6->c6->Option c6
 |.dct ks ds,.str x=>b3 ((bF ks ds (.inr x)).getD .non)
 |_,_=>b4
def oP{ao ae:Pos}(P:X.K=K)(J:X.A.units+1<cLine)(N:PE X a (TV K ml pa ta ia fa))(M:PE X b (TV K ml pb tb ib fb))(m:M1 X a "get" ao b ae)(f:(pb || (ta&&ia))=ba:=by rfl):PE X (.Call (.Attribute a "get" ao) [b] [] ae) (TV K ml (pa&&pb) ia ia (f2 Yk fa fb)):=by
 subst P;refine(mW J N M m).imp λσ H Q u=>?_;obtain⟨B,O,δ,d,δ2,S,q,k⟩:=u;obtain⟨x,δ1,y,h1,h2,C⟩:=RY q;refine⟨B,O,δ,x,δ1,S,h1,λR H1 j=>?_⟩;have i:∀p H2 (R2:Res X.K ml B O H1 σ pb tb ib H2 δ2 p y) o,bV X.K (av B O ia) H2 (av B O ia) o d->Q o H2:=λp H2 R2 o L=>k o H2 ⟨R2.sta,j.frm.trans R2.frm,λz=>by obtain⟨h,g⟩:=(Af _ _).mp z;exact(j.pur h).trans (R2.pur g),L.mono (λ_ z=>z) Xs⟩
 cases x with
 |dct ks ds=>
  cases y with
  |str z=>
   cases C;have I:=j.rep;cases I.onD with
   | @dct l kvs t n r F=>
    subst F;refine⟨l,rfl,.inl ⟨.inl ⟨_,Rd.of t⟩,B,O,δ1,_,δ2,j.sta,h2,λp H2 R2=>?_⟩⟩;have s:=R2.rep;cases s.onS;have G:H2 l=b3 (.dK kvs)/\cG X.K (av B O ia) H2 (kvs.map Er) ds:=by
     cases pb with
     |true=>exact⟨R2.pur rfl _ _ t,r.same (R2.pur rfl)⟩
     |false=>
      have f:(ta&&ia)=ba:=by simpa using f
      obtain⟨h,g⟩:=(Af _ _).mp f;subst h g;exact⟨R2.frm _ _ t λw=>absurd (.inr w) n,r.fr R2.frm λa z=>.inr z⟩
    refine⟨_,PX.k (k:=.inr z) G.1,i _ _ R2 _ ?_⟩;rcases Q6 (k:=.inr z) G.2 with⟨v,d',e,c,E⟩|⟨e,c⟩
    ·rw[e,c];exact E
    ·rw[e,c];exact .non
   | @ktb l D T r F=>
    subst F;refine⟨l,rfl,.inr ⟨D,T,B,O,δ1,_,δ2,j.sta,h2,λp H2 R2=>?_⟩⟩;have s:=R2.rep;cases s.onS;refine⟨z,rfl,i _ _ R2 _ ?_⟩;have r':cG X.K (av B O ia) H2 (D.map Er) ds:=by
     cases pb with
     |true=>exact r.same (R2.pur rfl)
     |false=>
      have f:(ta&&ia)=ba:=by simpa using f
      obtain⟨h,g⟩:=(Af _ _).mp f;subst h g;exact r.fr R2.frm λa z=>.inr z
    rcases P1 (k:=z) r' with⟨v,d',e,c,E⟩|⟨e,c⟩
    ·rw[e,c];exact E
    ·rw[e,c];exact .non
  |_=>cases C
 |_=>cases C
end
def Wr:Bm "all"=b3 (.builtin "all"):=by decide+kernel
def kZ:Bm "dict"=b3 (.type "dict"):=by decide+kernel
section
variable{X:Cx}{K:Ah}{ml:List Nat}{e a b c:Uh}{es:List Uh}{pa ta ia pb tb ib pc tc ic pu bt bi ps bs:Bool}{fa fb fc f:VF}{B B':Bs}{O:Nat->Option Ub}{H H0 H1 H':Hp}{σ:St}{δ δ':Ev}{v:V}{d:c6}{p:Ub}{pos:Pos}
def lW{ks:List Bool}{a:List Ua}(r:bX (ks.map V.bl) a){i:Nat}{u:Ua}(h:a[i]?=b3 u):∃k,ks[i]?=b3 k/\u=.bool k:=by
 have hl:=r.length;rw[Ci]at hl;have hi:i<a.length:=(Ag.mp h).1;have e:(ks.map V.bl)[i]?=b3 (.bl ks[i]):=by simp[hl▸hi]
 obtain⟨w,h1,h2⟩:=r.get e;rw[h]at h1;cases h1;exact⟨ks[i],by simp[hl▸hi],h2⟩
def B6{ks:List Bool}:(Bf ks.length).all (λi=>(ks[i]?).getD ba)=ks.all id:=by
 induction ks with
 |nil=>rfl
 |cons k ks a=>
  rw[Bw,Mf,Sw,Tn,Sw,<-a];rfl
def D4(K:Ah)(g:List Bool->Bool):RC:=λxs H Q=>∃p ks,xs=[.ref p]/\X9 K H p (ks.map V.bl)/\Q (.bl (g ks)) H
def nY{prog:Aw}{w:Uj}{A:Cb}{ks:List Bool}{b:List Ua}(r:bX (ks.map V.bl) b):TruthOf prog w A (λi v=>b.toArray[i]?=b3 v) λi=>(ks[i]?).getD ba:=by intro i v s Q E c a;obtain⟨k,h1,rfl⟩:=lW r (by simpa using c);have a:Q ((ks[i]?).getD ba) s:=a;rw[h1]at a;exact Fi a
def AN(hc:X.calm=ba):aD X (.builtin "all") (D4 X.K λks=>ks.all id):=by
 intro aa s σ H xs j Q I r h;obtain⟨l,ks,rfl,i,q⟩:=h;obtain⟨u,rfl,e⟩:=SZ r;cases e;obtain⟨its,c,f,hz⟩:=I.list i;have hl:=f.isList;have a:l≠s.heap.objs.size:=by obtain⟨o,g,_⟩:=hl;exact Bb (Ap g)
 have d:=c.length;rw[Ci]at d;refine call_all_walk (Gw hl ⟨_,_,_,_,_,_,_,rfl,Walks.list (show X.A.in1.handled=b4 from I.ok.hd hc) s.heap.objs.size l a its.toArray,⟨⟨_,As _ rfl,rfl,rfl⟩,?_⟩,nY c,λh' tk hk=>?_⟩)
 ·obtain⟨o,g,r⟩:=hl
  exact⟨o,Ad _ g,r⟩
 ·rw[Aj,<- d,B6]
  exact⟨.bl _,H,I.kept (t':=tk) λb o g=>hk b o (by simp;exact Bb (Ap g)) (Ad _ g),rfl,q⟩
def kAll(hc:X.calm=ba)(h:X.K=K:=by rfl):aD X (.builtin "all") (D4 K λks=>ks.all id):=by subst h;exact AN hc
noncomputable def MN:List c6->Option (List Bool)
 |[]=>b3 []
 |.bl k::ds=>(MN ds).map λks=>k::ks
 |_=>b4
theorem C4{N:Ub->Prop}:∀{xs:List V}{ds:List c6}{ks:List Bool},cG K N H xs ds->MN ds=b3 ks->xs=ks.map V.bl
 |_,_,_,.nil,h=>by cases h;rfl
 | _,_,_,@cG.cons _ _ _ v vs d ds h t,e => by
  cases d with
  |bl k=>
   cases h;have e:(MN ds).map (λks=>k::ks)=b3 _:=e;cases h2:MN ds with
   |none=>rw[h2]at e;cases e
   |some a=>
    rw[h2]at e;cases e;rw[C4 t h2,Ba]
  |_=>cases e
def Vj(g:List Bool->Bool):c6->Option c6
 |.lst ds=>(MN ds).map λks=>.bl (g ks)
 |_=>b4
abbrev BP:=Vj λks=>ks.all id
def Zx{g:List Bool->Bool}:CalS K (D4 K g) (Vj g):=by
 intro H N M x d c Q b h k;cases d with
 |lst ds=>
  have h:(MN ds).map (λks=>c6.bl (g ks))=b3 c:=h;obtain⟨ks,h1,h⟩:=Ao.mp h;cases h;obtain⟨a,xs,rfl,sq,r⟩:=b.lstE;have:=C4 r h1
  subst this;exact⟨a,ks,rfl,sq,k _ λ_ _ _=>.bl _⟩
 |_=>cases h
def Wb:CalS K (D4 K λks=>ks.all id) BP:=Zx
noncomputable def U9:List c6->Option (List Int)
 |[]=>b3 []
 |.int i::ds=>(U9 ds).map λns=>i::ns
 |_=>b4
theorem NJ{N:Ub->Prop}:∀{xs:List V}{ds:List c6}{ns:List Int},cG K N H xs ds->U9 ds=b3 ns->xs=ns.map V.int
 |_,_,_,.nil,h=>by cases h;rfl
 | _,_,_,@cG.cons _ _ _ v vs d ds h t,e => by
  cases d with
  |int k=>
   cases h;have e:(U9 ds).map (λks=>k::ks)=b3 _:=e;cases h2:U9 ds with
   |none=>rw[h2]at e;cases e
   |some a=>
    rw[h2]at e;cases e;rw[NJ t h2,Ba]
  |_=>cases e
theorem HZ{N:Ub->Prop}:∀ns:List Int,cG K N H (ns.map V.int) (ns.map c6.int)
 |[]=>.nil
 |i::ns=>.cons (.int i) (HZ ns)
def rngI{a:Int}{n:Nat}{acc:Array Ua}(h:ItemsOf (λi v=>∃t,v=.int (a+i*1) t) acc n):bX ((Bf n).map λi:Nat=>V.int (a+i)) acc.toList:=by
 obtain⟨h1,h2⟩:=h;have go:∀(m:Nat) (b:List Ua),b.length=m->∀k:Nat,(∀(i:Nat) (v:Ua),b[i]?=b3 v->∃t,v=.int (a+((k+i:Nat):Int)*1) t)->bX ((Bf m).map λi:Nat=>V.int (a+((k+i:Nat):Int))) b:=by
  intro m;induction m with
  |zero=>intro b hl k _;rw[Gj.mp hl];exact .nil
  |succ m d=>
   intro b hl k c;cases b with
   |nil=>cases hl
   |cons u b=>
    rw[Mf,Ba,To];obtain⟨t,f⟩:=c 0 u rfl;refine .cons ⟨t,by rw[f];simp⟩ ?_
    have:=d b (by simpa using hl) (k+1) λi v e=>by obtain⟨t,h⟩:=c (i+1) v (by simpa using e);exact⟨t,by rw[h,show k+(i+1)=k+1+i by lia]⟩
    have e:((λi:Nat=>V.int (a+((k+i:Nat):Int)))∘Nat.succ)=λi:Nat=>V.int (a+((k+1+i:Nat):Int)):=by funext i;simp only[Sx,Nat.succ_eq_add_one];rw[show k+(i+1)=k+1+i by lia]
    rw[e];exact this
 have:=go n acc.toList (by simpa using h1) 0 λi v e=>by
  have:=h2 i v (by simpa using e)
  simpa using this
 simpa using this
def GS:aD X (.type "range") (λxs H Q=>∃j,xs=[.int j]/\∀p,H p=b4->Q (.ref p) (upd H p (.ext (rngP p 0 j 1)))):=by intro aa s σ H xs us Q I r h;obtain⟨j,rfl,q⟩:=h;obtain⟨u,rfl,t,rfl⟩:=SZ r;refine call_range_1 ?_;have b:=I.hok.fresh (Aq s.heap.objs.size);refine⟨.ref s.heap.objs.size,_,I.laid (a:=s.heap.objs.size) (o:=.ext (rngP s.heap.objs.size 0 j 1)) (t':=s.toks+1+1) (λ_ _ z=>Ad _ z) (Aq _) ?_,rfl,q _ b⟩;exact⟨⟨_,_,_,Tu ..⟩,⟨_,As _ rfl⟩,λh1 h2 ⟨t,u,v,z⟩ k=>⟨t,u,v,k _ z⟩⟩
def MP(hc:X.calm=ba):aD X (.type "list") (λxs H Q=>∃(p:Ub) (j:Int),xs=[.ref p]/\H p=b3 (.ext (rngP p 0 j 1))/\(0<=j/\j<=16777216)/\∀l,H l=b4->Q (.ref l) (upd H l (.lst ((Bf j.toNat).map λi:Nat=>V.int (0+i))))):=by
 intro aa s σ H xs y Q I r h;obtain⟨p,j,rfl,m,A,q⟩:=h;obtain⟨u,rfl,g⟩:=SZ r;cases g;obtain⟨⟨t,u,v,z⟩,_⟩:=I.hok p _ m;have n:Hm 0 j 1=(j.toNat:Int):=by
  unfold Hm;rw[if_pos (by decide)];split
  ·rw[Int.ediv_one]
   lia
  ·lia
 have d:(2:Int) ^ 62=4611686018427387904:=by decide
 have e:(2:Nat) ^ 24=16777216:=by decide
 have f:Tw 0 j 1=ba:=small_one (a:=0) (b:=j) (by rw[d];decide) (by rw[d];decide) (by rw[d];lia) (by rw[d];lia);refine call_list_range (I.ok.hd hc) z f n (by rw[e];lia) λh' tk acc c kp w x=>?_;have k:=rngI x;refine⟨.ref s.heap.objs.size,_,I.laid (a:=s.heap.objs.size) (o:=.lst ((Bf j.toNat).map λi:Nat=>V.int (0+i))) (t':=tk) kp (Aq _) ⟨?_,acc.toList,c,k,by simpa using w⟩,rfl,q _ (I.hok.fresh (Aq _))⟩;rw[Ci,Ie,Ce];lia
noncomputable def TY(f:VF):VF:=λδ=>(f δ).bind λp=>match p.1 with
 |.int j=>if 0<=j/\j<=16777216 then b3 (.lst (ZN 0 j.toNat),p.2)else b4
 |_=>b4
def eU{N:Ub->Prop}(lo:Int)(n:Nat):cG K N H ((Bf n).map λi:Nat=>V.int (lo+i)) (ZN lo n):=by
 unfold ZN;induction (Bf n)with
 |nil=>exact .nil
 |cons x xs a=>exact .cons (.int _) a
def CT{r p2 f:Pos}(hc:X.calm=ba)(w:Gl X "list")(u:X.mg "list"=b4)(s:Bm "list"=b3 (.type "list"))(m:Gl X "range")(i:X.mg "range"=b4)(g:Bm "range"=b3 (.type "range"))(y:PE X a (TV K ml pa ta ia fa))(n:SE X a []:=by rfl)(b:Uc (.Call (.Name "range" p2) [a] [] f::[]) X.env=(bb,eval (.Call (.Name "range" p2) [a] [] f) X.env)::Uc [] X.env:=by rfl):PE X (.Call (.Name "list" r) [.Call (.Name "range" p2) [a] [] f] [] pos) (TN K ml pa (TY fa)):=
 (WC (MP hc) w u s (b8 (WC GS m i g (b8 y aH n) (by decide) (by decide) n) aH b) (by decide) (by decide) b).imp λσ H Q h => by
  obtain⟨B,O,δ,d,δ',S,q,k⟩:=h;unfold TY at q;obtain⟨⟨x,δ1⟩,h1,q⟩:=Aa.mp q;cases x with
  |int j=>
   have q:(if 0<=j/\j<=16777216 then b3 (c6.lst (ZN 0 j.toNat),δ1)else b4)=b3 (d,δ'):=q;split at q
   ·rename_i v
    cases q;refine⟨B,O,δ,_,_,S,h1,λA H1 c=>?_⟩;have o:=c.rep;cases o.onI;refine⟨j,rfl,λp t=>⟨p,j,rfl,cH,v,λl hl=>?_⟩⟩;have e:bH H1 (upd H1 p (.ext (rngP p 0 j 1))):=cW t;exact k l _ (mkN (c.sta.same e) (c.frm.trans e.fr) (λz=>(c.pur z).trans e) hl (eU 0 j.toNat))
   ·cases q
  |_=>cases q
end
section
variable{X:Cx}{K:Ah}{ml:List Nat}{e a b c:Uh}{es:List Uh}{pa ta ia pb tb ib pc tc ic pu bt bi ps bs:Bool}{fa fb fc f:VF}{B B':Bs}{O:Nat->Option Ub}{H H0 H1 H':Hp}{σ:St}{δ δ':Ev}{v:V}{d:c6}{p:Ub}{pos:Pos}
noncomputable def VT(n:Int):List Int->Option Nat
 |[]=>b4
 |i::ns=>if i=n then b3 0 else(VT n ns).map (· +1)
theorem LX{n:Int}:∀{ns:List Int}{j:Nat},VT n ns=b3 j->ns[j]?=b3 n/\∀m,m<j->ns[m]? ≠b3 n
 |[],_,h=>by cases h
 | i :: ns,j,h => by
  unfold VT at h;split at h
  ·rename_i hi
   cases h;exact⟨by rw[hi];rfl,λm a=>absurd a (Mt _)⟩
  ·rename_i hi
   obtain⟨k,h1,h⟩:=Ao.mp h;cases h;obtain⟨h2,b⟩:=LX h1;refine⟨by simpa using h2,λm a=>?_⟩;cases m with
   |zero=>simpa using hi
   |succ m=>simpa using b m (Mg a)
def IW{ns:List Int}{a:List Ua}(r:bX (ns.map V.int) a){m:Nat}{u:Ua}(h:a[m]?=b3 u):∃i t,ns[m]?=b3 i/\u=.int i t:=by
 have hl:=r.length;rw[Ci]at hl;have b:m<a.length:=(Ag.mp h).1;have e:(ns.map V.int)[m]?=b3 (.int ns[m]):=by simp[hl▸b]
 obtain⟨f,c,t,d⟩:=r.get e;rw[h]at c;cases c;exact⟨ns[m],t,by simp[hl▸b],d⟩
noncomputable def NK(n:Int):Ua->Bool
 |.int i _=>i==n
 |_=>bb
def Wz{ns:List Int}{its:List Ua}{n:Int}{j:Nat}(r:bX (ns.map V.int) its)(h:VT n ns=b3 j):∃e:j<its.toArray.size,NK n its.toArray[j]=ba/\(∀m (a:m<its.toArray.size),m<j->NK n its.toArray[m]=bb):=by
 obtain⟨h1,h2⟩:=LX h;have hl:=r.length;rw[Ci]at hl;have e:j<ns.length:=(Ag.mp h1).1;have at_:∀(m:Nat) (a:m<its.toArray.size),∃i t,ns[m]?=b3 i/\its.toArray[m]=.int i t:=λm a=>by
  have d:m<its.length:=by simpa using a
  exact IW r (u:=its.toArray[m]) (by simp[d])
 refine⟨by simpa[<-hl]using e,?_,λm a c=>?_⟩
 ·obtain ⟨i,t',b,f⟩ := at_ j (by simpa [<- hl]using e)
  rw[h1]at b;cases b;rw[f];simp[NK]
 ·obtain⟨i,t',b,f⟩:=at_ m a
  have:=h2 m c
  rw[b]at this;rw[f];exact beq_eq_false_iff_ne.mpr λz=>this (by rw[z])
def Vq{ns:List Int}{its:List Ua}(r:bX (ns.map V.int) its){y:Ua}(b:y∈its.toArray):∃i t,y=.int i t:=by
 obtain⟨m,c,rfl⟩:=Array.mem_iff_getElem.mp b;have a:m<its.length:=by simpa using c
 obtain⟨i,t,_,e⟩:=IW r (m:=m) (u:=its.toArray[m]) (by simp[a]);exact⟨i,t,e⟩
def Xg(K:Ah):V->List V->Hp->VK->Prop:=λx vs H Q=>∃(l:Ub) (ns:List Int) (n:Int) (j:Nat),x=.ref l/\vs=[.int n]/\X9 K H l (ns.map V.int)/\VT n ns=b3 j/\Q (.int j) H
def BL:MtM X "list.index" (Xg X.K):=by
 intro aa s σ H x vs v w Q I f g h;obtain⟨l,ns,n,j,rfl,rfl,m,p,q⟩:=h;cases f;obtain⟨u,rfl,t,rfl⟩:=g.one;obtain⟨its,r,⟨o,c,e,hc,hd,b⟩,hz⟩:=I.list m;obtain⟨cls,dd,data,d⟩:=o;simp only at hc hd b;subst hc hd b;obtain⟨a,h1,h2⟩:=Wz r p;have hl:=r.length;refine Fj Po ⟨_,e,rfl⟩ Oj (Nw _ _) (Ol l its.toArray c b4 d (.int n t) (NK n) j a (by
  have A:its.length<=16777216:=by rw[<-hl,<-Ce];exact hz
  have z:j<its.length:=by simpa using a
  lia) h1 h2) ⟨e,?_,?_⟩
 ·intro y k
  obtain⟨i,t',rfl⟩:=Vq r k;exact SeqAt.EqAt.int_int i t' n t
 ·exact⟨.int j,H,I.tok _,⟨_,rfl⟩,q⟩
def Zv(h:X.K=K:=by rfl):MtM X "list.index" (Xg K):=by subst h;exact BL
def FO:c6->c6->Option c6
 |.lst ds,.int n=>(U9 ds).bind λns=>(VT n ns).map λj=>.int j
 |_,_=>b4
def Zh{ao ae:Pos}(m:X.K=K)(u:PE X a (TV K ml pa ta ia fa))(t:PE X b (TV K ml pb tb ib fb))(C:Gh a "index" X.env (eval a X.env)=eval a X.env:=by rfl)(A:((Fa ae (Uc (b::[]) X.env)).all (λx=> !x.1)&&(Ll ae (He [] X.env)).all (λx=>x.1.isSome)&&decide ((b::([]:List Uh)).length+([]:List Hf).length+(if([]:List Hf).isEmpty then 0 else 1)<30))=ba:=by rfl)(D:(ao.endLine==ae.line)=ba:=by rfl)(i:SE X b []:=by rfl)(E:(Fa ae (Uc [] X.env)).any (·.1)=bb:=by rfl)(hl:(pb || (ta&&ia))=ba:=by rfl):PE X (.Call (.Attribute a "index" ao) [b] [] ae) (TV K ml (pa&&pb) ba ba (f2 FO fa fb)):=
 (kBm (K := K) m Gi Lq Lr (Zv m) u (b8 t aH i) C A D i E).imp λσ H Q g => by
  obtain⟨B,O,δ,d,δ2,S,q,k⟩:=g;obtain⟨x,δ1,y,h1,h2,c⟩:=RY q;refine⟨B,O,δ,x,δ1,S,h1,λG H1 e=>?_⟩;cases x with
  |lst ds=>
   cases y with
   |int n=>
    have c:((U9 ds).bind λns=>(VT n ns).map λj=>c6.int j)=b3 d:=c;obtain⟨ns,v,c⟩:=Aa.mp c;have c:(VT n ns).map (λj=>c6.int j)=b3 d:=c;cases h:VT n ns with
    |none=>rw[h]at c;cases c
    |some j=>
     rw[h]at c;cases c;obtain⟨l,xs,rfl,sq,_⟩:=e.rep.lstE;refine⟨.inl ⟨rfl,xs,sq⟩,B,O,δ1,_,δ2,e.sta,h2,λF H2 R2=>?_⟩;have s:=R2.rep;cases s.onI;obtain⟨I,r,w,f,r'⟩:=(R2.live hl e.rep).lstE;cases w;have:=NJ r' v
     subst this;exact⟨l,ns,n,j,rfl,rfl,f,h,k _ H2 ⟨R2.sta,e.frm.trans R2.frm,λz=>by obtain⟨p,o⟩:=(Af _ _).mp z;exact(e.pur p).trans (R2.pur o),.int _⟩⟩
   |_=>cases c
  |_=>cases c
def D6:V->List V->Hp->VK->Prop:=λx vs H Q=>∃(l:Ub) (ns:List Int) (n:Int) (j:Nat),x=.ref l/\vs=[.int n]/\H l=b3 (.lst (ns.map V.int))/\VT n ns=b3 j/\Q .non (upd H l (.lst ((ns.eraseIdx j).map V.int)))
theorem LB{α β:Type}(g:α->β):∀(l:List α) (j:Nat),(l.map g).eraseIdx j=(l.eraseIdx j).map g
 |[],_=>by simp
 |_::_,0=>by simp
 |x::l,j+1=>by simp[LB g l j]
def BN:MtM X "list.remove" D6:=by
 intro aa s σ H x vs v o Q I f g h;obtain⟨l,ns,n,j,rfl,rfl,d,m,q⟩:=h;cases f;obtain⟨u,rfl,t,rfl⟩:=g.one;obtain⟨z,its,c,r,hl,e⟩:=I.lstM d;obtain⟨a,h1,h2⟩:=Wz r m;refine Fj F.slot_list_remove ⟨_,e,rfl⟩ F.entry_list_remove (F.args_list_remove_2 _ _) (MeetsSeq.list_remove l its.toArray c (.int n t) (NK n) (λy k=>?_) j a h1 h2 (by rw[Aj,<-hl];exact z)) ⟨e,?_⟩
 ·obtain⟨i,t',rfl⟩:=Vq r k
  exact Tq i n t' t
 ·have b : j < its.length := by simpa using a
  refine⟨.non,_,I.lset (its':=its.eraseIdx j) d e (by simp[Kz,b]) (ys:=(ns.eraseIdx j).map V.int) ?_ ?_,rfl,q⟩
  ·have:=bX.eraseIdx j r
   rwa[LB]at this
  ·rw[Ci]
   have h1:=List.length_eraseIdx_le ns j;rw[Ci]at z;lia
def mRem:List c6->List c6->Option (List c6)
 |ds,[.int n]=>(U9 ds).bind λns=>(VT n ns).map λj=>(ns.eraseIdx j).map c6.int
 |_,_=>b4
def mT:MuV K D6 mRem:=by
 intro H N l xs vs ds es a Q hl g b c h k;cases c with
 |nil=>cases h
 | @cons v vs d es hd t=>
  cases t with
  |cons _ _=>cases d<;>cases h
  |nil=>
   cases d with
   |int n=>
    cases hd;have h:((U9 ds).bind λns=>(VT n ns).map λj=>(ns.eraseIdx j).map c6.int)=b3 a:=h;obtain⟨ns,f,h⟩:=Aa.mp h;have h:(VT n ns).map (λj=>(ns.eraseIdx j).map c6.int)=b3 a:=h;obtain⟨j,e,h⟩:=Ao.mp h;cases h;have:=NJ b f
    subst this;exact⟨l,ns,n,j,rfl,rfl,hl,e,k _ _ (HZ _)⟩
   |_=>cases h
end
section
variable{X:Cx}{K:Ah}{ml:List Nat}{e:Uh}{es:List Uh}{pu bt bi bs:Bool}{f:VF}{fs:RT}
def cT(h:PE X e (TV K ml pu bt bi f))(a:(bt&&bi)=ba:=by rfl):PE X e (TV K ml pu ba ba f):=by obtain⟨h1,h2⟩:=(Af _ _).mp a;subst h1 h2;exact h
def Vk(h:PE X e (TV K ml pu bt bi f))(a:bi=ba:=by rfl):PE X e (TV K ml pu bt ba f):=by subst a;exact h
def cO(h:PA X es (AG K ml pu bs fs))(a:bs=ba:=by rfl):PA X es (AG K ml pu ba fs):=by subst a;exact h
def iF{st:Um}:PS X st (WO K ml λ_=>b4):=λ_ _ _ _ _ _ ⟨_,_,_,_,_,q,_⟩=>nomatch q
variable{a b c:Uh}{pa ta ia pb tb ib pc tc ic:Bool}{fa fb fc:VF}{pos:Pos}{δ:Ev}
end
section
variable{X:Cx}{K:Ah}{ml:List Nat}{e a b c:Uh}{pa ta ia pb tb ib pu:Bool}{fa fb fc f:VF}{B:Bs}{O:Nat->Option Ub}{H H':Hp}{σ:St}{δ δ':Ev}{v:V}{d:c6}{p:Ub}{pos:Pos}{ks:List (Option Uh)}{vs:List Uh}
theorem LP:∀{more acc:List (aY×V)},((acc++more).map Dh).Nodup->NQ acc more=acc++more
 |[],acc,_=>by simp[NQ]
 |(k,v)::more,acc,a=>by
  have hk:∀q∈acc,q.1≠k:=λq b z=>by rw[Gd,Ba]at a;exact(List.nodup_append.mp a).2.2 q.1 (List.mem_map_of_mem b) k (by simp) z
  have c:TH acc k=b4:=by unfold TH;rw[List.find?_eq_none.mpr λq b=>by simpa using hk q b];rfl
  show NQ (XN acc k v) more=_;rw[jE v c,LP (by simpa using a)];simp
end
theorem RX:∀(names:List (Ue×Uq)) (n:Nat) (acc:List (Ue×Ub)),Up n names acc=Up n names []++acc
 |[],_,_=>rfl
 | (x,k) :: r,n,acc => by
  unfold Up;split
  ·rw[RX r (n+1) ((x,n)::acc),RX r (n+1) [(x,n)]]
   simp
  ·exact RX r n acc
theorem E9:∀{names:List (Ue×Uq)}{n:Nat}{x:Ue}{c:Ub},(x,c)∈Up n names []->(x,Cm)∈names
 |[],_,_,_,h=>nomatch h
 | (y,k) :: r,n,x,c,h => by
  unfold Up at h;split at h
  ·rename_i hk
   rw[RX]at h;rcases Bx.mp h with h|h
   ·exact Am _ (E9 h)
   ·cases At.mp h
    rw[show k=Cm from beq_iff_eq.mp hk];exact Au
  ·exact Am _ (E9 h)
theorem E8:∀{names:List (Ue×Uq)}{n:Nat}{x:Ue},(x,Cm)∈names->∃c,(x,c)∈Up n names []
 | (y,k) :: r,n,x,h => by
  unfold Up;rcases Ak.mp h with e|h
  ·cases e
   rw[if_pos (by decide),RX];exact⟨n,Bq _ (At.mpr rfl)⟩
  ·split
   ·rw[RX]
    obtain⟨c,hc⟩:=E8 (n:=n+1) h;exact⟨c,Bp _ hc⟩
   ·exact E8 h
theorem NP:∀{l:List (Ue×Ub)}{x:Ue}{c:Ub},(x,c)∈l->∃b,l.lookup x=b3 b
 | (y,d) :: r,x,c,h => by
  rw[Co];cases a:x==y with
  |true=>exact⟨d,rfl⟩
  |false=>
   rcases Ak.mp h with e|h
   ·cases e
    simp at a
   ·exact NP h
theorem YS:∀{l m:List (Ue×Ub)}{x:Ue}{c:Ub},(l++m).lookup x=b3 c->l.lookup x=b3 c∨(l.lookup x=b4/\m.lookup x=b3 c)
 |[],_,_,_,h=>.inr ⟨rfl,h⟩
 |(y,d)::r,m,x,c,h=>by
  rw[Ix,Co]at h;rw[Co];cases a:x==y with
  |true=>rw[a]at h;exact .inl h
  |false=>rw[a]at h;exact YS h
theorem RW:∀{l m:List (Ue×Ub)}{x:Ue},l.lookup x=b4->(l++m).lookup x=m.lookup x
 |[],_,_,_=>rfl
 |(y,d)::r,m,x,h=>by
  rw[Co]at h;rw[Ix,Co];cases a:x==y with
  |true=>rw[a]at h;cases h
  |false=>rw[a]at h;exact RW h
def HG{M:Uu}{A:Cb}{E:Ua->Ae->Prop}{s:Ae}{scope:Ur}{globals:Ub}{c:List (Ue×Ub)}{qual:Ue}{outer:Env}{Q:Env->Ae->Prop}(d:Q (newEnv scope s.heap.objs.size globals (Up (s.heap.objs.size+1) scope.names c) qual b4 .none (b3 outer) builtinsNs) {s with heap:=Rl (s.heap.push {cls:=.type "dict",data:=.dict #[]}) scope.names}):Ud M A (Nk scope globals c [] qual b4 .none (b3 outer)) Q E s:=by simp only[Nk,Oh,if_true];refine Ac (wpAny_alloc ?_);refine Ac (wpAny_layCells _ (λname kind b=>by cases a:kind==Cm<;>simp[a]) _ _ _ _ ?_);rw[show({s with heap:=s.heap.push {cls:=.type "dict",data:=.dict #[]}}:Ae).heap.objs.size=s.heap.objs.size+1 from Ei ..];rw[Nj];exact Ac (Ai (Ai d))
theorem UN:∀{l m:List (Ue×Ub)}{x:Ue}{c:Ub},l.lookup x=b3 c->(l++m).lookup x=b3 c
 |(y,d)::r,m,x,c,h=>by
  rw[Co]at h;rw[Ix,Co];cases a:x==y with
  |true=>rw[a]at h;exact h
  |false=>rw[a]at h;exact UN h
structure OH(X:Cx)(N':List Ue)(ix:List Nat)(scope:Ur):Prop where
 kind:scope.kind=.function
 cel:∀y∈scope.names,y.2=.cell->scope.names.lookup y.1=b3 .cell
 names:∀y∈scope.names,y.2=.local->scope.names.lookup y.1=b3 .local
 free:∀y∈scope.names,y.2=.free->X.env.kindOf y.1=b3 .cell∨X.env.kindOf y.1=b3 .free
 nd:N'.Nodup
 cap:∀j,j<ix.length->N'[j]?=(ix[j]?).bind λi=>X.N[i]?
 capf:∀x∈N'.take ix.length,scope.names.lookup x=b3 .free
noncomputable def ZV(X:Cx)(N':List Ue)(scope:Ur)(cl:List (Ue×Ub))(s1:Ae)(H1:Hp)(fp:List Ub):Cx:=
 {X with N:=N',s₀:=s1,H₀:=H1,env:=compEnvC scope cl s1.heap.objs.size X.env,outer:=X.stack,stack:=X.stack,ex:=fp,fn:=λx=>scope.names.lookup x==b3 Cm,pn:=[],xe:=λ_ _=>False}
theorem VU{env:Env}{x:Ue}:∀{l:List (Ue×Uq)},((l.map λ(n,k)=>if(k==Bt&&env.scope.kind== .function&&env.kindOf n==b3 .cell)then(n,Cm)else(n,k)).lookup x=b3 .cell∨(l.map λ(n,k)=>if(k==Bt&&env.scope.kind== .function&&env.kindOf n==b3 .cell)then(n,Cm)else(n,k)).lookup x=b3 .free)->(x,Bt)∈l∨(x,Cm)∈l
 |[],h=>by rcases h with z|z<;>cases z
 | (n,k) :: r,h => by
  have h:Nr x ((if(k==Bt&&env.scope.kind== .function&&env.kindOf n==b3 .cell)=ba then(n,Cm)else(n,k))::r.map λ(n,k)=>if(k==Bt&&env.scope.kind== .function&&env.kindOf n==b3 .cell)then(n,Cm)else(n,k))=b3 .cell∨
   Nr x ((if(k==Bt&&env.scope.kind== .function&&env.kindOf n==b3 .cell)=ba then(n,Cm)else(n,k))::r.map λ(n,k)=>if(k==Bt&&env.scope.kind== .function&&env.kindOf n==b3 .cell)then(n,Cm)else(n,k))=b3 .free:=h
  by_cases hc:(k==Bt&&env.scope.kind== .function&&env.kindOf n==b3 .cell)=ba
  ·rw[if_pos hc]at h
   by_cases a:x=n
   ·subst a
    have hk:k=.free:=by simp only[Af]at hc;exact beq_iff_eq.mp hc.1.1
    subst hk;exact .inl Au
   ·have b:(x==n)=bb:=beq_eq_false_iff_ne.mpr a
    simp only[Co,b]at h;rcases VU (env:=env) h with z|z
    ·exact .inl (Am _ z)
    ·exact .inr (Am _ z)
  ·rw[if_neg hc]at h
   by_cases a:x=n
   ·subst a
    rw[Ed]at h;rcases h with z|z
    ·cases z;exact .inr Au
    ·cases z;exact .inl Au
   ·have b:(x==n)=bb:=beq_eq_false_iff_ne.mpr a
    simp only[Co,b]at h;rcases VU (env:=env) h with z|z
    ·exact .inl (Am _ z)
    ·exact .inr (Am _ z)
def M7{X:Cx}{aa:List (Ub×Ul)}{σ:St}{H2:Hp}{a:Ae}{E:Ua->Ae->Prop}{tg iter elt:Uh}{ifs:List Uh}{scope:Ur}{pos:Pos}{N':List Ue}{ix:List Nat}{nl:Nat}{g:TG}{tt:TT}{te:TE}{cl:List (Ue×Ub)}{J:It}{fp:List Ub}{it:Ub}{tn:Nat->Uk->Prop}{Q:V->Hp->Prop}{RR:Ua->Ub->Result->Ae->Prop}(hc:X.calm=ba)(S:OH X N' ix scope)(hnl:N'.length=ix.length+nl)(gb:∀x c,cl.lookup x=b3 c->X.env.cells.lookup x=b3 c)(ma:∀x,(x,Bt)∈scope.names->∃c,cl.lookup x=b3 c)(blk:∀(cl:List (Ue×Ub)) (s1:Ae) (H1:Hp) (fp:List Ub),Blk (ZV X N' scope cl s1 H1 fp) tg ifs elt g tt te)(I2:cM X aa σ H2 a)(T:E2 X.prog X.w X.K tg J fp it tn)(st2:tn 0 a.heap)(f2:∀b∈fp,ML X aa H2 b)(h:∀D,H2 D=b4->Wp D ix nl J g tt te σ H2 λH'=>Q (.ref D) H')(fin:∀(D C:Ub) (s':Ae) (H':Hp),cM X aa σ H' s'->(∃m,s'.heap.Ns C m)->C≠X.env.locals->(∀x c,X.env.cells.lookup x=b3 c->c≠C)->(∀(s:St) (R:Ae) (h'':Uk),cM X aa s H' R->Fp C R.heap h''->cM X aa s H' {R with heap:=h''})->Q (.ref D) H'->RR (.ref D) C (.ok .next) s'):Ud (Uf X.prog X.w) X.A (newList []) (λacc B=>Ud (Uf X.prog X.w) X.A (Nk scope X.env.globals cl [] X.env.qual b4 .none (b3 X.env)) (λmi s₄=>Jr (Uf X.prog X.w) X.A (.compStart (.ListComp elt [⟨tg,iter,ifs,0⟩] scope pos) 0 (.ref it) acc {mi with scope:=relabel scope X.env}) (RR acc mi.locals) s₄) E B) E a:=by
 refine Dq (HG ?_);dsimp only;have k:cM X aa σ (upd H2 a.heap.objs.size (.lst [])) {a with heap:=a.heap.push {cls:=.type "list",dict:=b4,data:=.seq ([]:List Ua).toArray}}:=
  I2.lnew (t':=a.toks) (ys:=[]) (its:=[]) .nil (Ep _)
 have hDn:H2 a.heap.objs.size=b4:=I2.hok.fresh (Aq _);obtain⟨W,⟨m0,w0⟩,turn⟩:=h _ hDn;generalize hs1:({a with heap:=a.heap.push {cls:=.type "list",dict:=b4,data:=.seq ([]:List Ua).toArray}}:Ae)=s1 at k;have i3:a.heap.push {cls:=.type "list",dict:=b4,data:=.seq ([]:List Ua).toArray}=s1.heap:=by rw[<-hs1]
 rw[i3];have I:∀b o,s1.heap.get? b=b3 o->(Rl (s1.heap.push {cls:=.type "dict",data:=.dict #[]}) scope.names).get? b=b3 o:=λb o e=>pushCells_keeps _ _ _ _ (Ad _ e);have H:(Rl (s1.heap.push {cls:=.type "dict",data:=.dict #[]}) scope.names).Ns s1.heap.objs.size (λ_=>b4):=(Heap.Ns.new s1.heap (.type "dict")).keeps λb o e=>pushCells_keeps _ _ _ _ e;have M:=cellsFrom_ok scope.names (s1.heap.push {cls:=.type "dict",data:=.dict #[]}) (s1.heap.objs.size+1) [] ⟨λ_ _ hm=>(nomatch hm),Pg⟩ (by rw[Ei];exact Aq _);rw[Ei]at M;generalize hz1:Rl (s1.heap.push {cls:=.type "dict",data:=.dict #[]}) scope.names=F at I H M;rw[RX];generalize hnc:Up (s1.heap.objs.size+1) scope.names []=t at M;have G:∀x c,t.lookup x=b3 c->(x,Cm)∈scope.names/\F.IsCell c b4/\s1.heap.objs.size+1<=c:=λx c e=>by have hm:=Cv e;exact⟨E9 (n:=s1.heap.objs.size+1) (by rw[hnc];exact hm),M.empty x c hm⟩
 have nch:∀x,(x,Cm)∈scope.names->∃c,t.lookup x=b3 c:=λx h=>by obtain⟨c,hc⟩:=E8 (n:=s1.heap.objs.size+1) h;rw[hnc]at hc;exact NP hc
 have jk:∀b∈fp,b<a.heap.objs.size:=λb f=>by obtain⟨o,e,_⟩:=T.obj _ _ st2 b f;exact Ap e
 have lv:s1.heap.objs.size=a.heap.objs.size+1:=by rw[<-i3,Ei]
 have mq:∀b o,a.heap.get? b=b3 o->s1.heap.get? b=b3 o:=λb o e=>by rw[<-i3];exact Ad _ e
 have i6:∀x c,cl.lookup x=b3 c->c<s1.heap.objs.size:=λx c e=>by obtain⟨v,q⟩:=k.cell x c (gb x c e);exact q.lt
 have pq:∀b∈SX X.stack,b<s1.heap.objs.size:=λb f=>by obtain⟨_,o,ho,_⟩:=(k.stack).mem f;exact Ap ho
 have U:(ZV X N' scope (t++cl) s1 (upd H2 a.heap.objs.size (.lst [])) fp).Ok:=by
  refine⟨k.ok.mod,S.kind,k.ok.glob,k.ok.blt,Aq _,λx y c e1 P=>?_,λx hx=>?_,λx c hf e=>?_,k.ok.hd,k.ok.frames,.inl rfl,λb f=>⟨?_,λx c e=>?_⟩,λb o e=>?_,Fo k.ok.bsz k.sz,λb o e f=>?_,λb f hb2=>?_,k.stack,k.stkFree⟩
  ·rcases YS e1 with n1|⟨_,o1⟩
   ·rcases YS P with n2|⟨_,o2⟩
    ·exact PySem.name_of_addr M.apart (Cv n1) (Cv n2)
    ·exact absurd (Az (i6 y c o2) (Ij (G x c n1).2.2)) (Ck _)
   ·rcases YS P with n2|⟨_,o2⟩
    ·exact absurd (Az (i6 x c o1) (Ij (G y c n2).2.2)) (Ck _)
    ·exact k.ok.inj x y c (gb x c o1) (gb y c o2)
  ·cases q:t.lookup x with
   |some c=>exact⟨c,UN q⟩
   |none=>
    rcases VU hx with h|h
    ·obtain⟨c,hc⟩:=ma x h
     exact⟨c,(RW q).trans hc⟩
    ·obtain⟨c,hc⟩:=nch x h
     rw[q]at hc;cases hc
  ·have hx:(x,Cm)∈scope.names:=Cv (beq_iff_eq.mp hf)
   obtain⟨c',O⟩:=nch x hx;have:=UN (m:=cl) O
   have e:(t++cl).lookup x=b3 c:=e;rw[this]at e;cases e;exact Ij (G x c O).2.2
  ·exact Bb (Az (jk b f) (by show a.heap.objs.size<=s1.heap.objs.size;rw[lv];exact Ih _))
  ·rcases YS e with n1|⟨_,o1⟩
   ·have h1:=jk b f
    have h2:=(G x c n1).2.2;rw[lv]at h2;exact λz=>absurd (z▸h2) (Nat.not_le_of_lt (Az h1 (Fo (Ih _) (Ih _))))
   ·exact(f2 b f).2.2.2.2.1 x c (gb x c o1)
  ·exact k.bs b o e
  ·have:=(f2 b f)
   obtain⟨o',e',_⟩:=T.obj _ _ st2 b f;have hlt:=Az (Ap e) k.ok.bsz;rcases this.2.2.2.1 with z|z
   ·exact k.ok.noex b o e z
   ·exact absurd (Az hlt z) (Ck _)
  ·rcases Ak.mp (k.stkSub b hb2)with z|z
   ·exact(f2 b f).2.1 z
   ·exact(f2 b f).2.2.1 z
 have j8:(YM ix σ++Av nl b4).length=N'.length:=by rw[Bv,Ml,hnl];simp[YM]
 have IY:cM (ZV X N' scope (t++cl) s1 (upd H2 a.heap.objs.size (.lst [])) fp) [] (YM ix σ++Av nl b4) (upd H2 a.heap.objs.size (.lst [])) {a with heap:=F}:=by
  refine⟨U,?_,I2.bare,Un.kept I,⟨_,H,λj x v e1 P e3=>?_⟩,λx c e=>?_,k.hok.fresh (Aq _),λx c e=>?_,λp hp=>absurd (show p∈([]:List (Ub×Ul)) from hp) (by simp),k.hok.kept I,j8⟩
  ·show a.os=s1.os
   rw[<-hs1]
  ·have Y:j<ix.length:=by
    by_cases Y:j<ix.length
    ·exact Y
    ·exfalso
     have hl:(YM ix σ).length=ix.length:=by simp[YM]
     rw[Bo (by rw[hl];lia),Dr]at P;split at P<;>cases P
   have hl:(YM ix σ).length=ix.length:=by simp[YM]
   rw[An (by rw[hl];exact Y)]at P;have hci:=S.cap j Y;obtain⟨i,hi⟩:∃i,ix[j]?=b3 i:=⟨ix[j],by simp[Y]⟩;rw[hi]at hci;have hNi:X.N[i]?=b3 x:=by
    have:N'[j]?=X.N[i]? :=hci
    rw[<-this];exact e1
   have hσ:σ[i]?=b3 (b3 v):=by
    unfold YM at P;rw[Ds,hi]at P;have Z:(σ[i]?).join=b3 v:=by simpa using P
    cases q:σ[i]? with
    |none=>rw[q]at Z;cases Z
    |some o=>rw[q]at Z;rw[show o=b3 v from Z]
   have hfl:scope.names.lookup x=b3 .free:=S.capf x (by rw[Ms];exact⟨j,by rw[Df Y];exact e1⟩)
   have bu:(x,Bt)∈scope.names:=Cv hfl;have hpk:X.env.kindOf x=b3 .cell∨X.env.kindOf x=b3 .free:=by exact S.free (x,.free) bu rfl
   have o7:Vis X.env.scope x:=by
    rcases hpk with z|z
    ·exact .inr (.inl z)
    ·exact .inr (.inr z)
   obtain⟨m,hn,ou⟩:=k.loc;obtain⟨u,ru,l⟩:=ou i x v hNi hσ o7;refine⟨u,ru,?_⟩;rcases l with⟨hk,_⟩|⟨hk,c,ec,z⟩
   ·rcases hpk with q|q<;>rw[hk]at q<;>cases q
   ·obtain⟨c',O⟩:=ma x bu
    have:c'=c:=by
     have:=gb x c' O
     rw[ec]at this;exact(Cg this).symm
    subst this;have om:t.lookup x=b4:=by
     cases q:t.lookup x with
     |none=>rfl
     |some d=>
      have:=S.cel (x,.cell) (G x d q).1 rfl
      rw[hfl]at this;cases this
    refine .inr ⟨RG hfl,c',(RW om).trans O,?_⟩
    ·obtain⟨o,ho,hd⟩:=z
     exact⟨o,I _ _ ho,hd⟩
  ·rcases YS e with n1|⟨_,o1⟩
   ·exact⟨b4,(G x c n1).2.1⟩
   ·obtain⟨v,o,ho,hd⟩:=k.cell x c (gb x c o1)
    exact⟨v,o,I _ _ ho,hd⟩
  ·rcases YS e with n1|⟨_,o1⟩
   ·exact k.hok.fresh (Ij (G x c n1).2.2)
   ·exact k.freeC x c (gb x c o1)
 have back:∀{pY:List (Ub×Ul)}{s:St}{H':Hp}{s':Ae},cM (ZV X N' scope (t++cl) s1 (upd H2 a.heap.objs.size (.lst [])) fp) pY s H' s'->cM X aa σ H' s':=λ{pY s H' s'} J'=>
  k.call' J'.os J'.base J'.hok J'.bare λb f=>⟨(f2 b f).2.2.2.1,(f2 b f).2.1,(f2 b f).2.2.2.2.1,(f2 b f).2.2.2.2.2⟩
 have stat:∀{H':Hp}{pY:List (Ub×Ul)},(∀b∈fp,H' b=b4)->pY=[]->∀b∈fp,ML (ZV X N' scope (t++cl) s1 (upd H2 a.heap.objs.size (.lst [])) fp) pY H' b:=λ{H' pY} hn hp b f=>by subst hp;refine⟨hn b f,(U.exf b f).1,U.exfs b f,.inl f,(U.exf b f).2,λp hp=>absurd (show p∈([]:List (Ub×Ul)) from hp) (by simp)⟩
 have st1:tn 0 F:=T.keep 0 a.heap F st2 λb f o e=>I b o (mq b o e);have fr1:∀b∈fp,(upd H2 a.heap.objs.size (.lst [])) b=b4:=λb f=>by rw[cB (Bb (jk b f))];exact(f2 b f).1
 have loop:∀B:Ae,B={a with heap:=F}->
   Jr (Uf X.prog X.w) X.A (.compLoop (.ListComp elt [⟨tg,iter,ifs,0⟩] scope pos) 0 (.ref it) (.ref a.heap.objs.size) (compEnvC scope (t++cl) s1.heap.objs.size X.env)) (RR (.ref a.heap.objs.size) s1.heap.objs.size) B:=by
  rintro B rfl;refine AU (λn s'=>∃i s H' acc,cM (ZV X N' scope (t++cl) s1 (upd H2 a.heap.objs.size (.lst [])) fp) [] s H' s'/\s.take ix.length=YM ix σ/\tn i s'.heap/\(∀b∈fp,H' b=b4)/\W i n acc H') ?_ m0
   ⟨0,_,_,[],IY,by rw[Dx (by simp[YM])];exact Cn (by simp[YM]),st1,fr1,w0⟩
  rintro n s' ⟨i,s,H',acc,J',hσ,st',fr',w'⟩;have Jc:cM (ZV X N' scope (t++cl) s1 (upd H2 a.heap.objs.size (.lst [])) fp) [] (YM ix σ++Av nl b4) H' s':=by
   refine J'.weak (by rw[j8];exact J'.len.symm) λj v e=>?_;have hl:(YM ix σ).length=ix.length:=by simp[YM]
   by_cases Y:j<ix.length
   ·rw [An (by rw [hl];exact Y),<- hσ,Df Y]at e
    exact e
   ·rw [Bo (by rw [hl];lia),Dr]at e
    split at e<;>cases e
  rcases turn i n acc H' w' with⟨stop,q⟩|⟨go,N,hN,step⟩
  ·refine Cd (T.done (ZV X N' scope (t ++ cl) s1 (upd H2 a.heap.objs.size (.lst [])) fp) rfl rfl rfl hc i [] s' _ H' (λ_ _ => False) Jc (stat fr' rfl) st' stop) (λr s4 ⟨hr,I4⟩ => ?_) λ_ _ z => z
   subst hr;have IX:=back I4;obtain⟨m,hm,_⟩:=I4.loc;exact fin _ _ s4 H' IX ⟨m,hm⟩ (Hg k.lt) (λx c e z=>by
    obtain⟨v,q⟩:=k.cell x c e;have:=q.lt
    rw[z]at this;exact Ck _ this) (λσ'' R h'' I'' sb=>cM.offNew k I'' I4.free λb o f e=>(sb.2 b f).trans e) q
  ·refine Cd (T.item (ZV X N' scope (t ++ cl) s1 (upd H2 a.heap.objs.size (.lst [])) fp) rfl rfl rfl hc i [] s' _ H' (λ_ _ => False) Jc (stat fr' rfl) st' go) (λr s4 ⟨u,hr,h4⟩ => ?_) λ_ _ z => z
   subst hr;refine Cd h4 (λ_ s5 ⟨x,H5,I5,r5,y5,st5,fr5⟩=>?_) λ_ _ z=>z;have I5':=I5.pinned (stat fr5 rfl) (T.obj _ _ st5);obtain⟨btg,bts,bel⟩:=blk (t++cl) s1 (upd H2 a.heap.objs.size (.lst [])) fp;refine Cd (btg _ s5 _ H5 x u _ I5' r5 (step x H5 y5)) (λ_ s6 ⟨L,H6,I6,hσ6,q6⟩=>?_) λ_ _ z=>z;have YE:∀{H7:Hp}{s7:Ae}{cq:List V},cM (ZV X N' scope (t++cl) s1 (upd H2 a.heap.objs.size (.lst [])) fp) ([]++NX fp s5.heap) L H7 s7->N cq H7->
     ∃m,m<n/\∃i s H' acc,cM (ZV X N' scope (t++cl) s1 (upd H2 a.heap.objs.size (.lst [])) fp) [] s H' s7/\s.take ix.length=YM ix σ/\tn i s7.heap/\(∀b∈fp,H' b=b4)/\W i m acc H':=λ{H7 s7 cq} I7 n7=>by
    obtain⟨m',hm,w7⟩:=hN cq H7 n7;refine⟨m',hm,i+1,L,H7,cq,I7.unpinned,hσ6,T.keep _ _ _ st5 λb f o e=>(I7.pin (b,o) (Bq _ (Bq _ (VO f e)))).1,λb f=>?_,w7⟩;obtain⟨o,e,d⟩:=T.obj _ _ st5 b f;exact(I7.pin (b,o) (Bq _ (Bq _ (VO f e)))).2.1
   refine Cd (bts _ s6 L H6 _ I6 q6) (λokb s7 ⟨H7,I7,q7⟩=>?_) λ_ _ z=>z;cases okb with
   |false=>exact YE I7 q7
   |true=>
    refine Cd (bel _ s7 L H7 _ I7 q7) (λv s8 ⟨y,H8,I8,r8,hD8,hz8,n8⟩=>?_) λ_ _ z=>z;refine Cd (aR (X:=ZV X N' scope (t++cl) s1 (upd H2 a.heap.objs.size (.lst [])) fp) _ s8 L H8 (.ref a.heap.objs.size) [y] (.ref a.heap.objs.size) [v] (λ_ H9=>N (acc++[y]) H9) I8 rfl (.cons r8 .nil)
     ⟨a.heap.objs.size,acc,y,rfl,rfl,hD8,hz8,n8⟩) (λ_ s9 ⟨_,H9,I9,_,n9⟩=>YE I9 n9) λ_ _ z=>z
 have he:({newEnv scope s1.heap.objs.size X.env.globals (t++cl) X.env.qual b4 .none (b3 X.env) builtinsNs with scope:=relabel scope X.env}:Env)=compEnvC scope (t++cl) s1.heap.objs.size X.env:=rfl;exact codeAny_compStart_list (loop _ rfl) (T.self _ 0 _ _ _ st1 (loop _ rfl))
def gS{X:Cx}{tg iter d:Uh}{a:List Uh}{scope:Ur}{pos:Pos}{N':List Ue}{ix:List Nat}{nl:Nat}{l:TI}{g:TG}{n:TT}{te:TE}(hc:X.calm=ba)(S:OH X N' ix scope)(i:N'.length=ix.length+nl)(hi:PI X tg iter l)(k:∀(cl:List (Ue×Ub)) (s1:Ae) (H1:Hp) (fp:List Ub),Blk (ZV X N' scope cl s1 H1 fp) tg a d g n te)(v:∀x,Uo iter X.env x=pure x:=by intro _;rfl):PE X (.ListComp d [⟨tg,iter,a,0⟩] scope pos) (IP ix nl l g n te):=by intro aa s σ H Q I h;rw[eval_ListComp];obtain⟨cl,M,L,K⟩:=C7 (env:=X.env) (scope:=scope) λy u B=>I.ok.has y.1 (S.free y u B);refine La (use:=b4) (cl:=cl) rfl v M S.kind S.names (Cd (hi aa s σ H _ I h) (λP p c=>Cd c (λt o b=>?_) λ_ _ e=>e) λ_ _ e=>e);obtain⟨it,fp,R,J,H2,e,N,T,f,f2,q⟩:=b;subst e;refine M7 (Q:=Q) (RR:=λacc C=>compPost (Uf X.prog X.w) X.A X.xe b4 (EP X aa σ Q) acc C) hc S i L K k N T f f2 q ?_;intro D C s' H' O j G F E z;obtain⟨m,j⟩:=j;exact⟨m,j,λh'' r=>⟨.ref D,H',E σ s' h'' O r,rfl,z⟩⟩
section
variable{X:Cx}{K:Ah}{ml:List Nat}{pi pt pe pu:Bool}{pos:Pos}{ix:List Nat}{nl:Nat}{f:VF}
noncomputable def M6(N N':List Ue)(ix:List Nat)(names:List (Ue×Uq))(k:Ue->Option Uq):Bool:=
 names.all (λy=>y.2 != .cell || names.lookup y.1==b3 .cell)&&(names.all (λy=>y.2 != .local || names.lookup y.1==b3 .local)&&(names.all (λy=>y.2 != .free || (k y.1==b3 .cell || k y.1==b3 .free)) &&
  (decide N'.Nodup&&((Bf ix.length).all (λj=>N'[j]? ==(ix[j]?).bind λi=>N[i]?)&&(N'.take ix.length).all λx=>names.lookup x==b3 .free))))
def W6{N':List Ue}{scope:Ur}(hk:scope.kind=.function)(h:M6 X.N N' ix scope.names X.env.kindOf=ba):OH X N' ix scope:=by unfold M6 at h;simp only[Af,Dn,Hs,bne_iff_ne,beq_iff_eq,decide_eq_true_eq,Db]at h;obtain⟨h1,h2,f,d,c,b⟩:=h;exact⟨hk,λy a e=>(h1 y a).resolve_left λz=>z e,λy a e=>(h2 y a).resolve_left λz=>z e,λy a e=>(f y a).resolve_left λz=>z e,d,c,b⟩
abbrev BlkC(X:Cx)(K:Ah)(N':List Ue)(ix:List Nat)(scope:Ur)(tg:Uh)(a:List Uh)(b:Uh)(gg:VG)(pt:Bool)(tb:VB)(pe:Bool)(fe:VF):Prop:=N'.Nodup->∀(cl:List (Ue×Ub)) (s1:Ae) (H1:Hp) (fp:List Ub),Blk (ZV X N' scope cl s1 H1 fp) tg a b (TGV K (Bf ix.length) gg) (TB K (Bf ix.length) pt tb) (TV K (Bf ix.length) pe ba ba fe)
def Y5{tg iter c:Uh}{a:List Uh}{scope:Ur}{fi:VI}{gg:VG}{tb:VB}{fe:VF}(N':List Ue)(ix:List Nat)(nl:Nat)(hi:PI X tg iter (TIV K ml pi fi))(e:BlkC X K N' ix scope tg a c gg pt tb pe fe)(hc:X.calm=ba:=by rfl)(hk:scope.kind=.function:=by rfl)(b:M6 X.N N' ix scope.names X.env.kindOf=ba:=by rfl)(d:N'.length=ix.length+nl:=by rfl)(hnd:ix.Nodup:=by decide)(f:∀x,Uo iter X.env x=pure x:=by intro _;rfl):PE X (.ListComp c [⟨tg,iter,a,0⟩] scope pos) (TN K ml (pi&&pt&&pe) (ZX ix nl fi gg tb fe)):=
 (gS hc (W6 hk b) d hi (e (W6 hk b).nd) f).imp λ_ _ _ h=>ET hnd h
def HV{i:Nat}{y:Ue}{d U:Pos}{tg iter c:Uh}{b:List Uh}{scope:Ur}{N':List Ue}{M:TI}{g:TG}{O:TT}{te:TE}(hN:X.N.Nodup)(B:X.N[i]?=b3 y)(k:X.env.scope.names.lookup y=b3 .local)(hc:X.calm=ba)(S:OH X N' ix scope)(t:N'.length=ix.length+nl)(hi:PI X tg iter M)(K:∀(cl:List (Ue×Ub)) (s1:Ae) (H1:Hp) (fp:List Ub),Blk (ZV X N' scope cl s1 H1 fp) tg b c g O te)(o:Hk (.ListComp c [⟨tg,iter,b,0⟩] scope pos) (b3 (.Name y d)) U.line X.env=pure ba:=by rfl)(Z:∀x,Uo iter X.env x=pure x:=by intro _;rfl):PS X (.Assign [.Name y d] (.ListComp c [⟨tg,iter,b,0⟩] scope pos) U) (tAsg (IP ix nl M g O te) (DB i)):=by
 intro aa s σ H D I h;rw[exec_Assign_Name_used _ _ _ _ o];refine Ac (Gg (Ac ?_));show Ud _ X.A (do let _<-comprehension (.ListComp c [⟨tg,iter,b,0⟩] scope pos) scope X.env _ (newList []) bb (eval iter X.env) (b3 (assign (.Name y d) X.env))) _ _ s;obtain⟨cl,e1,e2,e3⟩:=C7 (env:=X.env) (scope:=scope) λy k hf=>I.ok.has y.1 (S.free y k hf);refine Ac (Cd (La (use:=b3 (assign (.Name y d) X.env)) (cl:=cl) (Q:=λ_ s'=>SP X aa D .next s') rfl Z e1 S.kind S.names
  (Cd (hi aa s σ H _ I h) (λxv R j=>Cd j (λY P f=>?_) λ_ _ e=>e) λ_ _ e=>e)) (λ_ s' r=>Ai (Ai r)) λ_ _ e=>e)
 obtain⟨it,fp,tn,J,H2,e,I2,T,l,f2,q⟩:=f;subst e;refine M7 (Q:=λv H'=>D.nx (σ.set i (b3 v)) H') (RR:=λacc C=>compPost (Uf X.prog X.w) X.A X.xe (b3 (assign (.Name y d) X.env)) (λ_ s'=>SP X aa D .next s') acc C) hc S t e2 e3 K I2 T l f2 q ?_;intro V C s' H' I' u G F hb r;obtain⟨m,u⟩:=u;show Ud _ X.A (assign (.Name y d) X.env (.ref V)) _ _ _;refine Hx (L9 I' hN B (.inl k) (v:=.ref V) rfl (λn L ⟨a,p,ha⟩=>?_) (.inr k));have E:C≠a:=by
  rcases ha with z|z
  ·rw[z];exact G
  ·exact Di (F y a z)
 exact⟨m,u.sameBut p E,λh'' W=>⟨_,H',hb _ n h'' L W,r⟩⟩
def jJ{i:Nat}{y:Ue}{j k:Pos}{tg iter b:Uh}{a:List Uh}{scope:Ur}{fi:VI}{gg:VG}{tb:VB}{fe:VF}(o:Bool)(p:X.N.Nodup)(N':List Ue)(ix:List Nat)(nl:Nat)(hi:PI X tg iter (TIV K ml pi fi))(g:BlkC X K N' ix scope tg a b gg pt tb pe fe)(f:X.N[i]?=b3 y:=by rfl)(l:X.env.scope.names.lookup y=b3 .local:=by rfl)(hc:X.calm=ba:=by rfl)(hk:scope.kind=.function:=by rfl)(c:M6 X.N N' ix scope.names X.env.kindOf=ba:=by rfl)(e:N'.length=ix.length+nl:=by rfl)(hnd:ix.Nodup:=by decide)(n:i∉ml:=by decide)(d:Hk (.ListComp b [⟨tg,iter,a,0⟩] scope pos) (b3 (.Name y j)) k.line X.env=pure ba:=by rfl)(m:∀x,Uo iter X.env x=pure x:=by intro _;rfl):PS X (.Assign [.Name y j] (.ListComp b [⟨tg,iter,a,0⟩] scope pos) k) (WO K ml (a8 i (if o then xO (ZX ix nl fi gg tb fe)else xV (ZX ix nl fi gg tb fe)))):=
 (HV p f l hc (W6 hk c) e hi (g (W6 hk c).nd) d m).imp λD σ H h=>Xa (λσ H Q z=>ET hnd (Yq (pu:=pi&&pt&&pe) z)) n h
end
section
variable{X:Cx}{K:Ah}{ml:List Nat}{e a b c:Uh}{es:List Uh}{pi pt pe pu bt bi ps bs:Bool}{f:VF}{B B':Bs}{O:Nat->Option Ub}{H H0 H1 H':Hp}{σ:St}{δ δ':Ev}{v:V}{d:c6}{p:Ub}{pos:Pos}{ix:List Nat}{nl:Nat}
def dC(K:Ah)(N:Ub->Prop)(J:It)(H:Hp)(ds:List c6):Prop:=∃xs:List V,cG K N H xs ds/\∀H2,bH H H2->(∀(i:Nat) (x:V),xs[i]?=b3 x->J.go i H2/\∀y a,J.yld i H2 y a->a=H2/\y=x)/\J.stop xs.length H2
inductive Xp(K:Ah)(ml:List Nat)(f:VI)(σ:St)(H:Hp)(R:It->Hp->Prop):Prop
 |mk (B:_) (O:_) (δ:_) (ds:_) (δ':_) (h0:a7 K ml B O H σ δ) (h1:f δ=b3 (ds,δ')) (h2:∀J H',a7 K ml B O H' σ δ'->bH H H'->dC K (Nn B O) J H' ds->R J H'):Xp K ml f σ H R
def TIVp(K:Ah)(ml:List Nat)(f:VI):TI:=λσ H R=>Xp K ml f σ H R
def jW{fi:VI}{gg:VG}{tb:VB}{fe:VF}(hnd:ix.Nodup){Q:VK}(h:TN K ml ba (ZX ix nl fi gg tb fe) σ H Q):IP ix nl (TIVp K ml fi) (TGV K (Bf ix.length) gg) (TB K (Bf ix.length) ba tb) (TV K (Bf ix.length) ba ba ba fe) σ H Q:=by obtain⟨B,O,δ,ds,δ',S,e,k⟩:=IU (pi:=ba) (pt:=ba) (pe:=ba) hnd h;refine⟨B,O,δ,ds,δ',S,e,λJ H' m p w=>?_⟩;obtain⟨b,a,c⟩:=w;refine k J (b.zip ds) H' (m.keepV (XG a)) p.fr (λ_=>p) λN H1 z f=>⟨λi d hd=>?_,by rw[<-a.length];exact(c H1 (f rfl)).2⟩;obtain⟨x,j,l⟩:=(VV a.length z).get hd;have w:=(c H1 (f rfl)).1 i x j;exact⟨w.1,λy n g=>by obtain⟨rfl,rfl⟩:=w.2 y n g;exact⟨.refl _,l⟩⟩
def bH.sqT{a:Ub}{xs:List V}(s:bH H H')(h:WS K H a xs):WS K H' a xs:=Fr.tup (P:=λ_=>False) s.fr h
def iN{tg:Uh}(n:X.K=K)(h:PE X e (TV K ml ba bt bi f))(o:bi=ba:=by rfl):PI X tg e (TIVp K ml (U5 f)):=by
 subst o;refine((Yl (K:=K) n h).or (Vu (K:=K) n h)).imp λσ H R g=>?_;obtain⟨B,O,δ,ds,δ',S,q,k⟩:=g;unfold U5 at q;obtain⟨⟨x,δ1⟩,h1,q⟩:=Aa.mp q;cases x with
 |lst m=>
  cases q;refine .inl ⟨B,O,δ,_,δ1,S,h1,λv H1 c=>?_⟩;obtain⟨a,xs,rfl,sq,r⟩:=c.rep.lstE;refine⟨a,rfl,⟨xs,sq⟩,k _ H1 c.sta (c.pur rfl) ⟨xs,r,λH2 b=>⟨λi x ex=>⟨⟨xs,x,b.seq sq,ex⟩,λy p d=>?_⟩,xs,b.seq sq,Aq _⟩⟩⟩;obtain⟨l,j⟩:=d;have:=j xs (b.seq sq)
  rw[ex]at this;cases this;exact⟨l,rfl⟩
 |tup m=>
  cases q;refine .inr ⟨B,O,δ,_,δ1,S,h1,λv H1 c=>?_⟩;obtain⟨a,xs,rfl,sq,r⟩:=c.rep.tupE;refine⟨a,rfl,⟨xs,sq⟩,k _ H1 c.sta (c.pur rfl) ⟨xs,r,λH2 b=>⟨λi x ex=>⟨⟨xs,x,b.sqT sq,ex⟩,λy p d=>?_⟩,xs,b.sqT sq,Aq _⟩⟩⟩;obtain⟨l,j⟩:=d;have:=j xs (b.sqT sq)
  rw[ex]at this;cases this;exact⟨l,rfl⟩
 |_=>cases q
def eB{i:Nat}{y:Ue}{j k:Pos}{tg iter b:Uh}{a:List Uh}{scope:Ur}{fi:VI}{gg:VG}{tb:VB}{fe:VF}(o:Bool)(q:X.N.Nodup)(N':List Ue)(ix:List Nat)(nl:Nat)(hi:PI X tg iter (TIVp K ml fi))(g:BlkC X K N' ix scope tg a b gg pt tb pe fe)(f:X.N[i]?=b3 y:=by rfl)(l:X.env.scope.names.lookup y=b3 .local:=by rfl)(hc:X.calm=ba:=by rfl)(hk:scope.kind=.function:=by rfl)(c:M6 X.N N' ix scope.names X.env.kindOf=ba:=by rfl)(e:N'.length=ix.length+nl:=by rfl)(hnd:ix.Nodup:=by decide)(n:(pt&&pe)=ba:=by rfl)(p:i∉ml:=by decide)(d:Hk (.ListComp b [⟨tg,iter,a,0⟩] scope pos) (b3 (.Name y j)) k.line X.env=pure ba:=by rfl)(m:∀x,Uo iter X.env x=pure x:=by intro _;rfl):PS X (.Assign [.Name y j] (.ListComp b [⟨tg,iter,a,0⟩] scope pos) k) (WO K ml (a8 i (if o then xO (ZX ix nl fi gg tb fe)else xV (ZX ix nl fi gg tb fe)))):=by obtain⟨h1,h2⟩:=(Af _ _).mp n;subst h1 h2;exact(HV q f l hc (W6 hk c) e hi (g (W6 hk c).nd) d m).imp λD σ H h=>Xa (λσ H Q z=>jW hnd (Yq (pu:=ba) z)) p h
end
section
variable{X:Cx}{K:Ah}{ml:List Nat}{e a b c:Uh}{es:List Uh}{pa ta ia pb tb ib pc tc ic pu bt bi ps bs:Bool}{fa fb fc f:VF}{B B':Bs}{O:Nat->Option Ub}{H H1 H':Hp}{σ:St}{δ δ':Ev}{v:V}{d:c6}{p:Ub}{pos:Pos}
noncomputable def FG(d0:c6)(i:Nat)(F:bW):bW:=λds=>(F (ds.take i++d0::ds.drop i)).map λq=>(q.1,q.2.dropLast)
def SU.awayS{H2:Hp}{N N':Ub->Prop}{q:Ub}(c:H p=b4)(b:bH H H2)(e:∀a,N' a->N a∨a=p)(w:SU K N H q d):SU K N' H2 q d:=by
 cases w with
 |lst q r=>exact .lst (b _ _ q) ((r.away c _ _ e).same b)
 |dct q r=>exact .dct (b _ _ q) ((r.away c _ _ e).same b)
 |nst q r=>exact .nst (q.same b) ((r.away c _ _ e).same b)
def IL{d0:c6}{H2:Hp}{mF:List Nat}{i:Nat}{F:bW}{c:List V}{Q:VK}{E:XK}(s:∀j∈mF,j<i)(I:H p=b4)(M:bH H H2)(own:∀N,SU K N H2 p d0)(h:spV K mF (i+1) (FG d0 i F) (c++[v]) H Q E):spV K (mF++[i]) (i+2) F (c++[.ref p,v]) H2 Q E:=by
 obtain⟨Z,ds,r,os,hl,A,J,k⟩:=h;obtain⟨l,d,rfl⟩:∃l d,ds=l++[d]:=⟨ds.dropLast,ds.getLast (λz=>by rw[z]at hl;cases hl),(Je _).symm⟩;have n:l.length=i:=by simpa using hl
 have B:c.length=i:=by have:=A.len;simp at this;lia
 unfold FG at J;rw[Rm n,List.drop_left' n]at J;obtain⟨⟨r',R⟩,h0,J⟩:=Ao.mp J;cases J;have lo:∀(j:Nat),j<i->(c++[.ref p,v])[j]?=(c++[v])[j]? :=λj g=>by rw[An (by lia),An (by lia)]
 have t:(c++[.ref p,v])[i]?=b3 (.ref p):=by rw[Bo (by lia),B,Kr];rfl
 have at2:(c++[.ref p,v])[i+1]?=b3 v:=by rw[Bo (by lia),B,show i+1-i=1 by lia];rfl
 have at3:(c++[v])[i]?=b3 v:=by rw[Bo (by lia),B,Kr];rfl
 have L:∀(j:Nat),j<i->(l++d0::[d])[j]?=(l++[d])[j]? :=λj g=>by rw[An (by lia),An (by lia)]
 have dt1:(l++d0::[d])[i]?=b3 (d0):=by rw[Bo (by lia),n,Kr];rfl
 have dt2:(l++d0::[d])[i+1]?=b3 d:=by rw[Bo (by lia),n,show i+1-i=1 by lia];rfl
 have dt3:(l++[d])[i]?=b3 d:=by rw[Bo (by lia),n,Kr];rfl
 have hP:∀a,QS (mF++[i]) (c++[.ref p,v]) a->QS mF (c++[v]) a∨a=p:=λa q0=>by
  obtain⟨j,g,e⟩:=q0;rcases Bx.mp g with g|g
  ·exact .inl ⟨j,g,by rw[<-lo j (s j g)];exact e⟩
  ·rw[At.mp g,t]at e
   cases e;exact .inr rfl
 have Y:∀a,QS mF (c++[v]) a->QS (mF++[i]) (c++[.ref p,v]) a:=λa ⟨j,g,e⟩=>⟨j,Bp _ g,by rw[lo j (s j g)];exact e⟩;have X:∀a,Zp Z (mF++[i]) (c++[.ref p,v]) a->Zp Z mF (c++[v]) a∨a=p:=λa h=>by
  rcases h with h|h
  ·exact .inl (.inl h)
  ·exact(hP a h).imp .inr id
 have C:∀a,Zp Z mF (c++[v]) a->Zp Z (mF++[i]) (c++[.ref p,v]) a:=λa h=>h.imp id (Y a);have up:∀{u:V}{x:c6},bV K (Zp Z mF (c++[v])) H (Zp Z mF (c++[v])) u x->bV K (Zp Z (mF++[i]) (c++[.ref p,v])) H2 (Zp Z (mF++[i]) (c++[.ref p,v])) u x:=λr=>(r.away I _ _ X X).same (M);have D:∀{j:Nat},j∈mF->(c++[v])[j]? ≠b3 (.ref p):=λ{j} g e=>by have hj':=A.mem j g;obtain⟨a,m,w,_⟩:=A.ow j ((l++[d])[j]'hj') g (by simp);rw[e]at m;cases m;obtain⟨o,q,_⟩:=w.soft;rw[I]at q;cases q
 refine⟨Z,l++d0::[d],_,R,by simp[n],⟨by simp;lia,λj g=>?_,λj x g e=>?_,λj x g e=>?_,λS G a h1 h2 m y=>?_,λa h=>let ⟨o,q⟩:=A.zin a h;⟨o,M _ _ q⟩⟩,h0,λu H' f w rr=>k u H' (λb o W hc=>f b o (M _ _ W) λz=>?_) (λkk j a o m y O=>?_) (rr.mono C C)⟩
 ·rcases Bx.mp g with g|g
  ·have:=s j g
   simp;lia
  ·rw[At.mp g]
   simp;lia
 ·have T : j ∉ mF := λz => g (Bp _ z)
  have hji:j≠i:=λz=>g (Bq _ (At.mpr z));by_cases h1:j<i
  ·rw[L j h1]at e
   obtain⟨u,m,P⟩:=A.va j x T e;exact⟨u,by rw[lo j h1];exact m,up P⟩
  ·have U:j=i+1:=by
    have:=(Ag.mp e).1
    simp at this;lia
   subst U;rw[dt2]at e;cases e;obtain⟨u,m,P⟩:=A.va i d (λz=>absurd (s i z) (Ck _)) dt3;rw[at3]at m;cases m;exact⟨v,at2,up P⟩
 ·rcases Bx.mp g with g|g
  ·rw[L j (s j g)]at e
   obtain⟨u,m,w1,z1⟩:=A.ow j x g e;exact⟨u,by rw[lo j (s j g)];exact m,w1.awayS I M X,z1⟩
  ·have:=At.mp g
   subst this;rw[dt1]at e;cases e;exact⟨p,t,own _,λz=>by obtain⟨o,q⟩:=A.zin p z;rw[I]at q;cases q⟩
 ·rcases Bx.mp h1 with h1|h1
  ·rw[lo S (s S h1)]at m
   rcases Bx.mp h2 with h2|h2
   ·rw[lo G (s G h2)]at y
    exact A.inj S G a h1 h2 m y
   ·rw[At.mp h2,t]at y
    cases y;exact absurd m (D h1)
  ·rcases Bx.mp h2 with h2|h2
   ·rw[lo G (s G h2)]at y
    rw[At.mp h1,t]at m;cases m;exact absurd y (D h2)
   ·rw[At.mp h1,At.mp h2]
 ·rcases hP b z with z|z
  ·exact hc z
  ·rw[z,I]at W
   cases W
 ·refine(w kk j a o ?_ ?_ ?_).mono C
  ·rw[An (Ag.mp m).1]
   exact m
  ·rw[lo j (s j (Dt m))]
   exact y
  ·rw[List.getElem?_dropLast]at O
   split at O
   ·exact O
   ·cases O
inductive Xr(K:Qa)(ml:List Nat)(pu:Bool)(W:Hp->Ub->Hp->Prop)(f:T9)(σ:St)(H:Hp)(Q:List V->Hp->Prop):Prop
 |mk (B:_) (O:_) (δ:_) (as:_) (δ':_) (h0:a7 K ml B O H σ δ) (h1:f δ=b3 (as,δ')) (h2:∀vs H',ResG K ml B O H σ pu H' δ' vs as->∀vs1 v,vs=vs1++[v]->∀p H2,W H' p H2->Q (vs1++[.ref p,v]) H2):Xr K ml pu W f σ H Q
def GL(K:Qa)(ml:List Nat)(pu:Bool)(W:Hp->Ub->Hp->Prop)(f:T9):TA:=λσ H Q=>Xr K ml pu W f σ H Q
def WG(K:Ah)(d0:c6)(H:Hp)(p:Ub)(H2:Hp):Prop:=H p=b4/\bH H H2/\∀N,SU K N H2 p d0
def WE(H:Hp)(p:Ub)(H2:Hp):Prop:=H p=b4/\H2=upd H p (.dK [])
abbrev TAGG(K:Ah)(ml:List Nat)(pu:Bool)(d0:c6)(f:T9):TA:=GL K ml pu (WG K d0) f
def insD(i:Nat)(F:bW):bW:=FG (.dct [] []) i F
def lP{mF:List Nat}{i:Nat}{F:bW}{a:List V}{Q:VK}{E:XK}(c:∀j∈mF,j<i)(b:H p=b4)(h:spV K mF (i+1) (insD i F) (a++[v]) H Q E):spV K (mF++[i]) (i+2) F (a++[.ref p,v]) (upd H p (.dK [])) Q E:=
 IL c b (cW b) (λ_=>.dct (kvs:=[]) cH .nil) h
abbrev TAGE(K:Ah)(ml:List Nat)(pu:Bool)(f:T9):TA:=GL K ml pu WE f
def Zs{j:Nat}{a:Pos}(i:PE X b (WH j))(g:Uc (.Dict [] [] a::b::[]) X.env=(bb,eval (.Dict [] [] a) X.env)::Uc (b::[]) X.env:=by rfl)(c:SE X b []:=by rfl):
  PA X [.Dict [] [] a,b] (TAGE K ml ba (aE (fV j) cE)):=(b8 HR (b8 i aH c) g).imp λσ H Q f=>by
 obtain⟨B,O,δ,as,δ2,S,q,k⟩:=f;unfold aE at q;obtain⟨z,h1,q⟩:=Aa.mp q;cases q;unfold fV at h1;split at h1
 ·rename_i d hd
  cases h1;intro p h;obtain⟨v,e,r⟩:=S.va j _ hd;exact⟨v,e,k [v] H ⟨S,Fr.refl _ _,λ_=>bH.refl _,.d r .nil⟩ [] v rfl p _ ⟨h,rfl⟩⟩
 ·cases h1
def EV{W:Hp->Ub->Hp->Prop}{fs:T9}(n:PE X a (TV K ml pa ba ba fa))(l:PA X es (GL K ml ps W fs))(j:SE X a es:=by rfl):PA X (a::es) (GL K ml (pa&&ps) W (aE fa fs)):=(b8 n l j).imp λσ H Q e=>by obtain⟨B,O,δ,as,δ2,S,q,k⟩:=e;unfold aE at q;obtain⟨⟨x,δ1⟩,h1,q⟩:=Aa.mp q;have q:((fs δ1).map λq=>(AV.d x::q.1,q.2))=b3 (as,δ2):=q;obtain⟨p2,h2,q⟩:=Ao.mp q;cases q;refine⟨B,O,δ,x,δ1,S,h1,λf H1 b=>⟨B,O,δ1,_,_,b.sta,h2,λvs H2 R2 c v i p m=>k (f::vs) H2 ⟨R2.sta,b.frm.trans R2.frm,λz=>?_,.d (b.rep.fr R2.frm (λa z=>.inr z) λa z=>.inr z) R2.rep⟩ (f::c) v (by rw[i];rfl) p m⟩⟩;obtain⟨h,g⟩:=(Af _ _).mp z;exact(b.pur h).trans (R2.pur g)
def Wj{W:Hp->Ub->Hp->Prop}{fs:T9}{j:Nat}(l:PE X a (WH j))(h:PA X es (GL K ml ps W fs))(g:SE X a es:=by rfl):PA X (a::es) (GL K ml ps W (aO j fs)):=(b8 l h g).imp λσ H Q c=>by obtain⟨B,O,δ,as,δ2,S,q,k⟩:=c;unfold aO at q;obtain⟨d,h1,q⟩:=Aa.mp q;have q:((fs δ).map λq=>(AV.o j::q.1,q.2))=b3 (as,δ2):=q;obtain⟨p2,h2,q⟩:=Ao.mp q;cases q;obtain⟨v,e⟩:=S.slot h1;exact⟨v,e,B,O,δ,_,_,S,h2,λvs H2 R2 b u f p i=>k (v::vs) H2 ⟨R2.sta,R2.frm,R2.pur,.o e R2.rep⟩ (v::b) u (by rw[f];rfl) p i⟩
def nN{x:Ue}{d j i:Nat}{f:List Ue}{mF:List Nat}{F:bW}{u:Ub}{p':Pos}{fs:T9}(t:X.K=K)(D:Def X.prog X.w K X.mg X.base x d f (spV K (mF++[i]) (i+2) F) u)(n:∀j∈mF,j<i)(l:Y0 j X.A)(hk:d<=j)(o:Gl X x)(s:PA X (e::es) (TAGE K ml ps fs))(c:ND x:=by decide)(r:SE X e es:=by rfl)(b:(Fa pos (Uc es X.env)).any (·.1)=bb:=by rfl):PE X (.Call (.Name x p') (e::es) [] pos) (TV K ml (ps&&mF.isEmpty) ba ba (cP (i+1) mF (insD i F) fs)):=by subst t;refine(NV D l hk o s c r b).imp λσ H Q h=>?_;obtain⟨B,O,δ,as,δ',S,q,k⟩:=OY h;refine⟨B,O,δ,as,δ',S,q,λvs H' R a v g p H2 hw=>?_⟩;obtain⟨m,rfl⟩:=hw;subst g;have z:spV X.K mF (i+1) (insD i F) ((a++[v])++[]) H' Q E0:=k _ H' R;show spV X.K (mF++[i]) (i+2) F ((a++[.ref p,v])++[]) (upd H' p (.dK [])) Q E0;rw[Em]at z⊢;exact lP n m z
end
section
variable{X:Cx}{K:Ah}{ml:List Nat}{e a b c:Uh}{es:List Uh}{pa ta ia pb tb ib pc tc ic pu bt bi ps bs:Bool}{fa fb fc f:VF}{pos p':Pos}{d:c6}{x:Ue}
def vv(i:Nat)(c:X.N[i]?=b3 x:=by rfl)(b:Vis X.env.scope x:=by first|exact Cf rfl|exact Bk (Cf rfl)|exact Bk (Bk rfl))(hd:ND x:=by decide)(a:(x==("__classdict__":Ue))=bb:=by decide):PE X (.Name x pos) (TV K ml ba ba ba (fV i)):=qt (FU c b hd a)
def vo(i:Nat)(c:X.N[i]?=b3 x:=by rfl)(b:Vis X.env.scope x:=by first|exact Cf rfl|exact Bk (Cf rfl)|exact Bk (Bk rfl))(hd:ND x:=by decide)(a:(x==("__classdict__":Ue))=bb:=by decide):PE X (.Name x pos) (TV K ml ba bb ba (fO i)):=fD (FU c b hd a)
def YA(d:X.A.units+1<cLine)(g:PE X a (TV K ml pa ta ia fa))(f:PE X b (TV K ml pb tb ib fb))(h:X.K=K:=by rfl)(c:W7 b:=by exact λ_ _=>rfl)(e:(pb || (ta&&ia))=ba:=by rfl):PE X (.Subscript a b pos) (TV K ml (pa&&pb) ia ia (f2 bL fa fb)):=
 mH (kIxA d h) nW g f c e
def veq(c:X.A.units+64<cLine)(f:PE X a (TV K ml pa ta ia fa))(e:PE X b (TV K ml pb tb ib fb))(g:X.K=K:=by rfl)(d:(pb || (ta&&ia))=ba:=by rfl):PE X (.Compare a [.Eq] [b] pos) (TV K ml (pa&&pb) ba ba (f2 WM fa fb)):=
 X5 (kEqD c g) s_eq f e (UO _) d
def V4(c:X.A.units+64<cLine)(f:PE X a (TV K ml pa ta ia fa))(e:PE X b (TV K ml pb tb ib fb))(g:X.K=K:=by rfl)(d:(pb || (ta&&ia))=ba:=by rfl):PT X (.Compare a [.Eq] [b] pos) (TB K ml (pa&&pb) (fB (f2 WM fa fb))):=
 bZ (kEqD c g) s_eq f e (UO _) d
def bR{c j n:Nat}{d:List Ue}{mF:List Nat}{F:bW}{l:Ub}{fs:T9}(D:Def X.prog X.w K X.mg X.base x c d (spV K mF n F) l)(f:Y0 j X.A)(i:PA X (e::es) (C0 K ml ps fs))(k:X.K=K:=by rfl)(hk:c<=j:=by decide)(g:Gl X x:=by rfl)(b:ND x:=by decide)(h:SE X e es:=by rfl)(a:(Fa pos (Uc es X.env)).any (·.1)=bb:=by rfl):PE X (.Call (.Name x p') (e::es) [] pos) (TV K ml (ps&&mF.isEmpty) ba ba (cP n mF F fs)):=qh k D f hk g i b h a
def XS(b:X.mg "len"=b4)(e:PE X a (TV K ml pa ta ia fa))(f:X.K=K:=by rfl)(c:Gl X "len":=by rfl)(d:SE X a []:=by rfl):PE X (.Call (.Name "len" p') [a] [] pos) (TV K ml pa ba ba (f1 Y8 fa)):=
 Uz (Ze f) kX c b nH e (by decide) (by decide) d
def vty{n:String}(c:X.mg x=b4)(a:Bm x=b3 (.type n))(d:Gl X x:=by rfl)(b:x≠ "__name__":=by decide)(hd:ND x:=by decide):PE X (.Name x pos) (TV K ml ba ba ba (fC (.ty n))):=
 CP (iE (v:=.ty n) d c a rfl b hd) λ_ _ _=>.ty _
def KO(f:X.mg "isinstance"=b4)(j:PE X a (TV K ml pa ta ia fa))(i:PE X b (TV K ml pb tb ib fb))(k:X.K=K:=by rfl)(g:Gl X "isinstance":=by rfl)(h:SE X a [b]:=by rfl)(d:SE X b []:=by rfl)(c:(Fa pos (Uc [b] X.env)).any (·.1)=bb:=by rfl)(e:(pb || (ta&&ia))=ba:=by rfl):PE X (.Call (.Name "isinstance" p') [a,b] [] pos) (TV K ml (pa&&pb) ba ba (f2 TD fa fb)):=X8 (kIsi k) oV g f b6 j i (by decide) (by decide) h d c e
end
def A4(K:Ah)(x:Ue)(st:Um)(f:Ub):Prop:=∃(d:Ua) (od:Option Ub) (kV doc c:Ua) (e:Option Ub) (a ct:Ua) (b:Array (Option Ua)),Gr K Ug x=b3 (b3 (.ref f))∧
 K.lookup f=b3 ⟨d,od,.func (Ma x x (YX st) (aQ st) (cV st) .none kV doc c e a ct),b⟩/\Od K a x=ba/\Ja K (.ref f)=ba
def a4{K:Ah}{x:Ue}{st:Um}{f:Ub}{i:Ua}{od:Option Ub}{kV doc h:Ua}{j:Option Ub}{e ct:Ua}{g:Array (Option Ua)}(a:Gr K Ug x=b3 (b3 (.ref f)))(b:K.lookup f=b3 ⟨i,od,.func (Ma x x (YX st) (aQ st) (cV st) .none kV doc h j e ct),g⟩)(c:Od K e x=ba)(d:Ja K (.ref f)=ba):A4 K x st f:=⟨i,od,kV,doc,h,j,e,ct,g,a,b,c,d⟩
def YT{P:Aw}{w:Uj}{K:Ah}{mg:Ue->Option Ua}{base h:Uk}{x:Ue}{st:Um}{f:Ub}{ps:List Ue}{sp:Sp}{k:Nat}(X:K.In h)(G:h.Ns Ug mg)(p:A4 K x st f)(ok:∀{fd:Dw},X1 K x x st f fd->aI P w K mg base CX0 k f fd ps sp)(m:∀{kV doc i:Ua}{j:Option Ub}{e ct:Ua}(g:List Ua),g.length=ps.length->Qv (Ma x x (YX st) (aQ st) (cV st) .none kV doc i j e ct) ⟨g,[]⟩=pure (ps.zip g)):Def P w K mg base x k ps sp f:=by obtain⟨n,od,kV,doc,i,j,e,ct,l,a,b,c,d⟩:=p;have U:=JS (st:=st) b c d;exact⟨Eh X G a,⟨_,ok U,U.binds λ_ _ _ _ _ _=>m⟩,d⟩
def RV(P:Aw)(w:Uj)(K:Ah)(mg:Ue->Option Ua)(base:Uk){x qual:Ue}{st:Um}{f:Ub}{fd:Dw}(N ps:List Ue)(k:Nat)(g:VS)(ml:List Nat)(F:X1 K x qual st f fd)(S:cD N ps (cV st))(d:∀(a:Ua) (A:Cb) (outer:List Env) (s:Ae) (H:Hp) (E:XK) (b:Y0 k (A.deeper (envOfC qual (cV st) s.heap.objs.size f a))) (_:(A.deeper (envOfC qual (cV st) s.heap.objs.size f a)).units+64<cLine) (_:(A.deeper (envOfC qual (cV st) s.heap.objs.size f a)).units+1<cLine),WU (QZ CX0 P w K mg base N qual (cV st) f a A outer s H E).nox (aQ st) (WO K ml g))(c:ps.length<=N.length:=by decide):aI P w K mg base CX0 (k+1) f fd ps (spV K ml ps.length (Z9 N.length ml g)):=
 X1.okV F S c λa A outer s H E b=>d a A outer s H E b b.units (Wx b)
def Y7{N P:List Ue}{h:Ur}(a:h.kind=.function:=by rfl)(b:h.isCoroutine=bb:=by rfl)(c:h.isGenerator=bb:=by rfl)(d:N.Nodup:=by decide+kernel)(e:N.take P.length=P:=by rfl)(f:∀x∈P,h.names.lookup x=b3 .local∨h.names.lookup x=b3 .cell:=by decide+kernel)(g:∀y∈h.names,y.2≠Bt:=by decide+kernel):cD N P h:=⟨a,b,c,d,e,f,g⟩
def KD{α:Type}:Ut α->Prop
 |.pure _=>True
 |.raise _=>True
 |.unsupported _=>True
 |.finish _=>True
 |.rule _ k=>KD (k ())
 |.at _ k=>KD (k ())
 |.load _ _ k=>∀o,KD (k o)
 |.update _ _ f k=>(∀o,(f o).dict=o.dict)/\KD (k ())
 |.alloc _ k=>∀a,KD (k a)
 |.loadIfAlive _ k=>∀o,KD (k o)
 |.point _ k=>KD (k ())
 |.stack k=>∀l,KD (k l)
 |.fresh k=>∀l,KD (k l)
 |.ask k=>∀l,KD (k l)
 |.handled _ k=>∀l,KD (k l)
 |_=>False
def Dc(e:Ub)(d:Option Ub)(h:Uk):Prop:=∃o,h.objs[e]?=b3 o/\o.dict=d
def Dc.of{e:Ub}{h:Uk}{o:Ul}(q:h.get? e=b3 o):Dc e o.dict h:=⟨o,(Om.mp q).1,rfl⟩
theorem Dc.at{e:Ub}{d:Option Ub}{h:Uk}{o:Ul}(D:Dc e d h)(q:h.get? e=b3 o):o.dict=d:=by obtain⟨o',a,b⟩:=D;rw[(Om.mp q).1]at a;cases a;exact b
def Dc.upd{e a:Ub}{d:Option Ub}{h:Uk}{f:Ul->Ul}(D:Dc e d h)(i:∀o,(f o).dict=o.dict):Dc e d (h.update a f):=by
 obtain⟨o,g,c⟩:=D;cases h;simp only[Dc,Heap.update,Array.getElem?_modify];by_cases b:a=e
 ·subst b
  exact⟨f o,by rw[if_pos rfl,g];rfl,(i o).trans c⟩
 ·exact⟨o,by rw[if_neg b];exact g,c⟩
def Dc.push{e:Ub}{d:Option Ub}{h:Uk}(o:Ul)(D:Dc e d h):Dc e d (h.push o):=by obtain⟨b,a,c⟩:=D;cases h;refine⟨b,?_,c⟩;simp only[Heap.push,Array.getElem?_push];rw[if_neg (Bb (Array.getElem?_eq_some_iff.mp a).1)];exact a
def eW{α:Type}{M:Uu}{i:PySem.Ctx}{e:Ub}{d:Option Ub}{E:Ua->Pos->Ae->Prop}:∀(t:Ut α) (Q:α->Pos->Ae->Prop) (p:Pos) (s:Ae),KD t->Dc e d s.heap->Sem.wp M i t Q E p s->Sem.wp M i t (λa p s'=>Q a p s'/\Dc e d s'.heap) E p s:=by
 intro t;induction t with
 |pure a=>intro Q p s _ D h;simp only[Sem.wp_pure]at h⊢;exact⟨h,D⟩
 |raise v=>intro Q p s _ D h;simp only[Sem.wp_raise]at h⊢;exact h
 |unsupported w=>intro Q p s _ D h;simp only[Sem.wp_unsupported]at h
 |finish w=>intro Q p s _ D h;simp only[Sem.wp_finish]at h
 |rule g k c=>intro Q p s K D h;simp only[Sem.wp_rule]at h⊢;exact c () Q p s K D h
 | «at» q k c=>intro Q p s K D h;simp only[Sem.wp_at]at h⊢;exact c () Q q s K D h
 |load a b k c=>intro Q p s K D h;rw[Sem.wp_load]at h⊢;obtain⟨o,j,h⟩:=h;exact⟨o,j,c o Q p s (K o) D h⟩
 |update a b f k c=>intro Q p s K D h;rw[Sem.wp_update]at h⊢;exact⟨h.1,c () Q p _ K.2 (D.upd K.1) h.2⟩
 |alloc o k c=>intro Q p s K D h;simp only[Sem.wp_alloc]at h⊢;exact c _ Q p _ (K _) (D.push o) h
 |loadIfAlive a k c=>intro Q p s K D h;simp only[Sem.wp_loadIfAlive]at h⊢;exact c _ Q p s (K _) D h
 |point l k c=>intro Q p s K D h;simp only[Sem.wp_point]at h⊢;exact c () Q p s K D h
 |stack k c=>intro Q p s K D h;rw[Sem.wp]at h⊢;exact c _ Q p s (K _) D h
 |fresh k c=>intro Q p s K D h;simp only[Sem.wp_fresh]at h⊢;exact c _ Q p _ (K _) D h
 |ask k c=>intro Q p s K D h;simp only[Sem.wp_ask]at h⊢;exact c _ Q p s (K _) D h
 |handled o k c=>intro Q p s K D h;simp only[Sem.wp_handled]at h⊢;exact c _ Q p s (K _) D h
 |_=>intro Q p s K;exact K.elim
def JH{α:Type}{M:Uu}{A:Cb}{e:Ub}{d:Option Ub}{E:Ua->Ae->Prop}{t:Ut α}{Q:α->Ae->Prop}{s:Ae}(K:KD t)(D:Dc e d s.heap)(h:Ud M A t (λa s'=>Dc e d s'.heap->Q a s') E s):Ud M A t Q E s:=λc p b=>
 Sem.wp_mono M c t (λa p s' z=>z.1 z.2) (λ_ _ _ z=>z) p s (eW t _ p s K D (h c p b))
def KD.bind{α β:Type}{f:α->Ut β}:∀{m:Ut α},KD m->(∀a,KD (f a))->KD (m>>=f):=by
 intro m;show KD m->_->KD (Sem.bind m f);induction m with
 |pure a=>intro _ h;exact h a
 |raise v=>intro _ h;exact trivial
 |unsupported w=>intro _ h;exact trivial
 |finish w=>intro _ h;exact trivial
 |rule g k c=>intro K h;exact c () K h
 | «at» q k c=>intro K h;exact c () K h
 |load a b k c=>intro K h o;exact c o (K o) h
 |update a b f k c=>intro K h;exact⟨K.1,c () K.2 h⟩
 |alloc o k c=>intro K h a;exact c a (K a) h
 |loadIfAlive a k c=>intro K h o;exact c o (K o) h
 |point l k c=>intro K h;exact c () K h
 |stack k c=>intro K h l;exact c l (K l) h
 |fresh k c=>intro K h l;exact c l (K l) h
 |ask k c=>intro K h l;exact c l (K l) h
 |handled o k c=>intro K h l;exact c l (K l) h
 |_=>intro K;exact K.elim
def pC(f:Array Ua->Array Ua)(o:Ul):(Sy f o).dict=o.dict:=by unfold Sy;split<;>rfl
def KD.field(v:Ua)(i:Nat):KD (field v i):=by unfold PySem.field fieldsOf;repeat (first|exact trivial|exact λ_=>trivial|with_reducible refine KD.bind ?_ ?_|intro _|split)
def KD.setField(v:Ua)(i:Nat)(x:Ua):KD (setField v i x):=by unfold Rx updateField;repeat (first|exact trivial|exact⟨pC _,trivial⟩|exact λ_=>trivial|with_reducible refine KD.bind ?_ ?_|intro _|split)
def KD.flight(e:Ua)(f:Option Ub):KD (setFlight e f):=by unfold setFlight;repeat (first|exact trivial|exact KD.field _ _|exact KD.setField _ _ _|with_reducible refine KD.bind ?_ ?_|intro _|split)
theorem KD.ready:∀l:List Env,KD (readyFrames l)
 |[]=>trivial
 |env::outer=>by have a:=KD.ready outer;unfold readyFrames behindIsImport keptBack;repeat (first|exact trivial|exact a|exact KD.field _ _|exact⟨λ_=>rfl,trivial⟩|exact λ_=>trivial|with_reducible refine KD.bind ?_ ?_|intro _|split)
def KD.frameOf(env:Env):KD (Oo env):=by have h1:=KD.ready;unfold Oo frameObject frameEnvs;repeat (first|exact trivial|exact h1 _|exact λ_=>trivial|with_reducible refine KD.bind ?_ ?_|intro _|split)
def KD.place(f:Ub)(b:Bool):KD (Qg f b):=by unfold Qg;repeat (first|exact trivial|exact λ_=>trivial|with_reducible refine KD.bind ?_ ?_|intro _|split)
def KD.entry(a b c d e:Ua)(l:List Ua):KD (Nx a b c d e l):=by show KD (if _ then unsupported _>>=λ_=>Si _ _ _ else Si _ _ _);have h:∀x:Data,KD (Si (.type "traceback") x b4):=λx=>λ_=>trivial;repeat (first|exact trivial|exact h _|split)
def KD.note(e:Ua)(env:Env):KD (noteFrame e env):=by have h2:∀head f,KD (Oo env>>=λa=>Qg f (head != .none)>>=λc=>Nx head a .none (rawInt f) .none c>>=λb=>Rx e 1 b):=λ_ _=>KD.bind (KD.frameOf _) λ_=>KD.bind (KD.place _ _) λ_=>KD.bind (KD.entry _ _ _ _ _ _) λ_=>KD.setField _ _ _;unfold noteFrame;repeat (first|exact trivial|exact h2 _ _|exact KD.field _ _|exact KD.setField _ _ _|exact λ_=>h2 _ _|with_reducible refine KD.bind ?_ ?_|intro _|split)
def KD.leave(e:Ua)(env:Env):KD (leaving env e):=KD.bind (KD.note e env) λ_=>KD.flight e b4
end L2
namespace L2
open PySem PySem.Spec PyProof.Rows PySem.W PySem.Builtin PySem.Builtin.ObjectAttr
noncomputable abbrev vbs:List Ua:=[.type "ValueError",.type "Exception",.type "BaseException",.type "object"]
structure XA(K:Ah)(C:Ub):Prop where
 mro:W.mroIn K C (.type "object")=b3 ba
 cls:Qu K (.ref C) "__class__"=b3 (b3 (.builtin "object.__class__"))
 get:W.specialIn K (.builtin "object.__class__") "__get__"=b3 (b3 (.builtin "getset_descriptor.__get__"))
 tak:W.takesIn K (.builtin "object.__class__")=b3 ba
 ga:Qu K (.ref C) "__getattribute__"=b3 (b3 (.builtin "BaseException.__getattribute__"))
 no:Qu K (.ref C) "__getattr__"=b3 b4
 sub:Ta K (.ref C) (.type "BaseException")=b3 ba
section
variable{prog:Aw}{w:Uj}{A:Cb}{E:Ua->Ae->Prop}{s:Ae}{K:Frag}{C Cp N:Ub}{nm q:Ue}{v:Ua}{bs bm:List Ua}{hdct:Bool}{sn:List Ue}{sub:List Ua}{ab:Bool}{col:Option Bool}{dd:Option Ub}{k0 k1 k2 k3 k5:Option Ua}{cn qual txt:Ue}
 {mN mg:Ue->Option Ua}{fI:Ub}{st:Um}{fd:Dw}{u:Ua}
end
end L2
namespace L2
open PySem PySem.Spec PyProof.Rows
end L2
namespace TS
open PySem PySem.W PyProof.Rows
structure En where
 prog:Aw
 w:Uj
 A:Cb
 s:Ae
 κ:Qx
 it:Array Keyed
def En.Ok(n:Nat)(ck:Nat->Nat->Bool)(e:En):Prop:=∀i j,i<n->j<n->∀C:Bool->Ae->Prop,C (ck i j) e.s->kas_cmp e.prog e.w e.A e.κ e.it i j C e.s
abbrev En.at(e:En)(i:Nat):Keyed:=Jf e.it i
abbrev En.of(e:En)(p:Array Nat):Array Keyed:=p.map (Jf e.it)
structure Pu where
 p:Array Nat
 pd:Array (Nat×Nat×Nat)
 g:Nat
def CG(e:En)(x:Pu):Ff:=Jh e.κ (e.of x.p) x.pd x.g b4
section
variable{n:Nat}{ck:Nat->Nat->Bool}
def D(n:Nat)(ck:Nat->Nat->Bool){α:Type}(f:En->StateT Ff Ut α)(x:Pu)(a:En->α)(y:Pu):Prop:=
 ∀e:En,e.Ok n ck->∀(E:Ua->Ae->Prop) (Q:α->Ff->Ae->Prop),Q (a e) (CG e y) e.s->kasC (Uf e.prog e.w) e.A E (f e) Q (CG e x) e.s
def X(n:Nat)(ck:Nat->Nat->Bool){α a:Type}(f:En->StateT Ff Ut α)(x:Pu)(v:a->En->α)(R:a->Pu->Prop):Prop:=∃t y,R t y/\D n ck f x (v t) y
def D.pure{α:Type}{a:En->α}{x:Pu}:D n ck (λe=>Gu (a e)) x a x:=λe _ E Q h=>kasC_pure h
def D.bind{α β:Type}{f:En->StateT Ff Ut α}{k:En->α->StateT Ff Ut β}{x y z:Pu}{a:En->α}{b:En->β}(h1:D n ck f x a y)(h2:D n ck (λe=>k e (a e)) y b z):D n ck (λe=>f e>>=k e) x b z:=
 λe o E Q h=>Rn (h1 e o E _ (h2 e o E Q h))
def D.get{x:Pu}:D n ck (λ_=>MonadState.get) x (λe=>CG e x) x:=λe _ E Q h=>kasC_get h
def D.modify{F:En->Ff->Ff}{x y:Pu}(h:∀e,F e (CG e x)=CG e y):D n ck (λe=>modify (F e)) x (λ_=>⟨⟩) y:=λe _ E Q q=>Ro (by rw[h e];exact q)
def D.rule{r:String}{x:Pu}:D n ck (λ_=>(liftM (PySem.rule r):StateT Ff Ut Unit)) x (λ_=>()) x:=λe _ E Q q=>kasC_lift (Hz q)
theorem D.elem{q:Array Nat}{i:Nat}{x:Pu}(hi:i<q.size):D n ck (λe=>elem' (e.of q) i) x (λe=>e.at (q.getD i 0)) x:=λe _ E Q h=>by
 have b:(e.of q)[i]?=b3 (e.at (q.getD i 0)):=by
  have a:q.getD i 0=q[i]:=by simp[Lb,hi]
  rw[a];simp[En.of,En.at,hi]
 show kasC _ _ _ (elem' (e.of q) i) Q _ _;rw[elem'_eq,b];exact kasC_pure h
theorem D.lt{i j:Nat}{x:Pu}(hi:i<n)(a:j<n):D n ck (λe=>lt' (e.at i) (e.at j)) x (λ_=>b3 (ck i j)) x:=λe o E Q h=>by show kasC _ _ _ (lt' (e.at i) (e.at j)) Q _ _;rw[lt'_eq];refine Rn (kasC_get ?_);refine Rn (kasC_lift (Lp (Cd (o i j hi a (λc s'=>c=ck i j/\s'=e.s) ⟨rfl,rfl⟩) (λc s' hc=>?_) λ_ _ b=>b.elim)));obtain⟨rfl,rfl⟩:=hc;exact kasC_pure h
theorem D.ltAt{i j:Nat}{x:Pu}(hi:i<x.p.size)(a:j<x.p.size)(bi:x.p.getD i 0<n)(b:x.p.getD j 0<n):D n ck (λ_=>ltAt' i j) x (λ_=>b3 (ck (x.p.getD i 0) (x.p.getD j 0))) x:=λe o E Q h=>by show kasC _ _ _ (ltAt' i j) Q _ _;rw[ltAt'_eq];refine Rn (kasC_get ?_);exact(D.bind (D.elem hi) (D.bind (D.elem a) (D.lt bi b)):D n ck (λe=>elem' (e.of x.p) i>>=λu=>elem' (e.of x.p) j>>=λv=>lt' u v) x _ x) e o E Q h
def D.rev{i j:Nat}{x:Pu}:D n ck (λ_=>reverseSlice' i j) x (λ_=>()) {x with p:=kas_rev x.p i j}:=λe o E Q h=>by show kasC _ _ _ (reverseSlice' i j) Q _ _;rw[reverseSlice'_eq];refine Ro ?_;have a:mirror (e.of x.p) i j ((j-i)/2)=e.of (mirror x.p i j ((j-i)/2)):=kas_swaps_map (Jf e.it) (λk=>i+k) (λk=>j-1-k) _ x.p;show Q () (Jh e.κ (mirror (e.of x.p) i j ((j-i)/2)) x.pd x.g b4) e.s;rw[a];exact h
def D.move{k l:Nat}{x:Pu}:D n ck (λ_=>moveDown' k l) x (λ_=>()) {x with p:=bubble x.p k (k-l)}:=λe o E Q h=>by show kasC _ _ _ (moveDown' k l) Q _ _;rw[moveDown'_eq];refine Ro ?_;have a:bubble (e.of x.p) k (k-l)=e.of (bubble x.p k (k-l)):=kas_swaps_map (Jf e.it) (λi=>k-i) (λi=>k-i-1) _ x.p;show Q () (Jh e.κ (bubble (e.of x.p) k (k-l)) x.pd x.g b4) e.s;rw[a];exact h
def X.ret{α b:Type}{a:En->α}{x:Pu}{v:b->En->α}{R:b->Pu->Prop}(t:b)(h:R t x)(c:∀e,a e=v t e:=by intro e;rfl):X n ck (λe=>Gu (a e)) x v R:=
 ⟨t,x,h,by rw[show a=v t from funext c];exact D.pure⟩
def X.go{α β b:Type}{f:En->StateT Ff Ut α}{k:En->α->StateT Ff Ut β}{x y:Pu}{a:En->α}{v:b->En->β}{R:b->Pu->Prop}(h1:D n ck f x a y)(h2:X n ck (λe=>k e (a e)) y v R):X n ck (λe=>f e>>=k e) x v R:=by obtain⟨t,z,h,d⟩:=h2;exact⟨t,z,h,D.bind h1 d⟩
def X.bind{α β b a:Type}{f:En->StateT Ff Ut α}{k:En->α->StateT Ff Ut β}{x:Pu}{u:a->En->α}{S:a->Pu->Prop}{v:b->En->β}{R:b->Pu->Prop}(h1:X n ck f x u S)(h2:∀t y,S t y->X n ck (λe=>k e (u t e)) y v R):X n ck (λe=>f e>>=k e) x v R:=by obtain⟨t,y,h,d⟩:=h1;exact X.go d (h2 t y h)
noncomputable def sv{β a:Type}(v:a->En->β):a ⊕ a->En->ForInStep β
 |.inl t,e=>.yield (v t e)
 |.inr t,e=>.done (v t e)
def sR{a:Type}(I J:a->Pu->Prop):a ⊕ a->Pu->Prop
 |.inl t,x=>I t x
 |.inr t,x=>J t x
theorem X.loop{β a:Type}{v:a->En->β}{I:Nat->a->Pu->Prop}{J:a->Pu->Prop}{f:En->Nat->β->StateT Ff Ut (ForInStep β)}(g:∀t x,I 0 t x->J t x):∀(l:List Nat) (t:a) (x:Pu),(∀i∈l,∀(k:Nat) (t:a) (x:Pu),I (k+1) t x->X n ck (λe=>f e i (v t e)) x (sv v) (sR (I k) J))->I l.length t x->X n ck (λe=>forIn l (v t e) (f e)) x v J
 |[],t,x,_,h=>⟨t,x,g t x h,λe o E Q q=>kasC_nil q⟩
 | i :: l,t,x,b,h => by
  obtain⟨r,y,c,d⟩:=b i Au l.length t x h;cases r with
  |inr t'=>exact⟨t',y,c,λe o E Q q=>kasC_cons (d e o E _ q)⟩
  |inl t'=>
   obtain⟨u,z,j,m⟩:=X.loop g l t' y (λi hi=>b i (Am _ hi)) c;exact⟨u,z,j,λe o E Q q=>kasC_cons (d e o E _ (m e o E Q q))⟩
def X.range{β g:Type}{v:g->En->β}{I:Nat->g->Pu->Prop}{J:g->Pu->Prop}{f:En->Nat->β->StateT Ff Ut (ForInStep β)}{a b:Nat}{t:g}{x:Pu}{c:En->β}(l:∀t x,I 0 t x->J t x)(m:I (b-a) t x)(j:∀i,a<=i->i<b->∀(k:Nat) (t:g) (x:Pu),I (k+1) t x->X n ck (λe=>f e i (v t e)) x (sv v) (sR (I k) J))(hc:∀e,c e=v t e:=by intro e;rfl):X n ck (λe=>forIn [a:b] (c e) (f e)) x v J:=by
 rw[show c=v t from funext hc];obtain⟨u,z,h,d⟩:=X.loop l (List.range' a (b-a)) t x (λi hi=>by
  have:=List.mem_range'_1.mp hi
  exact j i this.1 (by omega)) (by rw[List.length_range'];exact m)
 exact⟨u,z,h,λe o E Q q=>kasC_range (d e o E Q q)⟩
def X.yield{β b:Type}{v:b->En->β}{I J:b->Pu->Prop}{a:En->β}{x:Pu}(t:b)(h:I t x)(c:∀e,a e=v t e:=by intro e;rfl):X n ck (λe=>Gu (Dv (a e))) x (sv v) (sR I J):=
 X.ret (.inl t) h λe=>by rw[c e];rfl
def X.done{β b:Type}{v:b->En->β}{I J:b->Pu->Prop}{a:En->β}{x:Pu}(t:b)(h:J t x)(c:∀e,a e=v t e:=by intro e;rfl):X n ck (λe=>Gu (ForInStep.done (a e))) x (sv v) (sR I J):=
 X.ret (.inr t) h λe=>by rw[c e];rfl
end
section
variable{n:Nat}{ck:Nat->Nat->Bool}
def X.ite{α d:Type}{c:Prop}{f:En->Decidable c}{a b:En->StateT Ff Ut α}{x:Pu}{v:d->En->α}{R:d->Pu->Prop}(h1:c->X n ck a x v R)(h2:¬c->X n ck b x v R):X n ck (λe=> @_root_.ite _ c (f e) (a e) (b e)) x v R:=by
 by_cases h:c
 ·simpa only[if_pos h]using h1 h
 ·simpa only[if_neg h]using h2 h
def Pm(n:Nat)(p:Array Nat):Prop:=p.toList.Perm (Bf n)
def Pm.sz{p:Array Nat}(h:Pm n p):p.size=n:=by
 have:=h.length_eq
 simpa using this
def Pm.lt{p:Array Nat}(h:Pm n p){i:Nat}(hi:i<n):p.getD i 0<n:=by
 have b:=h.sz;have a:i<p.size:=by lia
 have e:p.getD i 0=p[i]:=by simp[Lb,a]
 rw[e];exact Db.mp (h.mem_iff.mp (by simp))
def Pm.rev{p:Array Nat}(h:Pm n p)(i j:Nat):Pm n (kas_rev p i j):=Jy (Kk.mp (mirror_perm p i j _)) h
def Pm.move{p:Array Nat}(h:Pm n p)(i j:Nat):Pm n (bubble p i j):=Jy (Kk.mp (bubble_perm p i j)) h
def Pm.cmp{x:Pu}(h:Pm n x.p){i j:Nat}(hi:i<n)(a:j<n):D n ck (λ_=>ltAt' i j) x (λ_=>b3 (ck (x.p.getD i 0) (x.p.getD j 0))) x:=
 D.ltAt (by rw[h.sz];exact hi) (by rw[h.sz];exact a) (h.lt hi) (h.lt a)
def X.st{α a:Type}{f:En->StateT Ff Ut α}{x z:Pu}{v:a->En->α}{R:a->Pu->Prop}{P:Pu->Pu->Prop}(h:∀z,P x z->X n ck f z v R)(hz:P x z):X n ck f z v R:=h z hz
def Kp(n:Nat)(x y:Pu):Prop:=Pm n y.p/\y.pd=x.pd
def count{lo m:Nat}{x:Pu}(d:Pm n x.p)(h1:1<=m)(e:lo+m<=n):X n ck (λ_=>countRun' lo m) x (λt _=>b3 t) (λt y=>1<=t/\t<=m/\Kp n x y):=by
 refine X.bind (u:=λ(t:Nat) _=>(b4,t)) (S:=λt y=>1<=t/\t<=m/\y=x) ?_ ?_
 ·refine X.range (I := λk t y => 1 <= t /\ t + k = m /\ y = x) (t := 1) (λt y h => ⟨h.1,by lia,h.2.2⟩) ⟨by lia,by lia,rfl⟩ λi _ _ k t y ⟨b,c,a⟩ => ?_
  subst a;refine X.go (d.cmp (by lia) (by lia)) ?_;refine X.ite (λ_=>X.done t ⟨b,by lia,rfl⟩) λ_=>X.yield (t+1) ⟨by lia,by lia,rfl⟩
 ·rintro t y ⟨b,c,rfl⟩
  have k0:Kp n y y:=⟨d,rfl⟩;refine X.ite (λ_=>X.ret t ⟨b,c,k0⟩) λq0=>?_;have q1:t+1<=m:=by
   have:t≠m:=λz=>q0 (by rw[z];exact beq_self_eq_true _)
   lia
  refine X.ite (λq2=>X.go (d.cmp (by lia) (by lia)) (X.ite (λ_=>X.ret t ⟨b,c,k0⟩) λ_=>X.go D.rev (X.st (P:=Kp n) (x:=y) ?_ ⟨d.rev _ _,rfl⟩))) λq2=>X.st (P:=Kp n) (x:=y) ?_ k0
  all_goals
   intro z hz;refine X.go D.rule ?_;refine X.bind (u:=λ(t:Nat×Nat) _=>(b4,t)) (S:=λt z=>1<=t.1/\t.1<=m/\Kp n y z) ?_ ?_
   ·refine X.range (I := λk t z => 1 <= t.1 /\ t.1 + k = m /\ Kp n y z) (t := (t + 1,0)) (λt y h => ⟨h.1,by lia,h.2.2⟩) ⟨by lia,by dsimp only;lia,hz⟩ λi _ _ k t y ⟨b,c,a⟩ => ?_
    obtain⟨t,q⟩:=t;dsimp only at b c;refine X.go (a.1.cmp (by dsimp only;lia) (by dsimp only;lia)) ?_;refine X.ite (λ_=>X.ite (λ_=>X.go D.rev (X.yield (t+1,0) ⟨by dsimp only;lia,by dsimp only;lia,a.1.rev _ _,a.2⟩)) λ_=>X.yield (t+1,0) ⟨by dsimp only;lia,by dsimp only;lia,a⟩) λ_=>?_;refine X.go (a.1.cmp (by dsimp only;lia) (by dsimp only;lia)) ?_;exact X.ite (λ_=>X.done (t,q) ⟨b,by dsimp only;lia,a⟩) λ_=>X.yield (t+1,q+1) ⟨by dsimp only;lia,by dsimp only;lia,a⟩
   ·rintro ⟨t,q⟩ z ⟨b,c,a⟩
    dsimp only at b c;refine X.ite (λ_=>X.go D.rev (X.st (P:=Kp n) (x:=y) ?_ ⟨a.1.rev _ _,a.2⟩)) λ_=>X.st (P:=Kp n) (x:=y) ?_ a
    all_goals
     intro z hz;refine X.go D.rev ?_;refine X.bind (u:=λ(t:Nat) _=>(b4,t)) (S:=λt z=>1<=t/\t<=m/\Kp n y z) ?_ λt z h=>X.ret t h;refine X.range (I:=λk t z=>1<=t/\t+k=m/\Kp n y z) (t:=t) (λt y h=>⟨h.1,by lia,h.2.2⟩) ⟨by lia,by dsimp only;lia,hz.1.rev _ _,hz.2⟩ λi _ _ k t y ⟨b,c,a⟩=>?_;refine X.go (a.1.cmp (by lia) (by lia)) ?_;exact X.ite (λ_=>X.done t ⟨b,by lia,a⟩) λ_=>X.yield (t+1) ⟨by lia,by lia,a⟩
def bin{lo m ok:Nat}{x:Pu}(c:Pm n x.p)(g:lo+m<=n):X n ck (λ_=>binarySort' lo m ok) x (λ(_:Unit) _=>ba) (λ_ y=>Kp n x y):=by
 refine X.bind (u:=λ(_:Unit) _=>(b4,())) (S:=λ_ y=>Kp n x y) ?_ λt z h=>X.ret () h;refine X.range (I:=λ_ _ z=>Kp n x z) (t:=()) (λt y h=>h) ⟨c,rfl⟩ λj f e k t y b=>?_;refine X.bind (u:=λ(t:Nat×Nat) _=>(b4,t)) (S:=λt z=>t.2<=j/\z=y) ?_ ?_
 ·refine X.range (I := λ_ t z => t.2 <= j /\ z = y) (t := (0,j)) (λt y h => h) ⟨Aq _,rfl⟩ λi _ _ k t z ⟨a,d⟩ => ?_
  obtain⟨l,r⟩:=t;dsimp only at a;subst d;refine X.ite (λ_=>X.done (l,r) ⟨a,rfl⟩) λq=>?_;refine X.go (b.1.cmp (by dsimp only at q⊢;lia) (by dsimp only at q⊢;lia)) ?_;exact X.ite (λ_=>X.yield (l,(l+r)/2) ⟨by dsimp only at q⊢;lia,rfl⟩) λ_=>X.yield ((l+r)/2+1,r) ⟨a,rfl⟩
 ·rintro ⟨l,r⟩ z ⟨a,rfl⟩
  exact X.go D.move (X.yield () ⟨b.1.move _ _,b.2⟩)
end
def DD:Bool->Keyed->Array Keyed->Nat->Nat->Nat->StateT Ff Ut (Option Nat):=sortPriv% PySem.Builtin.gallop
def HD:Array Keyed->Array Keyed->StateT Ff Ut (Array Keyed):=sortPriv% PySem.Builtin.mergeLo
def HC:Array Keyed->Array Keyed->StateT Ff Ut (Array Keyed):=sortPriv% PySem.Builtin.mergeHi
section
variable{n:Nat}{ck:Nat->Nat->Bool}
noncomputable def bey(left:Bool)(key:Nat)(q:Array Nat)(i:Nat)(e:En):StateT Ff Ut (Option Bool):=
 elem' (e.of q) i>>=λz=>if left=ba then lt' z (e.at key)else lt' (e.at key) z>>=λr=>pure (r.map (λb=> !b))
def mO{left:Bool}{key:Nat}{q:Array Nat}{x:Pu}(hk:key<n){i:Nat}(hi:i<q.size)(a:q.getD i 0<n):∃c,D n ck (bey left key q i) x (λ_=>b3 c) x:=by
 cases left with
 |true=>exact⟨_,D.bind (D.elem hi) (D.lt a hk)⟩
 |false=>exact⟨_,D.bind (D.elem hi) (D.bind (D.lt hk a) D.pure)⟩
def gal{left:Bool}{key:Nat}{q:Array Nat}{b m h:Nat}{x:Pu}(hk:key<n)(j:h<m)(p:b+m<=q.size)(f:∀i,i<q.size->q.getD i 0<n):X n ck (λe=>DD left (e.at key) (e.of q) b m h) x (λt _=>b3 t) (λt y=>t<=m/\y=x):=by
 have ask:∀i,i<m->∃c,D n ck (bey left key q (b+i)) x (λ_=>b3 c) x:=λi hi=>mO hk (by lia) (f _ (by lia));obtain⟨c,hc⟩:=ask h j;refine X.go hc ?_;refine X.ite (λ_=>?_) λ_=>?_
 ·refine X.bind (u := λ(t : Nat × Nat) _ => (b4,t)) (S := λt z => z = x) ?_ ?_
  ·refine X.range (I := λ_ t z => z = x) (t := (0,1)) (λt y h => h) rfl λi _ _ k t z g => ?_
   obtain⟨l,o⟩:=t;subst g;refine X.ite (λ_=>X.done (l,o) rfl) λq=>?_;obtain⟨c,hc⟩:=ask (h+o) (by dsimp only at q;lia);exact X.go hc (X.ite (λ_=>X.done (l,o) rfl) λ_=>X.yield (o,2*o+1) rfl)
  ·rintro ⟨l,o⟩ z rfl
   refine X.bind (u:=λ(t:Nat×Nat) _=>(b4,t)) (S:=λt y=>t.2<=m/\y=z) ?_ λt y h=>X.ret t.2 h;refine X.range (I:=λ_ t y=>t.2<=m/\y=z) (t:=(h+l+1,h+min o (m-h))) (λt y h=>h) ⟨by dsimp only;lia,rfl⟩ λi _ _ k t y ⟨a,d⟩=>?_;obtain⟨lo,hi⟩:=t;subst d;dsimp only at a;refine X.ite (λ_=>X.done (lo,hi) ⟨a,rfl⟩) λq=>?_;obtain⟨c,hc⟩:=ask (lo+(hi-lo)/2) (by dsimp only at q;lia);exact X.go hc (X.ite (λ_=>X.yield (lo+(hi-lo)/2+1,hi) ⟨a,rfl⟩) λ_=>X.yield (lo,lo+(hi-lo)/2) ⟨by dsimp only at q⊢;lia,rfl⟩)
 ·refine X.bind (u := λ(t : Nat × Nat) _ => (b4,t)) (S := λt z => z = x) ?_ ?_
  ·refine X.range (I := λ_ t z => z = x) (t := (0,1)) (λt y h => h) rfl λi _ _ k t z g => ?_
   obtain⟨l,o⟩:=t;subst g;refine X.ite (λ_=>X.done (l,o) rfl) λq=>?_;obtain⟨c,hc⟩:=ask (h-o) (by lia);exact X.go hc (X.ite (λ_=>X.done (l,o) rfl) λ_=>X.yield (o,2*o+1) rfl)
  ·rintro ⟨l,o⟩ z rfl
   refine X.bind (u:=λ(t:Nat×Nat) _=>(b4,t)) (S:=λt y=>t.2<=m/\y=z) ?_ λt y h=>X.ret t.2 h;refine X.range (I:=λ_ t y=>t.2<=m/\y=z) (t:=(h+1-min o (h+1),h-l)) (λt y h=>h) ⟨by dsimp only;lia,rfl⟩ λi _ _ k t y ⟨a,d⟩=>?_;obtain⟨lo,hi⟩:=t;subst d;dsimp only at a;refine X.ite (λ_=>X.done (lo,hi) ⟨a,rfl⟩) λq=>?_;obtain⟨c,hc⟩:=ask (lo+(hi-lo)/2) (by dsimp only at q;lia);exact X.go hc (X.ite (λ_=>X.yield (lo+(hi-lo)/2+1,hi) ⟨a,rfl⟩) λ_=>X.yield (lo,lo+(hi-lo)/2) ⟨by dsimp only at q⊢;lia,rfl⟩)
def galE{left:Bool}{key:Nat}{q:Array Nat}{b h:Nat}{m:En->Nat}{x:Pu}(a:Nat)(d:∀e,m e=a)(hk:key<n)(f:h<a)(g:b+a<=q.size)(c:∀i,i<q.size->q.getD i 0<n):X n ck (λe=>DD left (e.at key) (e.of q) b (m e) h) x (λt _=>b3 t) (λt y=>t<=a/\y=x):=by rw[show m=λ_=>a from funext d];exact gal hk f g c
def X.eqSize{α c:Type}{m:Nat}{q:Array Nat}{a b:En->StateT Ff Ut α}{x:Pu}{v:c->En->α}{R:c->Pu->Prop}(h1:m=q.size->X n ck a x v R)(h2:m≠q.size->X n ck b x v R):X n ck (λe=>if(m==(e.of q).size)=ba then a e else b e) x v R:=by simp only[En.of,Array.size_map];exact X.ite (λh=>h1 (by simpa using h)) λh=>h2 (by simpa using h)
def X.rangeE{β a:Type}{v:a->En->β}{I:Nat->a->Pu->Prop}{J:a->Pu->Prop}{f:En->Nat->β->StateT Ff Ut (ForInStep β)}{b:En->Nat}{t:a}{x:Pu}{c:En->β}(g:Nat)(o:∀e,b e=g)(m:∀t x,I 0 t x->J t x)(p:I g t x)(l:∀(k:Nat) (t:a) (x:Pu),k<g->I (k+1) t x->∀i,X n ck (λe=>f e i (v t e)) x (sv v) (sR (I k) J))(hc:∀e,c e=v t e:=by intro e;rfl):X n ck (λe=>forIn [0:b e] (c e) (f e)) x v J:=by
 rw[show b=λ_=>g from funext o];refine X.range (I:=λk t x=>k<=g/\I k t x) (λt x h=>m t x h.2) ⟨by lia,p⟩ (λi _ _ k t x h=>?_) hc;obtain⟨r,y,j,d⟩:=l k t x (by lia) h.2 i;refine⟨r,y,?_,d⟩;cases r with
 |inl t=>exact⟨by lia,j⟩
 |inr t=>exact j
def eG:Nat->StateT Ff Ut Unit:=sortPriv% PySem.Builtin.setMinGallop
def D.setMin{g:Nat}{x:Pu}:D n ck (λ_=>eG g) x (λ_=>()) {x with g:=g}:=D.modify (F:=λ_ s=>_) λe=>rfl
def Iv(a b o:Array Nat)(ia ib:Nat):Prop:=o.toList.Perm (a.toList.take ia++b.toList.take ib)
def IQ{a:Array Nat}{i:Nat}(h:i<a.size):a.toList.take (i+1)=a.toList.take i++[a.getD i 0]:=by
 have e:a.getD i 0=a[i]:=by simp[Lb,h]
 rw[e,Ry];simp[h]
def Iv.pushB{a b o:Array Nat}{ia ib:Nat}(h:Iv a b o ia ib)(c:ib<b.size):Iv a b (o.push (b.getD ib 0)) ia (ib+1):=by unfold Iv at h⊢;rw[IQ c,Gx,<-Ay];exact h.append_right _
def Iv.pushA{a b o:Array Nat}{ia ib:Nat}(h:Iv a b o ia ib)(c:ia<a.size):Iv a b (o.push (a.getD ia 0)) (ia+1) ib:=by unfold Iv at h⊢;rw[IQ c,Gx,Ay];refine(h.append_right _).trans ?_;rw[Ay];exact Dj _ Cq
def MC(l:List Nat)(i k:Nat):l.take (i+k)=l.take i++(l.take (i+k)).drop i:=by have e:=Dk i (l.take (i+k));rw[Nl,Ht (by lia)]at e;exact e.symm
def XX(a:Array Nat)(i j:Nat):(a.extract i j).toList=(a.toList.take j).drop i:=by simp[Rz]
def Iv.extB{a b o:Array Nat}{ia ib:Nat}(h:Iv a b o ia ib)(k:Nat):Iv a b (o++b.extract ib (ib+k)) ia (ib+k):=by unfold Iv at h⊢;rw[MC b.toList ib k,Cj,XX,<-Ay];exact h.append_right _
def Iv.extA{a b o:Array Nat}{ia ib:Nat}(h:Iv a b o ia ib)(k:Nat):Iv a b (o++a.extract ia (ia+k)) (ia+k) ib:=by unfold Iv at h⊢;rw[MC a.toList ia k,Cj,XX,Ay];refine(h.append_right _).trans ?_;rw[Ay];exact Dj _ Cq
def OO(a:Array Nat)(i:Nat):(a.extract i a.size).toList=a.toList.drop i:=by rw[XX,show a.size=a.toList.length from rfl,List.take_length]
def Iv.all{a b o:Array Nat}{ia ib:Nat}(h:Iv a b o ia ib):(o.toList++(a.toList.drop ia++b.toList.drop ib)).Perm (a.toList++b.toList):=by refine(h.append_right _).trans ?_;have d:=Dk ia a.toList;have c:=Dk ib b.toList;generalize a.toList.take ia=i at*;generalize a.toList.drop ia=g at*;generalize b.toList.take ib=f at*;generalize b.toList.drop ib=e at*;rw[<-d,<-c,Ay,Ay];refine Dj _ ?_;rw[<-Ay,<-Ay];exact Gp _ Cq
def Iv.done{a b o:Array Nat}{ia ib:Nat}(h:Iv a b o ia ib):(o++a.extract ia a.size++b.extract ib b.size).toList.Perm (a.toList++b.toList):=by rw[Cj,Cj,OO,OO,Ay];exact h.all
def Iv.lastA{a b o:Array Nat}{ia ib:Nat}(h:Iv a b o ia ib):(o++b.extract ib b.size++a.extract ia a.size).toList.Perm (a.toList++b.toList):=by rw[Cj,Cj,OO,OO,Ay];exact(Dj _ Cq).trans h.all
end
section
variable{n:Nat}{ck:Nat->Nat->Bool}
def Sd(x y:Pu):Prop:=y.p=x.p/\y.pd=x.pd
def Al(n:Nat)(a:Array Nat):Prop:=∀i,i<a.size->a.getD i 0<n
def Lf(a b:Array Nat)(x:Pu)(m:Nat)(r:Option (Array Nat))(o:Array Nat)(ia ib:Nat)(y:Pu):Prop:=r=b4/\Iv a b o ia ib/\ia+1<a.size/\ib<b.size/\m<=ia+ib/\Sd x y
def Td(a b:Array Nat)(x:Pu)(r:Option (Array Nat))(y:Pu):Prop:=∃t,r=b3 t/\t.toList.Perm (a.toList++b.toList)/\Sd x y
noncomputable def vG{β:Type}(t:Option (Array Nat)×Array Nat×β)(e:En):Option (Array Keyed)×Array Keyed×β:=(t.1.map e.of,e.of t.2.1,t.2.2)
def aX(e:En)(o:Array Nat)(i:Nat):(e.of o).push (e.at i)=e.of (o.push i):=by simp[En.of,En.at]
def ZM(e:En)(o:Array Nat)(q:Array Nat):e.of o++e.of q=e.of (o++q):=by simp[En.of]
def Z3(e:En)(o:Array Nat)(i j:Nat):(e.of o).extract i j=e.of (o.extract i j):=by simp[En.of]
def UQ(e:En)(o:Array Nat):(e.of o).size=o.size:=by simp[En.of]
def SO(e:En)(o:Array Nat):(e.of o).reverse=e.of o.reverse:=by simp[En.of]
def QG(e:En)(i:Nat): #[e.at i]=e.of #[i]:=by simp[En.of,En.at]
def X.yieldG{β:Type}{tail:β}{o:Array Nat}{O:En->Array Keyed}{I J:Option (Array Nat)×Array Nat×β->Pu->Prop}{y:Pu}(h:I (b4,o,tail) y)(a:∀e,O e=e.of o):X n ck (λe=>Gu (Dv (b4,O e,tail))) y (sv vG) (sR I J):=
 X.yield (b4,o,tail) h λe=>by rw[a];rfl
def X.doneG{β:Type}{tail:β}{o:Array Nat}{O:En->Array Keyed}{I J:Option (Array Nat)×Array Nat×β->Pu->Prop}{y:Pu}(h:J (b4,o,tail) y)(a:∀e,O e=e.of o):X n ck (λe=>Gu (ForInStep.done (b4,O e,tail))) y (sv vG) (sR I J):=
 X.done (b4,o,tail) h λe=>by rw[a];rfl
def X.tellD{β:Type}{tail:β}{a b o:Array Nat}{ia ib:Nat}{O:En->Array Keyed}{I J:Option (Array Nat)×Array Nat×β->Pu->Prop}{x y:Pu}(q:Iv a b o ia ib)(c:Sd x y)(d:∀e,O e=e.of o)(f:∀t,Td a b x t.1 y->J t y):X n ck (λe=>Gu (ForInStep.done (b3 (O e++(e.of a).extract ia (e.of a).size++(e.of b).extract ib (e.of b).size),O e,tail))) y (sv vG) (sR I J):=
 X.done (b3 (o++a.extract ia a.size++b.extract ib b.size),o,tail) (f _ ⟨_,rfl,q.done,c⟩) λe=>by rw[d,UQ,UQ,Z3,Z3,ZM,ZM];rfl
def X.tellL{β:Type}{tail:β}{a b o:Array Nat}{ia ib:Nat}{O:En->Array Keyed}{I J:Option (Array Nat)×Array Nat×β->Pu->Prop}{x y:Pu}(q:Iv a b o ia ib)(c:Sd x y)(d:∀e,O e=e.of o)(f:∀t,Td a b x t.1 y->J t y):X n ck (λe=>Gu (ForInStep.done (b3 (O e++(e.of b).extract ib (e.of b).size++(e.of a).extract ia (e.of a).size),O e,tail))) y (sv vG) (sR I J):=
 X.done (b3 (o++b.extract ib b.size++a.extract ia a.size),o,tail) (f _ ⟨_,rfl,q.lastA,c⟩) λe=>by rw[d,UQ,UQ,Z3,Z3,ZM,ZM];rfl
def all5{A B C D E:Type}{P:A×B×C×D×E->Prop}(h:∀a b c d e,P (a,b,c,d,e)):∀t,P t:=λ⟨a,b,c,d,e⟩=>h a b c d e
def all6{A B C D E F:Type}{P:A×B×C×D×E×F->Prop}(h:∀a b c d e f,P (a,b,c,d,e,f)):∀t,P t:=λ⟨a,b,c,d,e,f⟩=>h a b c d e f
def all7{A B C D E F G:Type}{P:A×B×C×D×E×F×G->Prop}(h:∀a b c d e f g,P (a,b,c,d,e,f,g)):∀t,P t:=λ⟨a,b,c,d,e,f,g⟩=>h a b c d e f g
def X.join1{α b:Type}{c:Prop}{f:En->Decidable c}{a:En->StateT Ff Ut α}{F:Nat->En->StateT Ff Ut α}{p g:Nat}{x:Pu}{v:b->En->α}{R:b->Pu->Prop}(key:∀g,X n ck (F g) x v R)(d:∀e,a e=F p e):X n ck (λe=> @_root_.ite _ c (f e) (a e) (F g e)) x v R:=X.ite (λ_=>by rw[show a=F p from funext d];exact key p) λ_=>key g
def X.join2{α b:Type}{c:Prop}{g:En->Decidable c}{a:En->StateT Ff Ut α}{F:Array Nat->Nat->En->StateT Ff Ut α}{o:Array Nat}{j:Nat}{x:Pu}{v:b->En->α}{R:b->Pu->Prop}(P:Array Nat->Nat->Prop)(key:∀o j,P o j->X n ck (F o j) x v R)(f:(∀o j,P o j->X n ck (F o j) x v R)->c->X n ck a x v R)(d:P o j):X n ck (λe=> @_root_.ite _ c (g e) (a e) (F o j e)) x v R:=X.ite (f key) λ_=>key _ _ d
def X.cg{α c:Type}{a b:En->StateT Ff Ut α}{x:Pu}{v:c->En->α}{R:c->Pu->Prop}(e:∀e,a e=b e)(h:X n ck b x v R):X n ck a x v R:=by rw[show a=b from funext e];exact h
def gO{a b:Array Nat}{x:Pu}(N:Al n a)(M:Al n b)(a1:1<=a.size)(b1:1<=b.size):X n ck (λe=>HD (e.of a) (e.of b)) x (λt e=>e.of t) (λt y=>t.toList.Perm (a.toList++b.toList)/\Sd x y):=by
 have K:Iv a b #[b.getD 0 0] 0 1:=by
  have e:Iv a b #[] 0 0:=by unfold Iv;simp
  exact e.pushB (by lia)
 refine X.go D.rule ?_;refine X.go (D.elem (q:=b) (i:=0) (by lia)) ?_;refine X.eqSize (λh=>X.ret (#[b.getD 0 0]++a.extract 0 a.size++b.extract 1 b.size) ⟨K.done,rfl,rfl⟩ λe=>?_) λh=>?_
 ·simp only[<-ZM,<-Z3,UQ,QG]
 refine X.eqSize (λh=>X.ret (#[b.getD 0 0]++b.extract 1 b.size++a.extract 0 a.size) ⟨K.lastA,rfl,rfl⟩ λe=>?_) λh2=>?_
 ·simp only[<-ZM,<-Z3,UQ,QG]
 refine X.go D.get ?_;have G:∀e:En,(e.of a).size+(e.of b).size=a.size+b.size:=λe=>by simp only[UQ]
 refine X.bind (u:=vG) (S:=λt y=>Td a b x t.1 y) ?_ ?_
 ·refine X.rangeE (v := vG) (I := λk t y => Lf a b x (a.size + b.size-k) t.1 t.2.1 t.2.2.1 t.2.2.2.1 y) (t := (b4,#[b.getD 0 0],0,1,x.g)) (a.size + b.size) G ?_ ⟨rfl,K,by dsimp only;lia,by dsimp only;lia,by dsimp only;lia,rfl,rfl⟩ ?_ λe => ?_
  ·rintro t y ⟨_,_,R,Q,P,_⟩
   exact absurd P (by lia)
  ·refine λk => all5 λr o ia ib g y hk c i => ?_
   obtain rfl:=c.1;have h2:=c.2.1;have R:=c.2.2.1;have Q:=c.2.2.2.1;have P:=c.2.2.2.2.1;have Y:=c.2.2.2.2.2;dsimp only at h2 R Q P;dsimp only[vG];refine X.bind (u:=vG) (S:=λt z=>Td a b x t.1 z∨Lf a b x (ia+ib+1) t.1 t.2.1 t.2.2.1 t.2.2.2.1 z) ?_ ?_
   ·refine X.rangeE (v := vG) (I := λk t y => Lf a b x (ia + ib + if k < a.size + b.size then 1 else 0) t.1 t.2.1 t.2.2.1 t.2.2.2.1 y) (t := (b4,o,ia,ib,0,0)) (a.size + b.size) G ?_ ⟨rfl,h2,R,Q,by rw [if_neg (by lia)];exact Aq _,Y⟩ ?_
    ·intro t y h
     rw[if_pos (by lia)]at h;exact .inr h
    ·refine λk => all6 λr o f s ac H y hk c i => ?_
     obtain rfl:=c.1;have A:=c.2.1;have C:=c.2.2.1;have m:=c.2.2.2.1;have E:=c.2.2.2.2.1;have l:=c.2.2.2.2.2;dsimp only at A C m E;dsimp only[vG];have Z:ia+ib<=f+s:=by split at E<;>lia
     refine X.go (D.elem (q:=b) (i:=s) m) (X.go (D.elem (q:=a) (i:=f) (by lia)) (X.go (D.lt (M _ m) (N _ (by lia))) ?_));refine X.ite (λ_=>?_) λ_=>?_
     ·refine X.go (D.elem (q:=b) (i:=s) m) ?_
      have q:=A.pushB m;refine X.eqSize (λ_=>X.tellD q l (λe=>aX e _ _) λt h=>.inl h) λz=>?_;exact X.ite (λ_=>X.doneG (.inr ⟨rfl,q,C,by dsimp only;lia,by dsimp only;lia,l⟩) λe=>aX e _ _) λ_=>X.yieldG ⟨rfl,q,C,by dsimp only;lia,by dsimp only;rw[if_pos hk];lia,l⟩ λe=>aX e _ _
     ·refine X.go (D.elem (q := a) (i := f) (by lia)) ?_
      have q:=A.pushA (show f<a.size by lia);refine X.eqSize (λ_=>X.tellL q l (λe=>aX e _ _) λt h=>.inl h) λz=>?_;exact X.ite (λ_=>X.doneG (.inr ⟨rfl,q,by dsimp only;lia,m,by dsimp only;lia,l⟩) λe=>aX e _ _) λ_=>X.yieldG ⟨rfl,q,by dsimp only;lia,m,by dsimp only;rw[if_pos hk];lia,l⟩ λe=>aX e _ _
   ·refine all6 λr o f s ac H z c => c.elim (λc => ?_) λc => ?_
    ·obtain⟨t,B,L⟩:=c
     dsimp only at B;subst B;exact X.done (b3 t,o,f,s,g) ⟨t,rfl,L⟩
    ·have B:=c.1
     have A:=c.2.1;have C:=c.2.2.1;have m:=c.2.2.2.1;have E:=c.2.2.2.2.1;have l:=c.2.2.2.2.2;dsimp only at B A C m E;subst B;dsimp only[vG];refine X.go D.rule ?_;refine X.bind (u:=vG) (S:=λt z=>Td a b x t.1 z∨Lf a b x (ia+ib+1) t.1 t.2.1 t.2.2.1 t.2.2.2.1 z) ?_ ?_
     ·refine X.rangeE (v := vG) (I := λ_ t y => Lf a b x (ia + ib + 1) t.1 t.2.1 t.2.2.1 t.2.2.2.1 y) (t := (b4,o,f,s,g + 1,ac,H)) (a.size + b.size) G (λt y h => .inr h) ⟨rfl,A,C,m,E,l⟩ ?_
      refine λk=>all7 λr o f s g ac H y hk c i=>?_;obtain rfl:=c.1;have A:=c.2.1;have C:=c.2.2.1;have m:=c.2.2.2.1;have E:=c.2.2.2.2.1;have l:=c.2.2.2.2.2;dsimp only at A C m E;dsimp only[vG];apply X.join1 (p:=g-1) (g:=g);rotate_left
      ·exact λ_=>rfl
      intro g;refine X.go D.setMin (X.go (D.elem (q:=b) (i:=s) m) (X.bind (galE (a.size-f) (λe=>by simp only[UQ]) (M _ m) (by lia) (by lia) N) ?_));rintro d z ⟨hd,rfl⟩;dsimp only;apply X.join2 (o:=o) (j:=f) (λo j=>Iv a b o j s/\j+1<a.size/\ia+ib+1<=j+s)
      ·rintro o f ⟨A,C,E⟩
       refine X.go (D.elem (q:=b) (i:=s) m) ?_;have r:=A.pushB m;have J:∀e:En,(e.of o).push (e.at (b.getD s 0))=e.of (o.push (b.getD s 0)):=λe=>aX e _ _;refine X.eqSize (λ_=>X.tellD r l J λt h=>.inl h) λz3=>?_;refine X.go (D.elem (q:=a) (i:=f) (by lia)) (X.bind (galE (b.size-(s+1)) (λe=>by simp only[UQ]) (N _ (by lia)) (by lia) (by lia) M) ?_);rintro U z ⟨W,rfl⟩;refine X.ite (λ_=>?_) λ_=>?_
       ·have u:=r.extB U
        have T:∀e:En,_=e.of _:=λe=>((congrArg (λO=>O++(e.of b).extract (s+1) (s+1+U)) (J e)).trans (by rw[Z3])).trans (ZM e _ _);refine X.eqSize (λ_=>X.tellD u l T λt h=>.inl h) λz4=>?_;refine X.go (D.elem (q:=a) (i:=f) (by lia)) ?_;have w:=u.pushA (show f<a.size by lia);have F:∀e:En,_=e.of _:=λe=>(congrArg (λO=>O.push (e.at (a.getD f 0))) (T e)).trans (aX e _ _);refine X.eqSize (λ_=>X.tellL w l F λt h=>.inl h) λV=>?_;exact X.ite (λ_=>X.doneG (.inr ⟨rfl,w,by dsimp only;lia,by dsimp only;lia,by dsimp only;lia,l⟩) F) λ_=>X.yieldG ⟨rfl,w,by dsimp only;lia,by dsimp only;lia,by dsimp only;lia,l⟩ F
       ·refine X.go (D.elem (q := a) (i := f) (by lia)) ?_
        have w:=r.pushA (show f<a.size by lia);have F:∀e:En,_=e.of _:=λe=>(congrArg (λO=>O.push (e.at (a.getD f 0))) (J e)).trans (aX e _ _);refine X.eqSize (λ_=>X.tellL w l F λt h=>.inl h) λV=>?_;exact X.ite (λ_=>X.doneG (.inr ⟨rfl,w,by dsimp only;lia,by dsimp only;lia,by dsimp only;lia,l⟩) F) λ_=>X.yieldG ⟨rfl,w,by dsimp only;lia,by dsimp only;lia,by dsimp only;lia,l⟩ F
      ·intro key _
       have q:=A.extA d;have qO:∀e:En,e.of o++(e.of a).extract f (f+d)=e.of (o++a.extract f (f+d)):=λe=>by rw[Z3,ZM]
       refine X.eqSize (λ_=>X.tellL q l qO λt h=>.inl h) λz1=>X.eqSize (λ_=>X.tellD q l qO λt h=>.inl h) λz2=>?_;exact X.cg (λe=>by rw[qO e];rfl) (key (o++a.extract f (f+d)) (f+d) ⟨q,by lia,by lia⟩)
      ·exact⟨A,C,E⟩
     ·refine all7 λr o f s g ac H z c => c.elim (λc => ?_) λc => ?_
      ·obtain⟨t,B,L⟩:=c
       dsimp only at B;subst B;exact X.done (b3 t,o,f,s,g) ⟨t,rfl,L⟩
      ·have B:=c.1
       have A:=c.2.1;have C:=c.2.2.1;have m:=c.2.2.2.1;have E:=c.2.2.2.2.1;have l:=c.2.2.2.2.2;dsimp only at B A C m E;subst B;dsimp only[vG];refine X.go D.setMin ?_;exact X.yieldG ⟨rfl,A,C,m,by dsimp only;lia,l⟩ λe=>rfl
  ·simp only[QG]
   rfl
 ·refine all5 λr o ia ib g y c => ?_
  obtain⟨t,B,h⟩:=c;dsimp only at B;subst B;exact X.ret t h
end
section
variable{n:Nat}{ck:Nat->Nat->Bool}
def Iw(a b o:Array Nat)(d c:Nat):Prop:=o.toList.Perm (a.toList.drop d++b.toList.drop c)
def GY{a:Array Nat}{i:Nat}(b:0<i)(h:i<=a.size):a.toList.drop (i-1)=a.getD (i-1) 0::a.toList.drop i:=by
 have h1:i-1<a.size:=by lia
 have e:a.getD (i-1) 0=a[i-1]:=by simp[Lb,h1]
 rw[e,Fx (by simpa using h1),show i-1+1=i by lia];simp
def Iw.pushA{a b o:Array Nat}{c d:Nat}(h:Iw a b o c d)(e:0<c)(h1:c<=a.size):Iw a b (o.push (a.getD (c-1) 0)) (c-1) d:=by unfold Iw at h⊢;rw[GY e h1,Gx,Ix];exact Cq.trans (Sa _ h)
def Iw.pushB{a b o:Array Nat}{d c:Nat}(h:Iw a b o d c)(e:0<c)(h1:c<=b.size):Iw a b (o.push (b.getD (c-1) 0)) d (c-1):=by unfold Iw at h⊢;rw[GY e h1,Gx];exact(Cq.trans (Sa _ h)).trans List.perm_middle.symm
def P2(l:List Nat)(i j:Nat)(h:i<=j):l.drop i=(l.take j).drop i++l.drop j:=by have e:=Dk (j-i) (l.drop i);rw[Sb,show i+(j-i)=j by lia,<-Rz]at e;exact e.symm
def Iw.extA{a b o:Array Nat}{c d:Nat}(h:Iw a b o c d){t:Nat}(e:t<=c):Iw a b (o++(a.extract t c).reverse) t d:=by unfold Iw at h⊢;rw[P2 a.toList t c e,Cj,Gy,XX,Ay];exact Cq.trans (Qp (Lc _) h)
def Iw.extB{a b o:Array Nat}{d c:Nat}(h:Iw a b o d c){t:Nat}(e:t<=c):Iw a b (o++(b.extract t c).reverse) d t:=by unfold Iw at h⊢;rw[P2 b.toList t c e,Cj,Gy,XX];generalize (b.toList.take c).drop t=u at*;refine(Qp h (Lc u)).trans ?_;rw[Ay];exact Dj _ Cq
def Iw.all{a b o:Array Nat}{d c:Nat}(h:Iw a b o d c):((a.toList.take d++b.toList.take c)++o.toList.reverse).Perm (a.toList++b.toList):=by refine(Dj _ ((Lc _).trans h)).trans ?_;have f:=Dk d a.toList;have e:=Dk c b.toList;generalize a.toList.take d=k at*;generalize a.toList.drop d=j at*;generalize b.toList.take c=i at*;generalize b.toList.drop c=g at*;rw[<-f,<-e,Ay,Ay];refine Dj _ ?_;rw[<-Ay,<-Ay];exact Gp _ Cq
def JP(a:Array Nat)(i:Nat):(a.extract 0 i).toList=a.toList.take i:=by rw[XX];rfl
def Iw.done{a b o:Array Nat}{d c:Nat}(h:Iw a b o d c):(a.extract 0 d++b.extract 0 c++o.reverse).toList.Perm (a.toList++b.toList):=by rw[Cj,Cj,JP,JP,Gy];exact h.all
def Iw.first{a b o:Array Nat}{d c:Nat}(h:Iw a b o d c):(b.extract 0 c++a.extract 0 d++o.reverse).toList.Perm (a.toList++b.toList):=by rw[Cj,Cj,JP,JP,Gy];exact(Gp _ Cq).trans h.all
def Lh(a b:Array Nat)(x:Pu)(m:Nat)(r:Option (Array Nat))(o:Array Nat)(d c:Nat)(y:Pu):Prop:=r=b4/\Iw a b o d c/\0<d/\d<=a.size/\1<c/\c<=b.size/\d+c<=m/\Sd x y
abbrev HT(β:Type):=Option (Array Nat)×Nat×Nat×Array Nat×β
noncomputable def vH{β:Type}(t:HT β)(e:En):Option (Array Keyed)×Nat×Nat×Array Keyed×β:=(t.1.map e.of,t.2.1,t.2.2.1,e.of t.2.2.2.1,t.2.2.2.2)
def X.yieldH{β:Type}{tail:β}{o:Array Nat}{b a:Nat}{O:En->Array Keyed}{I J:HT β->Pu->Prop}{y:Pu}(h:I (b4,b,a,o,tail) y)(c:∀e,O e=e.of o):X n ck (λe=>Gu (Dv (b4,b,a,O e,tail))) y (sv vH) (sR I J):=
 X.yield (b4,b,a,o,tail) h λe=>by rw[c];rfl
def X.doneH{β:Type}{tail:β}{o:Array Nat}{b a:Nat}{O:En->Array Keyed}{I J:HT β->Pu->Prop}{y:Pu}(h:J (b4,b,a,o,tail) y)(c:∀e,O e=e.of o):X n ck (λe=>Gu (ForInStep.done (b4,b,a,O e,tail))) y (sv vH) (sR I J):=
 X.done (b4,b,a,o,tail) h λe=>by rw[c];rfl
def X.tellE{β:Type}{tail:β}{a b o:Array Nat}{d c:Nat}{O:En->Array Keyed}{I J:HT β->Pu->Prop}{x y:Pu}(q:Iw a b o d c)(f:Sd x y)(g:∀e,O e=e.of o)(h:∀t,Td a b x t.1 y->J t y):X n ck (λe=>Gu (ForInStep.done (b3 ((e.of a).extract 0 d++(e.of b).extract 0 c++(O e).reverse),d,c,O e,tail))) y (sv vH) (sR I J):=
 X.done (b3 (a.extract 0 d++b.extract 0 c++o.reverse),d,c,o,tail) (h _ ⟨_,rfl,q.done,f⟩) λe=>by rw[g,Z3,Z3,SO,ZM,ZM];rfl
def X.tellF{β:Type}{tail:β}{a b o:Array Nat}{d c:Nat}{O:En->Array Keyed}{I J:HT β->Pu->Prop}{x y:Pu}(q:Iw a b o d c)(f:Sd x y)(g:∀e,O e=e.of o)(h:∀t,Td a b x t.1 y->J t y):X n ck (λe=>Gu (ForInStep.done (b3 ((e.of b).extract 0 c++(e.of a).extract 0 d++(O e).reverse),d,c,O e,tail))) y (sv vH) (sR I J):=
 X.done (b3 (b.extract 0 c++a.extract 0 d++o.reverse),d,c,o,tail) (h _ ⟨_,rfl,q.first,f⟩) λe=>by rw[g,Z3,Z3,SO,ZM,ZM];rfl
def X.is{α c:Type}{m k:Nat}{d:En->Decidable ((m==k)=ba)}{a b:En->StateT Ff Ut α}{x:Pu}{v:c->En->α}{R:c->Pu->Prop}(h1:m=k->X n ck a x v R)(h2:m≠k->X n ck b x v R):X n ck (λe=> @_root_.ite _ ((m==k)=ba) (d e) (a e) (b e)) x v R:=
 X.ite (λh=>h1 (by simpa using h)) λh=>h2 (by simpa using h)
def X.iteE{α d:Type}{c:En->Prop}{f:(e:En)->Decidable (c e)}{a b:En->StateT Ff Ut α}{x:Pu}{v:d->En->α}{R:d->Pu->Prop}{c0:Prop}(hc:∀e,c e=c0)(h1:c0->X n ck a x v R)(h2:¬c0->X n ck b x v R):X n ck (λe=> @_root_.ite _ (c e) (f e) (a e) (b e)) x v R:=by obtain rfl:c=λ_=>c0:=funext hc;exact X.ite h1 h2
def pJ{a b:Array Nat}{x:Pu}(R:Al n a)(Q:Al n b)(a1:1<=a.size)(b1:1<=b.size):X n ck (λe=>HC (e.of a) (e.of b)) x (λt e=>e.of t) (λt y=>t.toList.Perm (a.toList++b.toList)/\Sd x y):=by
 have W:Iw a b #[a.getD (a.size-1) 0] (a.size-1) b.size:=by
  have e:Iw a b #[] a.size b.size:=by unfold Iw;rw[show a.size=a.toList.length from rfl,show b.size=b.toList.length from rfl,Hc,Hc];exact .refl _
  exact e.pushA (by lia) (Aq _)
 refine X.go D.rule ?_;simp only[UQ];refine X.go (D.elem (q:=a) (i:=a.size-1) (by lia)) ?_;refine X.is (λh=>X.ret (a.extract 0 (a.size-1)++b.extract 0 b.size++ #[a.getD (a.size-1) 0].reverse) ⟨W.done,rfl,rfl⟩ λe=>?_) λh=>?_
 ·simp only[<-ZM,<-Z3,<-SO,QG]
 refine X.is (λh=>X.ret (b.extract 0 b.size++a.extract 0 (a.size-1)++ #[a.getD (a.size-1) 0].reverse) ⟨W.first,rfl,rfl⟩ λe=>?_) λh2=>?_
 ·simp only[<-ZM,<-Z3,<-SO,QG]
 refine X.go D.get ?_;refine X.bind (u:=vH) (S:=λt y=>Td a b x t.1 y) ?_ ?_
 ·refine X.rangeE (v := vH) (I := λk t y => Lh a b x k t.1 t.2.2.2.1 t.2.1 t.2.2.1 y) (t := (b4,a.size-1,b.size,#[a.getD (a.size-1) 0],x.g)) (a.size + b.size) (λe => rfl) ?_ ⟨rfl,W,by dsimp only;lia,by dsimp only;lia,by dsimp only;lia,by dsimp only;lia,by dsimp only;lia,rfl,rfl⟩ ?_ λe => ?_
  ·rintro t y ⟨_,_,h3,h4,Z,h6,h7,_⟩
   exact absurd h7 (by lia)
  ·refine λk => all5 λr na nb o g y hk c i => ?_
   obtain rfl:=c.1;have h2:=c.2.1;have h3:=c.2.2.1;have P:=c.2.2.2.1;have h4:=c.2.2.2.2.1;have N:=c.2.2.2.2.2.1;have Z:=c.2.2.2.2.2.2.1;have h6:=c.2.2.2.2.2.2.2;dsimp only at h2 h3 P h4 N Z;dsimp only[vH];refine X.bind (u:=vH) (S:=λt z=>Td a b x t.1 z∨Lh a b x k t.1 t.2.2.2.1 t.2.1 t.2.2.1 z) ?_ ?_
   ·refine X.rangeE (v := vH) (I := λj t y => Lh a b x (if j < a.size + b.size then k else k + 1) t.1 t.2.2.2.1 t.2.1 t.2.2.1 y) (t := (b4,na,nb,o,0,0)) (a.size + b.size) (λe => rfl) ?_ ⟨rfl,h2,h3,P,h4,N,by rw [if_neg (by lia)];exact Z,h6⟩ ?_
    ·intro t y h
     rw[if_pos (by lia)]at h;exact .inr h
    ·refine λj => all6 λr A s o ac T y hk c i => ?_
     obtain rfl:=c.1;have E:=c.2.1;have F:=c.2.2.1;have m:=c.2.2.2.1;have G:=c.2.2.2.2.1;have l:=c.2.2.2.2.2.1;have H:=c.2.2.2.2.2.2.1;have f:=c.2.2.2.2.2.2.2;dsimp only at E F m G l H;dsimp only[vH];have g5':A+s<=k+1:=by split at H<;>lia
     refine X.go (D.elem (q:=b) (i:=s-1) (by lia)) (X.go (D.elem (q:=a) (i:=A-1) (by lia)) (X.go (D.lt (Q _ (by lia)) (R _ (by lia))) ?_));refine X.ite (λ_=>?_) λ_=>?_
     ·refine X.go (D.elem (q := a) (i := A-1) (by lia)) ?_
      have q:=E.pushA F m;refine X.is (λ_=>X.tellE q f (λe=>aX e _ _) λt h=>.inl h) λz=>?_;exact X.ite (λ_=>X.doneH (.inr ⟨rfl,q,by dsimp only;lia,by dsimp only;lia,G,l,by dsimp only;lia,f⟩) λe=>aX e _ _) λ_=>X.yieldH ⟨rfl,q,by dsimp only;lia,by dsimp only;lia,G,l,by dsimp only;rw[if_pos hk];lia,f⟩ λe=>aX e _ _
     ·refine X.go (D.elem (q := b) (i := s-1) (by lia)) ?_
      have q:=E.pushB (by lia) l;refine X.is (λ_=>X.tellF q f (λe=>aX e _ _) λt h=>.inl h) λz=>?_;exact X.ite (λ_=>X.doneH (.inr ⟨rfl,q,F,m,by dsimp only;lia,by dsimp only;lia,by dsimp only;lia,f⟩) λe=>aX e _ _) λ_=>X.yieldH ⟨rfl,q,F,m,by dsimp only;lia,by dsimp only;lia,by dsimp only;rw[if_pos hk];lia,f⟩ λe=>aX e _ _
   ·refine all6 λr A s o ac T z c => c.elim (λc => ?_) λc => ?_
    ·obtain⟨t,C,Y⟩:=c
     dsimp only at C;subst C;exact X.done (b3 t,A,s,o,g) ⟨t,rfl,Y⟩
    ·have C:=c.1
     have E:=c.2.1;have F:=c.2.2.1;have m:=c.2.2.2.1;have G:=c.2.2.2.2.1;have l:=c.2.2.2.2.2.1;have H:=c.2.2.2.2.2.2.1;have f:=c.2.2.2.2.2.2.2;dsimp only at C E F m G l H;subst C;dsimp only[vH];refine X.go D.rule ?_;refine X.bind (u:=vH) (S:=λt z=>Td a b x t.1 z∨Lh a b x k t.1 t.2.2.2.1 t.2.1 t.2.2.1 z) ?_ ?_
     ·refine X.rangeE (v := vH) (I := λ_ t y => Lh a b x k t.1 t.2.2.2.1 t.2.1 t.2.2.1 y) (t := (b4,A,s,o,g + 1,ac,T)) (a.size + b.size) (λe => rfl) (λt y h => .inr h) ⟨rfl,E,F,m,G,l,H,f⟩ ?_
      refine λj=>all7 λr A s o g ac T y hk c i=>?_;obtain rfl:=c.1;have E:=c.2.1;have F:=c.2.2.1;have m:=c.2.2.2.1;have G:=c.2.2.2.2.1;have l:=c.2.2.2.2.2.1;have H:=c.2.2.2.2.2.2.1;have f:=c.2.2.2.2.2.2.2;dsimp only at E F m G l H;dsimp only[vH];apply X.join1 (p:=g-1) (g:=g);rotate_left
      ·exact λ_=>rfl
      intro g;refine X.go D.setMin (X.go (D.elem (q:=b) (i:=s-1) (by lia)) (X.bind (gal (Q _ (by lia)) (by lia) (by lia) R) ?_));rintro d z ⟨hd,rfl⟩;refine X.ite (λ_=>?_) λ_=>?_
      ·have q:=E.extA hd
       have qO:∀e:En,e.of o++((e.of a).extract d A).reverse=e.of (o++(a.extract d A).reverse):=λe=>by rw[Z3,SO,ZM]
       refine X.is (λ_=>X.tellE q f qO λt h=>.inl h) λz1=>?_;refine X.go (D.elem (q:=b) (i:=s-1) (by lia)) ?_;have r:=q.pushB (show 0<s by lia) l;have K:∀e:En,_=e.of _:=λe=>(congrArg (λO=>O.push (e.at (b.getD (s-1) 0))) (qO e)).trans (aX e _ _);refine X.is (λ_=>X.tellF r f K λt h=>.inl h) λz3=>?_;refine X.go (D.elem (q:=a) (i:=d-1) (by lia)) (X.bind (gal (R _ (by lia)) (by lia) (by lia) Q) ?_);rintro M z ⟨L,rfl⟩;refine X.ite (λ_=>?_) λ_=>?_
       ·have u:=r.extB L
        have J:∀e:En,_=e.of _:=λe=>((congrArg (λO=>O++((e.of b).extract M (s-1)).reverse) (K e)).trans (by rw[Z3,SO])).trans (ZM e _ _);refine X.is (λ_=>X.tellF u f J λt h=>.inl h) λz4=>X.is (λ_=>X.tellE u f J λt h=>.inl h) λV=>?_;refine X.go (D.elem (q:=a) (i:=d-1) (by lia)) ?_;have w:=u.pushA (show 0<d by lia) (by lia);have B:∀e:En,_=e.of _:=λe=>(congrArg (λO=>O.push (e.at (a.getD (d-1) 0))) (J e)).trans (aX e _ _);refine X.is (λ_=>X.tellE w f B λt h=>.inl h) λU=>?_;exact X.iteE (c0:=(decide (A-d<7)&&decide (s-1-M<7))=ba) (λe=>rfl) (λ_=>X.doneH (.inr ⟨rfl,w,by dsimp only;lia,by dsimp only;lia,by dsimp only;lia,by dsimp only;lia,by dsimp only;lia,f⟩) B) λ_=>X.yieldH ⟨rfl,w,by dsimp only;lia,by dsimp only;lia,by dsimp only;lia,by dsimp only;lia,by dsimp only;lia,f⟩ B
       ·skip
        refine X.go (D.elem (q:=a) (i:=d-1) (by lia)) ?_;have w:=r.pushA (show 0<d by lia) (by lia);have B:∀e:En,_=e.of _:=λe=>(congrArg (λO=>O.push (e.at (a.getD (d-1) 0))) (K e)).trans (aX e _ _);refine X.is (λ_=>X.tellE w f B λt h=>.inl h) λU=>?_;exact X.iteE (c0:=(decide (A-d<7)&&decide (s-1-M<7))=ba) (λe=>rfl) (λ_=>X.doneH (.inr ⟨rfl,w,by dsimp only;lia,by dsimp only;lia,by dsimp only;lia,by dsimp only;lia,by dsimp only;lia,f⟩) B) λ_=>X.yieldH ⟨rfl,w,by dsimp only;lia,by dsimp only;lia,by dsimp only;lia,by dsimp only;lia,by dsimp only;lia,f⟩ B
      ·have qO : ∀ e : En,e.of o = e.of o := λe => rfl
       refine X.go (D.elem (q:=b) (i:=s-1) (by lia)) ?_;have r:=E.pushB (show 0<s by lia) l;have K:∀e:En,_=e.of _:=λe=>(congrArg (λO=>O.push (e.at (b.getD (s-1) 0))) (qO e)).trans (aX e _ _);refine X.is (λ_=>X.tellF r f K λt h=>.inl h) λz3=>?_;refine X.go (D.elem (q:=a) (i:=A-1) (by lia)) (X.bind (gal (R _ (by lia)) (by lia) (by lia) Q) ?_);rintro M z ⟨L,rfl⟩;refine X.ite (λ_=>?_) λ_=>?_
       ·have u:=r.extB L
        have J:∀e:En,_=e.of _:=λe=>((congrArg (λO=>O++((e.of b).extract M (s-1)).reverse) (K e)).trans (by rw[Z3,SO])).trans (ZM e _ _);refine X.is (λ_=>X.tellF u f J λt h=>.inl h) λz4=>X.is (λ_=>X.tellE u f J λt h=>.inl h) λV=>?_;refine X.go (D.elem (q:=a) (i:=A-1) (by lia)) ?_;have w:=u.pushA (show 0<A by lia) (by lia);have B:∀e:En,_=e.of _:=λe=>(congrArg (λO=>O.push (e.at (a.getD (A-1) 0))) (J e)).trans (aX e _ _);refine X.is (λ_=>X.tellE w f B λt h=>.inl h) λU=>?_;exact X.iteE (c0:=(decide (A-d<7)&&decide (s-1-M<7))=ba) (λe=>rfl) (λ_=>X.doneH (.inr ⟨rfl,w,by dsimp only;lia,by dsimp only;lia,by dsimp only;lia,by dsimp only;lia,by dsimp only;lia,f⟩) B) λ_=>X.yieldH ⟨rfl,w,by dsimp only;lia,by dsimp only;lia,by dsimp only;lia,by dsimp only;lia,by dsimp only;lia,f⟩ B
       ·skip
        refine X.go (D.elem (q:=a) (i:=A-1) (by lia)) ?_;have w:=r.pushA (show 0<A by lia) (by lia);have B:∀e:En,_=e.of _:=λe=>(congrArg (λO=>O.push (e.at (a.getD (A-1) 0))) (K e)).trans (aX e _ _);refine X.is (λ_=>X.tellE w f B λt h=>.inl h) λU=>?_;exact X.iteE (c0:=(decide (A-d<7)&&decide (s-1-M<7))=ba) (λe=>rfl) (λ_=>X.doneH (.inr ⟨rfl,w,by dsimp only;lia,by dsimp only;lia,by dsimp only;lia,by dsimp only;lia,by dsimp only;lia,f⟩) B) λ_=>X.yieldH ⟨rfl,w,by dsimp only;lia,by dsimp only;lia,by dsimp only;lia,by dsimp only;lia,by dsimp only;lia,f⟩ B
     ·refine all7 λr A s o g ac T z c => c.elim (λc => ?_) λc => ?_
      ·obtain⟨t,C,Y⟩:=c
       dsimp only at C;subst C;exact X.done (b3 t,A,s,o,g) ⟨t,rfl,Y⟩
      ·have C:=c.1
       have E:=c.2.1;have F:=c.2.2.1;have m:=c.2.2.2.1;have G:=c.2.2.2.2.1;have l:=c.2.2.2.2.2.1;have H:=c.2.2.2.2.2.2.1;have f:=c.2.2.2.2.2.2.2;dsimp only at C E F m G l H;subst C;dsimp only[vH];refine X.go D.setMin ?_;exact X.yieldH ⟨rfl,E,F,m,G,l,H,f⟩ λe=>rfl
  ·simp only[QG]
   rfl
 ·refine all5 λr na nb o g y c => ?_
  obtain⟨t,C,h⟩:=c;dsimp only at C;subst C;exact X.ret t h
end
section
variable{n:Nat}{ck:Nat->Nat->Bool}
def Ch:List (Nat×Nat×Nat)->Nat->Nat->Prop
 |[],s,e=>s=e
 |u::l,s,e=>u.1=s/\1<=u.2.1/\Ch l (s+u.2.1) e
theorem Ch.le:∀{l:List (Nat×Nat×Nat)}{s e:Nat},Ch l s e->s<=e
 |[],s,e,h=>Nat.le_of_eq h
 |u::l,s,e,h=>by have:=Ch.le h.2.2;lia
theorem Ch.two:∀{l:List (Nat×Nat×Nat)}{s e i:Nat}{u v:Nat×Nat×Nat},Ch l s e->l[i]?=b3 u->l[i+1]?=b3 v->v.1=u.1+u.2.1/\1<=u.2.1/\1<=v.2.1/\v.1+v.2.1<=e
 |[],s,e,i,u,v,h,h1,h2=>by simp at h1
 |[w],s,e,i,u,v,h,h1,h2=>by simp at h2
 |w::a::l,s,e,0,u,v,h,h1,h2=>by
  simp at h1 h2;subst h1 h2;obtain⟨f,c,d,a4,b⟩:=h;have:=b.le
  exact⟨by lia,c,a4,by lia⟩
 |w::a::l,s,e,i+1,u,v,h,h1,h2=>by exact Ch.two (l:=a::l) h.2.2 (by simpa using h1) (by simpa using h2)
theorem Ch.join:∀{l:List (Nat×Nat×Nat)}{s e i:Nat}{u v:Nat×Nat×Nat},Ch l s e->l[i]?=b3 u->l[i+1]?=b3 v->Ch ((l.set i (u.1,u.2.1+v.2.1,u.2.2)).eraseIdx (i+1)) s e
 |[],s,e,i,u,v,h,h1,h2=>by simp at h1
 |[w],s,e,i,u,v,h,h1,h2=>by simp at h2
 |w::a::l,s,e,0,u,v,h,h1,h2=>by simp at h1 h2;subst h1 h2;obtain⟨d,g,f,a4,b⟩:=h;exact⟨d,by dsimp only;lia,by rw[Tb]at b;exact b⟩
 |w::a::l,s,e,i+1,u,v,h,h1,h2=>by have c:=Ch.join (l:=a::l) h.2.2 (by simpa using h1) (by simpa using h2);exact⟨h.1,h.2.1,c⟩
theorem Ch.more:∀{l:List (Nat×Nat×Nat)}{s e m:Nat},Ch l s e->1<=m->Ch (l++[(e,m,0)]) s (e+m)
 |[],s,e,m,h,h1=>⟨h.symm,h1,by rw[h];rfl⟩
 |u::l,s,e,m,h,h1=>⟨h.1,h.2.1,Ch.more h.2.2 h1⟩
theorem Ch.mod{f:Nat×Nat×Nat->Nat×Nat×Nat}(a:∀u,(f u).1=u.1/\(f u).2.1=u.2.1):∀{l:List (Nat×Nat×Nat)}{s e:Nat}(i:Nat),Ch l s e->Ch (l.modify i f) s e
 |[],s,e,i,h=>by simpa using h
 |u::l,s,e,0,h=>by rw[List.modify_zero_cons];exact⟨(a u).1.trans h.1,by rw[(a u).2];exact h.2.1,by rw[(a u).2];exact h.2.2⟩
 |u::l,s,e,i+1,h=>by rw[List.modify_succ_cons];exact⟨h.1,h.2.1,Ch.mod a i h.2.2⟩
def put{α:Type}(p:Array α)(s:Nat)(l:List α)(k:Nat):Array α:=(l.zipIdx k).foldl (λa x=>a.setIfInBounds (s+x.2) x.1) p
theorem D3{α β:Type}(f:α->β)(s:Nat):∀(l:List α) (k:Nat) (p:Array α),put (p.map f) s (l.map f) k=(put p s l k).map f
 |[],k,p=>rfl
 |q::l,k,p=>by
  have e:(p.map f).setIfInBounds (s+k) (f q)=(p.setIfInBounds (s+k) q).map f:=by simp
  show put ((p.map f).setIfInBounds (s+k) (f q)) s (l.map f) (k+1)=_;rw[e];exact D3 f s l (k+1) _
theorem HW{α:Type}(s:Nat):∀(l:List α) (k:Nat) (p:Array α),s+k+l.length<=p.size->(put p s l k).toList=p.toList.take (s+k)++l++p.toList.drop (s+k+l.length)
 |[],k,p,h=>by simp[put]
 | q :: l,k,p,h => by
  simp only[Bw]at h;have a:=HW s l (k+1) (p.setIfInBounds (s+k) q) (by simp;lia);show(put (p.setIfInBounds (s+k) q) s l (k+1)).toList=_;have hk:s+k<p.toList.length:=by simp;lia
  rw[a,Array.toList_setIfInBounds,show s+(k+1)=s+k+1 by lia,List.drop_set_of_lt (by lia),List.take_set,Ry,Cs hk];simp only[Bw,Option.toList_some];rw[show s+k+(l.length+1)=s+k+1+l.length by lia];have b:(p.toList.take (s+k)++[p.toList[s+k]]).set (s+k) q=p.toList.take (s+k)++[q]:=by
   have c:(p.toList.take (s+k)).length=s+k:=by rw[Cr];lia
   rw[Ft _ _ (by lia),c,Kr];rfl
  rw[b];simp
def Wf(n:Nat)(lo:Nat)(x:Pu):Prop:=Pm n x.p/\Ch x.pd.toList 0 lo/\lo<=n
def Pm.put{p:Array Nat}(b:Pm n p){s m e:Nat}{t:Array Nat}(h1:s<=m)(h2:m<=e)(i:e<=n)(a:t.toList.Perm ((p.extract s m).toList++(p.extract m e).toList)):Pm n (TS.put p s t.toList 0):=by
 have h:=b.sz;have hl:t.toList.length=e-s:=by rw[a.length_eq];simp;lia
 unfold Pm;rw[HW s t.toList 0 p (by lia)];refine Jy ?_ b;rw[hl,show s+0+(e-s)=e by lia,Nat.add_zero];have g:=Dk e p.toList;have d:=Dk s (p.toList.take e);have c:=P2 (p.toList.take e) s m h1;rw[Nl,Ht h2]at c;rw[Nl,Ht (by lia)]at d;rw[XX,XX,<-c]at a;have f:p.toList=p.toList.take s++(p.toList.take e).drop s++p.toList.drop e:=by rw[d,g]
 refine Jy (Gp _ (Dj _ a)) ?_;rw[<-f]
def D.set{F:En->Ff}{x y:Pu}(h:∀e,F e=CG e y):D n ck (λe=>(MonadStateOf.set (F e):StateT Ff Ut PUnit)) x (λ_=>⟨⟩) y:=λe _ E Q q=>by show kasC _ _ _ (MonadStateOf.set (F e):StateT Ff Ut PUnit) Q _ _;rw[h e];unfold kasC;exact Ai q
def iS{a b:Array Nat}{x:Pu}{A B:En->Array Keyed}(g:∀e,A e=e.of a)(f:∀e,B e=e.of b)(d:Al n a)(c:Al n b)(i:1<=a.size)(h:1<=b.size):X n ck (λe=>HD (A e) (B e)) x (λt e=>e.of t) (λt y=>t.toList.Perm (a.toList++b.toList)/\Sd x y):=by rw[show A=λe=>e.of a from funext g,show B=λe=>e.of b from funext f];exact gO d c i h
def fT{a b:Array Nat}{x:Pu}{A B:En->Array Keyed}(g:∀e,A e=e.of a)(f:∀e,B e=e.of b)(d:Al n a)(c:Al n b)(i:1<=a.size)(h:1<=b.size):X n ck (λe=>HC (A e) (B e)) x (λt e=>e.of t) (λt y=>t.toList.Perm (a.toList++b.toList)/\Sd x y):=by rw[show A=λe=>e.of a from funext g,show B=λe=>e.of b from funext f];exact pJ d c i h
def Pm.al{p:Array Nat}(h:Pm n p):Al n p:=λi hi=>h.lt (by rw[<-h.sz];exact hi)
def Al.ext{p:Array Nat}(h:Al n p)(i j:Nat):Al n (p.extract i j):=λk hk=>by
 have a:k<min j p.size-i:=by simpa using hk
 have e:(p.extract i j).getD k 0=p.getD (i+k) 0:=by
  have h1:i+k<p.size:=by lia
  have c:p.getD (i+k) 0=p[i+k]:=by simp[Lb,h1]
  have b:(p.extract i j).getD k 0=(p.extract i j)[k]:=by simp[Lb,a]
  rw[c,b,Array.getElem_extract]
 rw[e];exact h _ (by lia)
def Vg{i lo:Nat}{x:Pu}(h:Wf n lo x)(hi:i+1<x.pd.size):X n ck (λ_=>mergeAt' i) x (λ(_:Unit) _=>ba) (λ_ y=>Wf n lo y):=by
 obtain⟨f,hc,hl⟩:=h;have hsz:=f.sz;obtain⟨c,j,pw,I⟩:∃c j pw,x.pd[i]'(by lia)=(c,j,pw):=⟨_,_,_,rfl⟩;obtain⟨d,l,qw,H⟩:∃d l qw,x.pd[i+1]'hi=(d,l,qw):=⟨_,_,_,rfl⟩;have G:x.pd[i]?=b3 (c,j,pw):=by rw[<-I];simp
 have F:x.pd[i+1]?=b3 (d,l,qw):=by rw[<-H];simp
 have r:x.pd.toList[i]?=b3 (c,j,pw):=by rw[<-G];simp
 have o:x.pd.toList[i+1]?=b3 (d,l,qw):=by rw[<-F];simp
 obtain⟨O,N,M,L⟩:=hc.two r o;dsimp only at O N M L;have E:=hc.join r o;dsimp only at E;have u:Wf n lo {x with pd:=(x.pd.setIfInBounds i (c,j+l,pw)).eraseIdxIfInBounds (i+1)}:=⟨f,by show Ch ((x.pd.setIfInBounds i (c,j+l,pw)).eraseIdxIfInBounds (i+1)).toList 0 lo;rw[show((x.pd.setIfInBounds i (c,j+l,pw)).eraseIdxIfInBounds (i+1)).toList=(x.pd.toList.set i (c,j+l,pw)).eraseIdx (i+1) by simp[Kz,hi]];exact E,hl⟩
 generalize C:({x with pd:=(x.pd.setIfInBounds i (c,j+l,pw)).eraseIdxIfInBounds (i+1)}:Pu)=y at u;refine X.go D.get ?_;have B:∀e:En,pendingOf (CG e x)=x.pd:=λe=>rfl;simp only[B,G,F];refine X.go (D.set (y:=y) λe=>by rw[<-C];rfl) ?_;have v:y.p=x.p:=by rw[<-C]
 refine X.go (D.elem (q:=x.p) (i:=d) (by lia)) (X.bind (gal (f.lt (by lia)) (by lia) (by lia) f.al) ?_);rintro k z ⟨hk,rfl⟩;refine X.is (λ_=>X.ret () u) λK=>?_;refine X.go (D.elem (q:=x.p) (i:=c+k+(j-k)-1) (by lia)) (X.bind (gal (f.lt (by lia)) (by lia) (by lia) f.al) ?_);rintro m z ⟨P,rfl⟩;refine X.is (λ_=>X.ret () u) λJ=>?_;have A:∀(t:Array Nat) (z':Pu),t.toList.Perm ((x.p.extract (c+k) d).toList++(x.p.extract d (d+m)).toList)->Sd z z'->Wf n lo {z' with p:=TS.put z'.p (c+k) t.toList 0}:=λt z' w s=>by refine⟨?_,by rw[s.2];exact u.2.1,hl⟩;rw[s.1,v];exact f.put (by lia) (by lia) (by lia) w
 have WT:∀(e:En) (t:Array Nat) (z':Pu),((e.of t).toList.zipIdx.foldl (λa x=>a.setIfInBounds (c+k+x.2) x.1) (e.of z'.p))=e.of (TS.put z'.p (c+k) t.toList 0):=λe t z'=>by have h:=D3 (Jf e.it) (c+k) t.toList 0 z'.p;rw[show t.toList.map (Jf e.it)=(e.of t).toList by simp[En.of]]at h;exact h
 refine X.ite (λ_=>X.bind (iS (a:=x.p.extract (c+k) d) (b:=x.p.extract d (d+m)) (λe=>Z3 e _ _ _) (λe=>Z3 e _ _ _) (f.al.ext _ _) (f.al.ext _ _) (by simp;lia) (by simp;lia)) ?_) λ_=>X.bind (fT (a:=x.p.extract (c+k) d) (b:=x.p.extract d (d+m)) (λe=>Z3 e _ _ _) (λe=>Z3 e _ _ _) (f.al.ext _ _) (f.al.ext _ _) (by simp;lia) (by simp;lia)) ?_
 all_goals
  rintro t z' ⟨w,s⟩;refine X.go (D.modify (y:={z' with p:=TS.put z'.p (c+k) t.toList 0}) λe=>?_) (X.go D.get (X.ret () (A t z' w s)));show Jh e.κ ((e.of t).toList.zipIdx.foldl (λa x=>a.setIfInBounds (c+k+x.2) x.1) (e.of z'.p)) z'.pd z'.g b4=_;rw[WT];rfl
end
section
variable{n:Nat}{ck:Nat->Nat->Bool}
theorem Wf.pw{x:Pu}{lo:Nat}(h:Wf n lo x)(i pw:Nat):Wf n lo {x with pd:=x.pd.modify i λu=>(u.1,u.2.1,pw)}:=by refine⟨h.1,?_,h.2.2⟩;show Ch (x.pd.modify i λu=>(u.1,u.2.1,pw)).toList 0 lo;rw[Array.toList_modify];exact Ch.mod (f:=λu=>(u.1,u.2.1,pw)) (λu=>⟨rfl,rfl⟩) i h.2.1
def Wf.more{x:Pu}{lo m:Nat}(h:Wf n lo x)(h1:1<=m)(h2:lo+m<=n):Wf n (lo+m) {x with pd:=x.pd.push (lo,m,0)}:=by refine⟨h.1,?_,h2⟩;show Ch (x.pd.push (lo,m,0)).toList 0 (lo+m);rw[Gx];exact h.2.1.more h1
def runs{x:Pu}(h:Wf n 0 x):X n ck (λ_=>sortRuns') x (λ(_:Unit) _=>()) (λ_ y=>Pm n y.p):=by
 refine X.go D.get ?_;have G:∀e:En,(arrOf (CG e x)).size=n:=λe=>by show(e.of x.p).size=n;rw[UQ,h.1.sz]
 have f:∀(e:En) (y:Pu),pendingOf (CG e y)=y.pd:=λe y=>rfl;simp only[G];generalize (sortPriv% PySem.Builtin.minRun) n n 0=o;refine X.bind (u:=λ(t:Nat) _=>(b4,t)) (S:=λt y=>Wf n t y) ?_ ?_
 ·refine X.range (I := λ_ t y => Wf n t y) (t := 0) (λt y h => h) h λi _ _ k lo y hw => ?_
  refine X.ite (λ_=>X.done lo hw) λq=>?_;dsimp only at q;refine X.bind (count hw.1 (by dsimp only;omega) (by dsimp only;omega)) ?_;rintro m z ⟨M,L,hz⟩;have g:Wf n lo z:=⟨hz.1,by rw[hz.2];exact hw.2.1,hw.2.2⟩;dsimp only at L;have last:∀(m:Nat) (z:Pu),1<=m->lo+m<=n->Wf n lo z->1<=m/\lo+m<=n/\Wf n lo z:=λm z a b c=>⟨a,b,c⟩;refine X.ite (λ_=>X.go D.rule (X.bind (bin g.1 (by dsimp only;omega)) λ_ C A=>X.ite (λl=>absurd l (by simp)) λ_=>?_)) λ_=>?_
  ·have w := last (min (n-lo) o) C (by omega) (by omega) ⟨A.1,by rw [A.2];exact g.2.1,g.2.2⟩
   obtain⟨v,s,r⟩:=w;refine X.go D.get ?_;simp only[f];cases O:C.pd.back? with
   |none=>exact X.go (D.modify (y:={C with pd:=C.pd.push (lo,(min (n-lo) o),0)}) λe=>rfl) (X.yield (lo+(min (n-lo) o)) (r.more v s))
   |some u=>
    obtain⟨s1,j,q1⟩:=u;dsimp only;generalize E:(sortPriv% PySem.Builtin.power) n (2*s1+j) (2*s1+j+j+min (n-lo) o) n=pw;refine X.bind (u:=λ(_:Unit) _=>(b4,())) (S:=λ_ y=>Wf n lo y) ?_ λ_ y d=>?_
    ·refine X.range (I := λ_ _ y => Wf n lo y) (t := ()) (λt y h => h) r λi _ _ k _ y d => ?_
     refine X.go D.get ?_;simp only[f];by_cases B:y.pd.size>1
     ·rw[if_pos B]
      cases N:y.pd[y.pd.size-2]? with
      |none=>exact X.done () d
      |some u=>
       obtain⟨K,J,H⟩:=u;dsimp only;exact X.ite (λ_=>X.done () d) λ_=>X.bind (Vg d (by omega)) λ_ y h=>X.ite (λl=>absurd l (by simp)) λ_=>X.yield () h
     ·rw[if_neg B]
      exact X.done () d
    ·refine X.go (D.modify (y := { y with pd := y.pd.modify (y.pd.size-1) λu => (u.1,u.2.1,pw) }) λe => rfl) ?_
     exact X.go (D.modify (y:={y with pd:=(y.pd.modify (y.pd.size-1) λu=>(u.1,u.2.1,pw)).push (lo,(min (n-lo) o),0)}) λe=>rfl) (X.yield (lo+min (n-lo) o) ((d.pw _ pw).more v s))
  ·have w := last m z M (by omega) g
   obtain⟨v,s,r⟩:=w;refine X.go D.get ?_;simp only[f];cases O:z.pd.back? with
   |none=>exact X.go (D.modify (y:={z with pd:=z.pd.push (lo,m,0)}) λe=>rfl) (X.yield (lo+m) (r.more v s))
   |some u=>
    obtain⟨s1,j,q1⟩:=u;dsimp only;generalize E:(sortPriv% PySem.Builtin.power) n (2*s1+j) (2*s1+j+j+m) n=pw;refine X.bind (u:=λ(_:Unit) _=>(b4,())) (S:=λ_ y=>Wf n lo y) ?_ λ_ y d=>?_
    ·refine X.range (I := λ_ _ y => Wf n lo y) (t := ()) (λt y h => h) r λi _ _ k _ y d => ?_
     refine X.go D.get ?_;simp only[f];by_cases B:y.pd.size>1
     ·rw[if_pos B]
      cases N:y.pd[y.pd.size-2]? with
      |none=>exact X.done () d
      |some u=>
       obtain⟨K,J,H⟩:=u;dsimp only;exact X.ite (λ_=>X.done () d) λ_=>X.bind (Vg d (by omega)) λ_ y h=>X.ite (λl=>absurd l (by simp)) λ_=>X.yield () h
     ·rw[if_neg B]
      exact X.done () d
    ·refine X.go (D.modify (y := { y with pd := y.pd.modify (y.pd.size-1) λu => (u.1,u.2.1,pw) }) λe => rfl) ?_
     exact X.go (D.modify (y:={y with pd:=(y.pd.modify (y.pd.size-1) λu=>(u.1,u.2.1,pw)).push (lo,m,0)}) λe=>rfl) (X.yield (lo+m) ((d.pw _ pw).more v s))
 ·intro lo y hw
  refine X.bind (u:=λ(_:Unit) _=>(b4,())) (S:=λ_ y=>Wf n lo y) ?_ λ_ y h=>X.ret () h.1;refine X.range (I:=λ_ _ y=>Wf n lo y) (t:=()) (λt y h=>h) hw λi _ _ k _ y hw=>?_;refine X.go D.get ?_;simp only[f];refine X.ite (λ_=>X.done () hw) λq=>?_;have F:∀(c:Prop) [Decidable c],(if c then y.pd.size-2-1 else y.pd.size-2)+1<y.pd.size:=by intro c _;split<;>omega
  exact X.bind (Vg hw (F _)) λ_ y h=>X.ite (λl=>absurd l (by simp)) λ_=>X.yield () h
end
def Pm.id(n:Nat):Pm n (Bf n).toArray:=by unfold Pm;simp
def xS(n:Nat):Pu:=⟨(Bf n).toArray,#[],7⟩
def IB(n:Nat)(ck:Nat->Nat->Bool):∃y:Pu,Pm n y.p/\D n ck (λ_=>sortRuns') (xS n) (λ_=>()) y:=by obtain⟨t,y,h,d⟩:=runs (n:=n) (ck:=ck) (x:=xS n) ⟨Pm.id n,rfl,Ep _⟩;exact⟨y,h,d⟩
noncomputable def srt(n:Nat)(ck:Nat->Nat->Bool):List Nat:=if 2<=n then(IB n ck).choose.p.toList else Bf n
def IN(n:Nat)(ck:Nat->Nat->Bool):(srt n ck).Perm (Bf n):=by
 unfold srt;split
 ·exact(IB n ck).choose_spec.1
 ·exact .refl _
section
variable{prog:Aw}{w:Uj}{A:Cb}{E:Ua->Ae->Prop}{s:Ae}
def B7(vs:List Ua):(Bf vs.length).map (λi=>vs.getD i Value.none)=vs:=by
 refine Pj λi=>?_;by_cases h:i<vs.length
 ·simp[h]
 ·simp[h]
def CF{a:Ub}{vs:List Ua}{z:Nat}{κ:Qx}{ck:Nat->Nat->Bool}{P:PySem.Fin->Ae->Prop}(g:s.heap.get? a=b3 (Hi "list" vs.toArray z))(hz:vs.length<=sizeLine)(hk:2<=vs.length->∀h':Uk,(∀b o,b≠a->s.heap.get? b=b3 o->h'.get? b=b3 o)->∀u:Qx->Ae->Prop,u κ {s with heap:=h'}->Ud (Uf prog w) A (keyKind' vs.toArray) u E {s with heap:=h'})(hc:∀h':Uk,(∀b o,b≠a->s.heap.get? b=b3 o->h'.get? b=b3 o)->∀i j,i<vs.length->j<vs.length->∀C:Bool->Ae->Prop,C (ck i j) {s with heap:=h'}->Ud (Uf prog w) A (keyLt' κ (vs.getD i Value.none) (vs.getD j Value.none)) C (λ_ _=>False) {s with heap:=h'})(h:P (.done (.ret .none)) {s with heap:=sortedHeap s.heap a vs ((srt vs.length ck).map λi=>vs.getD i Value.none).toArray}):Ud (Uf prog w) A (Fu.«list.sort» ⟨[.ref a],[]⟩) P E s:=by
 have lt:=Ap g;have hsz:vs.toArray.size=vs.length:=by simp
 obtain⟨I,f⟩:∃k,(s.heap.update a (Dg λ_=> #[])).get? a=b3 (Hi "list" #[] k):=⟨_,get?_update_seq g (λ_=> #[])⟩;have keep:∀b o,b≠a->s.heap.get? b=b3 o->(((s.heap.update a (Dg λ_=> #[])).push (Hi "tuple" vs.toArray 0)).push (Hi "list" #[] 0)).get? b=b3 o:=λb o H m=>
  Ad _ (Ad _ (by rw[Ny _ _ _ _ H];exact m))
 have c:(((s.heap.update a (Dg λ_=> #[])).push (Hi "tuple" vs.toArray 0)).push (Hi "list" #[] 0)).get? a=b3 (Hi "list" #[] I):=Ad _ (Ad _ f);have J:∀l:List Ua,l.length=vs.length->l.toArray.size<=sizeLine+1:=λl hl=>by rw[Aj];lia
 rw[list_sort_plain];refine(Ac (listItems_at g rfl ?_));refine(Ac (Op g rfl ?_ (by rw[Aj];lia) (Ep _)));refine(Ac (Rp f rfl ?_));refine(Ac (wpAny_newTuple ?_ (by show vs.length<=_;exact hz)));refine(Ac (wpAny_newList (Br ?_) (Ep _)))
 ·show (Ud (Uf prog w) A _ P E { s with heap := (((s.heap.update a (Dg λ_ => #[])).push (Hi "tuple" vs.toArray 0)).push (Hi "list" #[] 0)) })
  dsimp only;have K:((srt vs.length ck).map λi=>vs.getD i Value.none).length=vs.length:=by rw[Ci,(IN _ _).length_eq,Ie]
  by_cases h2:vs.toArray.size<2
  ·have G : ((srt vs.length ck).map λi => vs.getD i Value.none) = vs := by unfold srt;rw[if_neg (by lia)];exact B7 vs
   rw[G]at h;rw[if_pos h2,if_pos h2];refine(Ac (Ai ?_));rw[StateT.run_pure];refine(Ac (Ai ?_));dsimp only;have D:(vs.toArray.zip vs.toArray).map (·.2)=vs.toArray:=by apply Qq.mp;simp;exact List.map_snd_zip (Aq _)
   rw[D];refine(Ac (Rp c rfl (Ac (Op c rfl ?_ (hsz2:=by rw[Aj];lia)))));simp only[bne_self_eq_false,De,if_false];exact Ai h
  ·rw[if_neg h2,if_neg h2]
   refine(Ac (hk (by lia) _ keep _ ?_));have B:2<=vs.length:=by lia
   have spec:=(IB vs.length ck).choose_spec;have t:srt vs.length ck=(IB vs.length ck).choose.p.toList:=by unfold srt;rw[if_pos B]
   generalize (IB vs.length ck).choose=y at spec t;let e:En:=⟨prog,w,A,{s with heap:=(((s.heap.update a (Dg λ_=> #[])).push (Hi "tuple" vs.toArray 0)).push (Hi "list" #[] 0))},κ,Pp vs⟩
   have r:e.Ok vs.length ck:=λi j hi F C q=>by show Ud (Uf prog w) A (keyLt' κ (Jf (Pp vs) i).1 (Jf (Pp vs) j).1) C _ _;rw[Rq,Rq];exact hc _ keep i j hi F C q
   have n:Jh κ (vs.toArray.zip vs.toArray) #[] 7 b4=CG e (xS vs.length):=by have q:=kas_range (Pp vs);rw[pairsOf_size]at q;show Jh κ (Pp vs) #[] 7 b4=Jh κ ((List.toArray (Bf vs.length)).map (Jf (Pp vs))) #[] 7 b4;rw[q]
   rw[n];have v:(e.of y.p).map (·.2)=((srt vs.length ck).map λi=>vs.getD i Value.none).toArray:=by apply Qq.mp;rw[t,Array.map_map,Array.toList_map];exact Jv λi _=>by show(Jf (Pp vs) i).2=_;rw[Rq]
   have run:=spec.2 e r E (λ_ d s'=>d=CG e y/\s'=e.s) ⟨rfl,rfl⟩;refine(Ac (Cd run ?_ λ_ _ x=>x));rintro ⟨⟨⟩,d⟩ s' ⟨rfl,rfl⟩;show(Ud (Uf prog w) A _ P E {s with heap:=(((s.heap.update a (Dg λ_=> #[])).push (Hi "tuple" vs.toArray 0)).push (Hi "list" #[] 0))});dsimp only;rw[show(arrOf (CG e y))=e.of y.p from rfl,v];refine(Ac (Rp c rfl (Ac (Op c rfl ?_ (hsz2:=by rw[Aj];lia)))));rw[show failedOf (CG e y)=b4 from rfl];simp only[bne_self_eq_false,De,if_false];exact Ai h
end
section
variable{prog:Aw}{w:Uj}{A:Cb}{E:Ua->Ae->Prop}{s:Ae}
def IK{l:Ub}{vs:List Ua}{κ:Qx}{ck:Nat->Nat->Bool}{Q:Ua->Ae->Prop}(hl:s.heap.IsList l vs.toArray)(hz:vs.length<=sizeLine)(hk:2<=vs.length->∀(A:Cb) (E:Ua->Ae->Prop) (h':Uk),(∀b o,s.heap.get? b=b3 o->h'.get? b=b3 o)->∀e:Qx->Ae->Prop,e κ {s with heap:=h'}->Ud (Uf prog w) A (keyKind' vs.toArray) e E {s with heap:=h'})(hc:∀(A:Cb) (h':Uk),(∀b o,s.heap.get? b=b3 o->h'.get? b=b3 o)->∀i j,i<vs.length->j<vs.length->∀C:Bool->Ae->Prop,C (ck i j) {s with heap:=h'}->Ud (Uf prog w) A (keyLt' κ (vs.getD i Value.none) (vs.getD j Value.none)) C (λ_ _=>False) {s with heap:=h'})(h:Q (.ref (s.heap.objs.size+1)) {s with heap:=sortedAll s.heap vs ((srt vs.length ck).map λi=>vs.getD i Value.none).toArray}):Ud (Uf prog w) A (call (.builtin "sorted") [.ref l]) Q E s:=by
 refine(Calls.call_function_entry kind_sorted plain_sorted entry_sorted (args_sorted1 _) ?_);unfold Fu.«sorted»;refine(Ac (m:=checkCount "sorted" 1 1 _) (Ai (Ac (collect_list hl (Ac (wpAny_newList ?_ (by exact hz))) hz))));have c:((s.heap.push (Hi "list" #[] 0)).update s.heap.objs.size (Dg (· ++vs.toArray))).objs.size=s.heap.objs.size+1:=by rw[Heap.size_update,size_push']
 have d:(((s.heap.push (Hi "list" #[] 0)).update s.heap.objs.size (Dg (· ++vs.toArray))).push (Hi "list" vs.toArray 0)).get? (s.heap.objs.size+1)=b3 (Hi "list" vs.toArray 0):=by rw[<-c];exact As _ rfl
 have keep:∀b o,s.heap.get? b=b3 o->(((s.heap.push (Hi "list" #[] 0)).update s.heap.objs.size (Dg (· ++vs.toArray))).push (Hi "list" vs.toArray 0)).get? b=b3 o/\b≠s.heap.objs.size+1:=λb o q=>by have a:b<s.heap.objs.size:=Ap q;refine⟨?_,Bb (Pq a)⟩;rw[Ig _ _ _ (by rw[c];exact(Bb (Pq a))),Ny _ _ _ _ (Bb a),Ig _ _ _ (Bb a)];exact q
 show(Ud _ _ _ _ _ {s with heap:=((s.heap.push (Hi "list" #[] 0)).update s.heap.objs.size (Dg (· ++vs.toArray))).push (Hi "list" vs.toArray 0)});rw[c];refine(Ac (Br (Es slot_list_sort ⟨_,d,rfl⟩ entry_list_sort (CF (κ:=κ) (ck:=ck) d hz (λf h' k'=>hk f _ _ h' λb o q=>k' b o (keep b o q).2 (keep b o q).1) (λh' k'=>hc _ h' λb o q=>k' b o (keep b o q).2 (keep b o q).1) ⟨_,rfl,?_⟩) (args_list_sort _))));exact(Ai ⟨_,rfl,h⟩)
def G7(p q:Int×Int):Bool:=if p.1=q.1 then decide (p.2<q.2)else decide (p.1<q.1)
def kO{x y:Ub}{a b c d:Int}{t u t' j:Uv}{C:Bool->Ae->Prop}(i:IsTup s.heap x #[.int a t,.int b u])(g:IsTup s.heap y #[.int c t',.int d j])(h:C (G7 (a,b) (c,d)) s):Ud (Uf prog w) A (keyLt' (tuples' ba) (.ref x) (.ref y)) C E s:=by
 obtain⟨o,i,_,n,dx⟩:=i;obtain⟨l,g,_,m,k⟩:=g;refine kat_lt i dx g k ?_;refine kat_cons (Ly (kat_go (λe=>kat_yes ?_) λe=>kat_no ?_))
 ·have e : a = c := by simpa using e
  refine kat_cons (Ly (kat_go (λf=>kat_yes (kat_nil ?_)) λf=>kat_no ?_))
  ·have f : b = d := by simpa using f
   have:G7 (a,b) (c,d)=bb:=by simp[G7,e,f]
   rw[this]at h;exact h
  ·refine kat_one _ _ (lt_int ?_)
   have:G7 (a,b) (c,d)=decide (b<d):=by simp[G7,e]
   rw[this]at h;exact h
 ·have e : ¬ a = c := by simpa using e
  have:G7 (a,b) (c,d)=decide (a<c):=by simp[G7,e]
  rw[this]at h;exact oneLt_int h
def PrI(h:Uk):List Ua->List (Int×Int)->Prop
 |[],[]=>True
 |v::vs,p::ps=>(∃a t u,v=.ref a/\IsTup h a #[.int p.1 t,.int p.2 u])/\PrI h vs ps
 |_,_=>False
theorem PrI.keep{h h':Uk}(k:∀b o,h.get? b=b3 o->h'.get? b=b3 o):∀{vs:List Ua}{ps:List (Int×Int)},PrI h vs ps->PrI h' vs ps
 |[],[],_=>trivial
 |_::_,_::_,⟨⟨a,t,u,e,q⟩,r⟩=>⟨⟨a,t,u,e,q.keeps k⟩,PrI.keep k r⟩
 |[],_::_,r=>r.elim
 |_::_,[],r=>r.elim
theorem PrI.at{h:Uk}:∀{vs:List Ua}{ps:List (Int×Int)}{i:Nat},PrI h vs ps->i<vs.length->∃a t u,vs.getD i Value.none=.ref a/\IsTup h a #[.int (ps.getD i (0,0)).1 t,.int (ps.getD i (0,0)).2 u]
 |[],[],i,_,hi=>by simp at hi
 |_::_,_::_,0,r,_=>r.1
 |v::vs,p::ps,i+1,r,hi=>by
  have:=PrI.at (i:=i) r.2 (by simpa using hi)
  simpa using this
 |[],_::_,i,r,_=>r.elim
 |_::_,[],i,r,_=>r.elim
theorem PrI.tups{h:Uk}:∀{vs:List Ua}{ps:List (Int×Int)},PrI h vs ps->∃fs,KatTups h vs fs/\fs.length=vs.length/\∀v∈fs,∃i t,v=.int i t
 |[],[],_=>⟨[],trivial,rfl,λ_ h=>by cases h⟩
 |_::_,_::_,⟨⟨a,t,u,e,o,d,c,n,hd⟩,r⟩=>by
  obtain⟨fs,h1,h2,f⟩:=PrI.tups r;subst e;refine⟨.int _ t::fs,KatTups.cons d c hd rfl h1,by simp[h2],λv b=>?_⟩;rcases Ak.mp b with rfl|b
  ·exact⟨_,_,rfl⟩
  ·exact f v b
 |[],_::_,r=>r.elim
 |_::_,[],r=>r.elim
def ckP(ps:List (Int×Int))(i j:Nat):Bool:=G7 (ps.getD i (0,0)) (ps.getD j (0,0))
def KL{l:Ub}{vs:List Ua}{ps:List (Int×Int)}{Q:Ua->Ae->Prop}(hl:s.heap.IsList l vs.toArray)(hz:vs.length<=sizeLine)(c:PrI s.heap vs ps)(h:Q (.ref (s.heap.objs.size+1)) {s with heap:=sortedAll s.heap vs ((srt vs.length (ckP ps)).map λi=>vs.getD i Value.none).toArray}):Ud (Uf prog w) A (call (.builtin "sorted") [.ref l]) Q E s:=by
 refine IK (κ:=tuples' ba) hl hz (λp A E h' k' r q=>?_) (λA h' k' i j hi g C q=>?_) h
 ·obtain⟨fs,h1,h2,k⟩:=(c.keep k').tups
  refine kat_kind (s:={s with heap:=h'}) (T:=.type "int") h1 (by lia) (λv f=>?_) (by decide) q;obtain⟨i,t,rfl⟩:=k v f;exact Looks.now
 ·obtain⟨a,t,u,n,e⟩:=(c.keep k').at hi
  obtain⟨b,t',o,m,d⟩:=(c.keep k').at g;rw[n,m];exact kO (s:={s with heap:=h'}) e d q
end
end TS
namespace L2
open PySem PySem.Spec PyProof.Rows
variable{X:Cx}{K:Ah}
noncomputable def prD:c6->Option (Int×Int)
 |.tup [.int a,.int b]=>b3 (a,b)
 |_=>b4
def NZ:List c6->Option (List (Int×Int))
 |[]=>b3 []
 |d::ds=>(prD d).bind λp=>(NZ ds).map λps=>p::ps
def PrV(K:Ah)(H:Hp):List V->List (Int×Int)->Prop
 |[],[]=>True
 |v::vs,p::ps=>(∃a,v=.ref a/\WS K H a [.int p.1,.int p.2])/\PrV K H vs ps
 |_,_=>False
def pZ{d:c6}{p:Int×Int}(h:prD d=b3 p):d=.tup [.int p.1,.int p.2]:=by
 unfold prD at h;split at h
 ·cases h;rfl
 ·cases h
theorem DZ{H:Hp}{N:Ub->Prop}:∀{xs:List V}{ds:List c6}{ps:List (Int×Int)},cG K N H xs ds->NZ ds=b3 ps->PrV K H xs ps
 |_,_,_,.nil,h=>by cases h;trivial
 | _,_,ps,@cG.cons _ _ _ v vs d ds h t,e => by
  have e:(prD d).bind (λp=>(NZ ds).map λps=>p::ps)=b3 ps:=e;cases h1:prD d with
  |none=>rw[h1]at e;cases e
  |some p=>
   rw[h1]at e;have e:(NZ ds).map (λps=>p::ps)=b3 ps:=e;cases h2:NZ ds with
   |none=>rw[h2]at e;cases e
   |some c=>
    rw[h2]at e;cases e;have:=pZ h1
    subst this;refine⟨?_,DZ t h2⟩;cases h.onT with
    |tup sq r=>
     cases r with
     |cons b r=>
      cases b.onI;cases r with
      |cons a r=>
       cases a.onI;cases r;exact⟨_,rfl,sq⟩
theorem PrV.prI{H:Hp}{aa:List (Ub×Ul)}{σ:St}{s:Ae}(I:cM X aa σ H s):∀{xs:List V}{c:List Ua}{ps:List (Int×Int)},PrV X.K H xs ps->bX xs c->TS.PrI s.heap c ps
 |[],_,[],_,.nil=>trivial
 | _ :: _,_,_ :: _,⟨⟨a,e,q⟩,r⟩,.cons h t => by
  subst e;cases h;obtain⟨its,b,j,_⟩:=I.tuple q;cases b with
  |cons i b=>
   obtain⟨f,rfl⟩:=i;cases b with
   |cons g b=>
    obtain⟨d,rfl⟩:=g;cases b;exact⟨⟨a,f,d,rfl,j⟩,PrV.prI I r t⟩
 |[],_,_::_,h,_=>h.elim
 |_::_,_,[],h,_=>h.elim
theorem PrV.len{H:Hp}:∀{xs:List V}{ps:List (Int×Int)},PrV K H xs ps->xs.length=ps.length
 |[],[],_=>rfl
 |_::_,_::_,r=>by simp[PrV.len r.2]
 |[],_::_,r=>r.elim
 |_::_,[],r=>r.elim
theorem MG{xs:List V}{a:List Ua}(r:bX xs a):∀l:List Nat,(∀i∈l,i<xs.length)->bX (l.map λi=>xs.getD i .non) (l.map λi=>a.getD i Value.none)
 |[],_=>.nil
 |i::l,h=>by
  have hi:=h i Au;obtain⟨u,h1,h2⟩:=bX.get (i:=i) (x:=xs[i]) r (by simp[hi]);refine .cons ?_ (MG r l λj b=>h j (Am _ b));have d:xs.getD i .non=xs[i]:=by simp[hi]
  have c:a.getD i Value.none=u:=by simp[h1]
  show b7 (xs.getD i .non) (a.getD i Value.none);rw[d,c];exact h2
noncomputable def IM(ps:List (Int×Int)):List Nat:=TS.srt ps.length (TS.ckP ps)
def T7(ps:List (Int×Int)):(IM ps).Perm (Bf ps.length):=TS.IN _ _
def Ym(K:Ah):RC:=λxs H Q=>∃(p:Ub) (ys:List V) (ps:List (Int×Int)),xs=[.ref p]/\X9 K H p ys/\PrV K H ys ps/\∀l:Ub,H l=b4->Q (.ref l) (upd H l (.lst ((IM ps).map λi=>ys.getD i .non)))
def mQ(h:X.K=K:=by rfl):aD X (.builtin "sorted") (Ym K):=by
 subst h;intro aa s σ H xs n Q I r h;obtain⟨p,ys,ps,rfl,j,d,q⟩:=h;obtain⟨u,rfl,f⟩:=SZ r;cases f;obtain⟨its,c,g,hz⟩:=I.list j;have t:=c.length;have k:=d.len;have l:H (s.heap.objs.size+1)=b4:=I.hok.fresh (Ih _);refine TS.KL g.isList (by lia) (d.prI I c) ?_;rw[show its.length=ps.length by lia];obtain⟨e,m⟩:=sortedAll_at s.heap its ((TS.srt ps.length (TS.ckP ps)).map λi=>its.getD i Value.none).toArray;refine⟨.ref (s.heap.objs.size+1),_,I.laid (a:=s.heap.objs.size+1) (o:=.lst ((IM ps).map λi=>ys.getD i .non)) (t':=s.toks) (λb o=>sortedAll_old) (Ih _) ?_,rfl,q _ l⟩;refine⟨by rw[Ci,(T7 ps).length_eq,Ie];lia,(IM ps).map λi=>its.getD i Value.none,e,MG c _ λi hi=>?_,?_⟩
 ·have:=Db.mp ((T7 ps).mem_iff.mp hi)
  lia
 ·rw[m]
  rfl
noncomputable def FP:c6->Option c6
 |.lst ds=>(NZ ds).bind λps=>b3 (.lst ((IM ps).map λi=>ds.getD i .non))
 |_=>b4
theorem LZ{H:Hp}{N:Ub->Prop}{xs:List V}{ds:List c6}(r:cG K N H xs ds):∀l:List Nat,cG K N H (l.map λi=>xs.getD i .non) (l.map λi=>ds.getD i .non)
 |[]=>.nil
 | i :: l => by
  have one:∀{xs:List V}{ds:List c6}(i:Nat),cG K N H xs ds->bV K N H N (xs.getD i .non) (ds.getD i .non):=by
   intro xs ds i r;induction r using cG.rec (motive_1:=λ_ _ _ _=>True) generalizing i with
   |nil=>simpa using bV.non
   |cons h t _ a=>cases i with
    |zero=>simpa using h
    |succ i=>simpa using a i
   |_=>trivial
  exact .cons (one i r) (LZ r l)
def Zo:CalN K (Ym K) FP:=by
 intro H N M x d c Q e h k;cases d with
 |lst ds=>
  have h:((NZ ds).bind λps=>b3 (c6.lst ((IM ps).map λi=>ds.getD i .non)))=b3 c:=h;cases h1:NZ ds with
  |none=>rw[h1]at h;cases h
  |some ps=>
   rw[h1]at h;cases h;obtain⟨a,xs,rfl,sq,r⟩:=e.lstE;exact⟨a,xs,ps,rfl,sq,DZ r h1,λl b=>k l _ _ b (LZ r _) rfl⟩
 |_=>cases h
def BJ:typeLookup (.type "list") ("keys":Ue)=pure b4:=am_miss_of_fast (by decide+kernel)
section
variable{prog:Aw}{w:Uj}{A:Cb}{E:Ua->Ae->Prop}{s:Ae}
def BG{a:Ub}{o:Ul}{xs:Array Ua}{k:Nat}{Q:Option Ua->Ae->Prop}(l:s.heap.get? a=b3 o)(hc:o.cls=.type "list")(n:o.data=.seq xs k)(hd:o.dict=b4)(r:A.handled=b4)(h:∀h' tk,(∀b j,s.heap.get? b=b3 j->h'.get? b=b3 j)->Q b4 {s with heap:=h',toks:=tk}):Ud (Uf prog w) A (Tc (.ref a) "keys") Q E s:=by
 obtain⟨c,dct,dat,p⟩:=o;simp only at hc n hd;subst hc n hd;obtain⟨q,g,d,tk,os⟩:=s;have m:∀f,(⟨q,g,d,f,os⟩:Ae).TypeIs (.ref a) "list":=λ_=>⟨_,l,rfl⟩;have f1:=sub_AttributeError;have f3:=F.slot_list_getattribute.lookup;have y:=F.slot_list_getattribute.bind (.ref a);have x:=am_list_getattr_none;unfold Tc getAttrBy? getAttrBy
 (repeat (any_goals (first|assumption|exact m _|((with_reducible show Ud _ _ (call (Value.builtin "list.__getattribute__") _ _) _ _ _);refine Fj F.slot_list_getattribute (m _) am_entry_list_getattribute (F.args_list_getattribute_2 _ _) (meets_getattribute_miss_list a xs k p "keys" _ BJ (by decide) (by size_fits)) ⟨l,r,λh' f e i=>?_⟩)|wp_step)))
 obtain⟨u,t,v⟩:=i.there;show(Ud _ _ (Oq _ _ _ _ _ _ _) _ _ _);unfold Oq
 (repeat (any_goals (first|assumption|wp_step)))
 exact h _ _ i.keeps
end
def LA:entryFor table "dict.update.loop"=b3 Fu.«dict.update.loop» :=entryFor_of_tree (by kernel_rfl)
def T5:plainId "dict.update.loop"=ba:=by decide+kernel
def PrK(prog:Aw)(w:Uj)(h:Uk):List Ua->List (aY×Ua)->Prop
 |[],[]=>True
 |v::vs,p::ps=>(∃a key,v=.ref a/\IsTup h a #[key,p.2]/\(a9 prog w).is p.1 key=ba)/\PrK prog w h vs ps
 |_,_=>False
section
variable{prog:Aw}{w:Uj}{A:Cb}{E:Ua->Ae->Prop}{s:Ae}
theorem PrK.keep{h h':Uk}{C:Ub->Prop}(k:∀b o,C b->h.get? b=b3 o->h'.get? b=b3 o):∀{vs:List Ua}{ps:List (aY×Ua)},(∀a,Bu a∈vs->C a)->PrK prog w h vs ps->PrK prog w h' vs ps
 |[],[],_,_=>trivial
 |_::_,_::_,c,⟨⟨a,key,e,⟨o,f,r⟩,q⟩,d⟩=>⟨⟨a,key,e,⟨o,k a o (c a (by rw[e];exact Au)) f,r⟩,q⟩,PrK.keep k (λa g=>c a (Am _ g)) d⟩
 |[],_::_,_,r=>r.elim
 |_::_,[],_,r=>r.elim
def FS{a:Ub}{k v:Ua}{Q:List Ua->Ae->Prop}(h:IsTup s.heap a #[k,v])(q:Q [k,v] s):Ud (Uf prog w) A (Mh (.ref a)) Q E s:=by obtain⟨o,b,hc,n,hd⟩:=h;unfold Mh;refine(Ac (Kq (T:= "tuple") ⟨o,b,hc⟩ ?_));rw[if_pos (by decide)];exact(Ac (Fh b hd (Ai q)))
theorem Ys{R:Result->Ae->Prop}{I D:Ub}{fp wr:List Ub}{items:Array Ua}{St:Nat->Uk->Prop}(W:Walks prog w A.in1 I fp wr items.size (λi v=>items[i]?=b3 v) St)(c:D∉fp):∀(vs:List Ua) (ps:List (aY×Ua)) (j:Nat) (i:Int) (s:Ae) (kvs:List (aY×Ua)),items.toList.drop j=vs->j+vs.length=items.size->St j s.heap->s.heap.DictOf (a9 prog w) D kvs->kvs.length+vs.length<=sizeLine->PrK prog w s.heap vs ps->(∀a,Bu a∈vs->a∉wr/\a≠D)->(∀g tk,g.DictOf (a9 prog w) D (ps.foldl (λl p=>Tk l p.1 p.2) kvs)->(∀b o,b∉wr->b≠D->s.heap.get? b=b3 o->g.get? b=b3 o)->R (.ok (.ret .none)) {s with heap:=g,toks:=tk})->Jr (Uf prog w) A (.builtin "dict.update.loop" ⟨[.ref D,.ref I,rawInt i,.none],[]⟩) R s
 | [],ps,j,i,s,kvs,e,E,f,hd,hz,m,u,H => by
  have d:D∉wr:=λz=>c (W.sub _ z);cases ps with
  |cons p ps=>exact m.elim
  |nil=>
   refine Mu LA (by rw[Nc T5 _];show(Ud _ A.in1 (pyNext (.ref I)>>=_) _ _ s);refine(Ac (W.done s _ _ (by rw[show items.size=j by simpa using E.symm];exact f) λg tk kept=>?_));show(Ud _ A.in1 (Builtin.Dict.addKeywords D []>>=_) _ _ _);refine(Ac (Ai (Ai ?_)));obtain⟨o,es,J,B,r⟩:=hd;exact H g tk ⟨o,es,J,kept _ _ d B,r⟩ λb o k _ e=>kept b o k e)
 | v :: vs,ps,j,i,s,kvs,e,E,f,hd,hz,m,u,H => by
  have d:D∉wr:=λz=>c (W.sub _ z);cases ps with
  |nil=>exact m.elim
  |cons p ps=>
   obtain⟨⟨a,key,rfl,Q,hk⟩,m⟩:=m;obtain⟨O,X⟩:=u a Au;simp only[Bw]at E hz;have U:items[j]?=b3 (.ref a):=by
    have:=congrArg (λl=>l[0]?) e
    simpa using this
   have V:items.toList.drop (j+1)=vs:=by
    have:=congrArg List.tail e
    simpa using this
   refine Mu LA (by
    rw[Nc T5 _];show(Ud _ A.in1 (pyNext (.ref I)>>=_) _ _ s);refine(Ac (W.item j s _ _ (by lia) f λv g tk pv M kept=>?_));obtain rfl:v=.ref a:=by rw[U]at pv;cases pv;rfl
    obtain⟨o,B,r⟩:=Q;obtain⟨N,es,J,y,L⟩:=hd;refine(Ac (Br (Ac (wpAny_tryCatch (FS (s:={s with heap:=g,toks:=tk}) ⟨o,kept _ _ O B,r⟩ ?_)))));refine(Br (wpAny_dictSet_pairs (s:={s with heap:=g,toks:=tk}) (kvs:=kvs) hk ⟨N,es,J,kept _ _ d y,L⟩ (λT G n=>?_) (by lia)));have K:∀b o,b∉wr->b≠D->s.heap.get? b=b3 o->T.get? b=b3 o:=λb o k q e=>(n.2 b q).trans (kept b o k e);refine(Ai ⟨plainId_quiet T5 _,Ys W c vs ps (j+1) (i+1) _ (Tk kvs p.1 p.2) V (by lia) (W.frame _ _ _ M λb t o e=>(n.2 b (λz=>c (by rw[<-z];exact t))).trans e) G ?_ (PrK.keep (C:=λb=>b∉wr/\b≠D) (λb o t e=>K b o t.1 t.2 e) (λa h=>u a (Am _ h)) m) (λa h=>u a (Am _ h)) ?_⟩)
    ·have:=stored_length_le kvs p.1 p.2
     lia
    ·exact λS x F P=>H S x F λb o k q e=>P b o k q (K b o k q e))
end
section
variable{prog:Aw}{w:Uj}{A:Cb}{E:Ua->Ae->Prop}{s:Ae}
def FA{l:Ub}{vs:List Ua}{ps:List (aY×Ua)}{Q:Ua->Ae->Prop}(K:A.handled=b4)(N:PlainL s.heap l vs.toArray)(hz:vs.length<=sizeLine)(u:PrK prog w s.heap vs ps)(h:∀g tk,g.DictOf (a9 prog w) s.heap.objs.size (ps.foldl (λl p=>Tk l p.1 p.2) [])->(∀b o,s.heap.get? b=b3 o->g.get? b=b3 o)->Q (.ref s.heap.objs.size) {s with heap:=g,toks:=tk}):Ud (Uf prog w) A (call (.type "dict") [.ref l]) Q E s:=by
 refine(callType_codes (Q₁:=λobj d=>obj=.ref s.heap.objs.size/\d={s with heap:=s.heap.push {cls:=.type "dict",data:=.dict #[]}}) F.kt_called_dict (F.kt_typeCall_dict_1 _) F.entry_dict_init (kt_code_dict_new _ ⟨rfl,rfl⟩) ?_);rintro obj d ⟨rfl,rfl⟩;have H:(s.heap.push {cls:=.type "dict",data:=.dict #[]}).DictOf (a9 prog w) s.heap.objs.size []:=Rh s.heap;obtain⟨o,n,J,hc,hd,L⟩:=N;have r:(s.heap.push {cls:=.type "dict",data:=.dict #[]}).get? l=b3 o:=Ad _ J;refine⟨H.typeIs,F.args_dict_init_2 _ _,?_⟩;unfold Fu.«dict.__init__»;refine(Ac ?_);unfold Builtin.Dict.selfAndRest;refine(Ac (wpAny_notOrdered_dict H.typeIs ?_));show(Ud _ _ (pure (s.heap.objs.size,[Bu l])) _ _ _);refine(Ai ?_);show(Ud _ _ (Ls "dict.__init__" s.heap.objs.size (.ref l) [] .none) _ _ _);unfold Ls;refine(Ac (Kq (T:= "list") ⟨o,r,hc⟩ ?_));rw[if_pos (by decide)];refine(Ac (BG r hc L hd (by simp[K]) λf y k1=>?_));simp only[Option.isNone_none,if_true];refine(Ac (Hz ?_));have P:f.get? l=b3 o:=k1 _ _ r;have od:f.get? s.heap.objs.size=b3 {cls:=.type "dict",data:=.dict #[]}:=k1 _ _ (As _ rfl);have j:s.heap.objs.size<f.objs.size:=Ap od;have k:l<s.heap.objs.size:=Ap J;have x:f.IsList l vs.toArray:=⟨o,P,hc,n,L⟩;have I:∀b c,s.heap.get? b=b3 c->f.get? b=b3 c:=λb c q=>k1 b c (Ad _ q);have i:∀b c,s.heap.get? b=b3 c->b∉[f.objs.size]/\b≠s.heap.objs.size:=λb c q=>by
  have:=Ap q
  exact⟨λz=>by rw[At.mp z]at this;exact absurd (Qe this j) (Ck _),λz=>by rw[z]at this;exact Ck _ this⟩
 have D:∀{vs:List Ua}{ps:List (aY×Ua)},PrK prog w s.heap vs ps->∀a,Bu a∈vs->∃c,s.heap.get? a=b3 c:=by
  intro vs;induction vs with
  |nil=>intro ps _ a t;cases t
  |cons v vs R=>
   intro ps u a t;cases ps with
   |nil=>exact u.elim
   |cons p ps=>
    rcases Ak.mp t with e|t
    ·obtain⟨⟨b,key,U,⟨c,m,_⟩,_⟩,_⟩:=u
     rw[U]at e;cases e;exact⟨c,m⟩
    ·exact R u.2 a t
 refine(Ac (Gw (s:={s with heap:=f,toks:=y}) x ?_));have W:=Walks.list (prog:=prog) (w:=w) (A:=A.in1.in1) (by simp[K]) f.objs.size l (Bb (Qe k j)) vs.toArray;refine(Ai ⟨plainId_quiet T5 _,Ys (A:=A.in1) W (λz=>?_) vs ps 0 0 _ [] (by simp) (by simp) ⟨⟨_,As _ rfl,rfl,rfl⟩,x.push _⟩ ?_ (by simpa using hz) (PrK.keep (C:=λ_=>True) (λb c _ q=>Ad _ (I b c q)) (λ_ _=>trivial) u) (λa t=>?_) λg tk G kept=>⟨rfl,h g tk G λb c q=>?_⟩⟩)
 ·rcases Ak.mp z with z|z
  ·exact absurd j (by rw[<-z];exact Ck _)
  ·rw[<- At.mp z]at k
   exact Ck _ k
 ·obtain⟨O,es,S,B,M⟩:=H
  exact⟨O,es,S,Ad _ (k1 _ _ B),M⟩
 ·obtain⟨c,m⟩:=D u a t
  exact i a c m
 ·exact kept b c (i b c q).1 (i b c q).2 (Ad _ (I b c q))
end
variable{X:Cx}{K:Ah}{H:Hp}{σ:St}{s:Ae}{aa:List (Ub×Ul)}{ml:List Nat}{pa ta ia:Bool}{fa:VF}{a:Uh}{p' pos:Pos}
def kprD:c6->Option (aY×c6)
 |.tup [k,v]=>(V9 k).map λa=>(a,v)
 |_=>b4
def Q5:List c6->Option (List (aY×c6))
 |[]=>b3 []
 |d::ds=>(kprD d).bind λp=>(Q5 ds).map λps=>p::ps
def JG(K:Ah)(H:Hp):List V->List (aY×V)->Prop
 |[],[]=>True
 |v::vs,p::ps=>(∃a,v=.ref a/\WS K H a [kV p.1,p.2])/\JG K H vs ps
 |_,_=>False
def mG{d:c6}{p:aY×c6}(h:kprD d=b3 p):∃k,d=.tup [k,p.2]/\V9 k=b3 p.1:=by
 unfold kprD at h;split at h
 ·rename_i k v
  cases e:V9 k with
  |none=>rw[e]at h;cases h
  |some a=>rw[e]at h;cases h;exact⟨k,rfl,e⟩
 ·cases h
theorem G5{N:Ub->Prop}:∀{xs:List V}{ds:List c6}{kds:List (aY×c6)},cG K N H xs ds->Q5 ds=b3 kds->∃kvs:List (aY×V),JG K H xs kvs/\kvs.map Dh=kds.map Dh/\cG K N H (kvs.map Er) (kds.map Er)
 |_,_,_,.nil,h=>by cases h;exact⟨[],trivial,rfl,.nil⟩
 | _,_,kds,@cG.cons _ _ _ v vs d ds h t,e => by
  have e:(kprD d).bind (λp=>(Q5 ds).map λps=>p::ps)=b3 kds:=e;obtain⟨p,h1,e⟩:=Aa.mp e;have e:(Q5 ds).map (λps=>p::ps)=b3 kds:=e;obtain⟨j,h2,e⟩:=Ao.mp e;cases e;obtain⟨kvs,g,f,c⟩:=G5 t h2;obtain⟨k,rfl,hk⟩:=mG h1;cases h.onT with
  |tup sq r=>
   cases r with
   |cons b r=>
    cases r with
    |cons a r=>
     cases r;have i:=b.key hk;subst i;exact⟨(p.1,_)::kvs,⟨⟨_,rfl,sq⟩,g⟩,by simp[f],.cons a c⟩
theorem JG.prK(I:cM X aa σ H s):∀{xs:List V}{c:List Ua}{kvs:List (aY×V)},JG X.K H xs kvs->bX xs c->∃ps:List (aY×Ua),KV kvs ps/\PrK X.prog X.w s.heap c ps
 |[],_,[],_,.nil=>⟨[],.nil,trivial⟩
 | _ :: _,_,p :: _,⟨⟨b,e,q⟩,r⟩,.cons h t => by
  subst e;cases h;obtain⟨ps,i,g⟩:=JG.prK I r t;obtain⟨its,a,j,_⟩:=I.tuple q;cases a with
  |cons f a=>
   cases a with
   |cons d a=>
    cases a;exact⟨(p.1,_)::ps,.cons ⟨rfl,d⟩ i,⟨b,_,rfl,j,LL f⟩,g⟩
 |[],_,_::_,h,_=>h.elim
 |_::_,_,[],h,_=>h.elim
theorem JG.len:∀{xs:List V}{ps:List (aY×V)},JG K H xs ps->xs.length=ps.length
 |[],[],_=>rfl
 |_::_,_::_,r=>by simp[JG.len r.2]
 |[],_::_,r=>r.elim
 |_::_,[],r=>r.elim
def Wc(K:Ah):RC:=λxs H Q=>∃(p:Ub) (ys:List V) (kvs:List (aY×V)),xs=[.ref p]/\X9 K H p ys/\JG K H ys kvs/\(kvs.map Dh).Nodup/\∀l:Ub,H l=b4->Q (.ref l) (upd H l (.dK kvs))
def lI(hc:X.calm=ba)(h:X.K=K:=by rfl):aD X (.type "dict") (Wc K):=by subst h;intro aa s σ H xs t Q I r h;obtain⟨p,ys,kvs,rfl,l,d,k,q⟩:=h;obtain⟨u,rfl,e⟩:=SZ r;cases e;obtain⟨its,c,j,hz⟩:=I.list l;have v:=c.length;have m:=d.len;obtain⟨ps,i,f⟩:=d.prK I c;refine FA (I.ok.hd hc) j (by lia) f λg tk hd kept=>?_;have n:NQ [] kvs=kvs:=LP (acc:=[]) (by simpa using k);have b:=KV.merge i (kvs:=[]) (vs:=[]) .nil;rw[n]at b;exact⟨.ref s.heap.objs.size,_,I.laid (a:=s.heap.objs.size) (o:=.dK kvs) (t':=tk) kept (Aq _) (Vx (by lia) (beq_eq_false_iff_ne.mpr (Di (Bb I.big))) b hd),rfl,q _ (I.hok.fresh (Aq _))⟩
def DP:c6->Option c6
 |.lst ds=>(Q5 ds).bind λkds=>if(kds.map Dh).Nodup then b3 (.dct (kds.map Dh) (kds.map Er))else b4
 |_=>b4
def CalD(K:Ah)(r:RC)(o:c6->Option c6):Prop:=∀(H:Hp) (N M:Ub->Prop) (x:V) (d c:c6) (Q:VK),bV K N H M x d->o d=b3 c->
 (∀p (kvs:List (aY×V)) ds,H p=b4->cG K N H (kvs.map Er) ds->c=.dct (kvs.map Dh) ds->Q (.ref p) (upd H p (.dK kvs)))->r [x] H Q
def kH:CalD K (Wc K) DP:=by
 intro H N M x d c Q j h k;cases d with
 |lst ds=>
  have h:((Q5 ds).bind λkds=>if(kds.map Dh).Nodup then b3 (c6.dct (kds.map Dh) (kds.map Er))else b4)=b3 c:=h;obtain⟨kds,h1,h⟩:=Aa.mp h;have h:(if(kds.map Dh).Nodup then b3 (c6.dct (kds.map Dh) (kds.map Er))else b4)=b3 c:=h;split at h
  ·rename_i i
   cases h;obtain⟨a,xs,rfl,sq,r⟩:=j.lstE;obtain⟨kvs,g,e,f⟩:=G5 r h1;exact⟨a,xs,kvs,rfl,sq,g,by rw[e];exact i,λl b=>k l kvs _ b f (by rw[e])⟩
  ·cases h
 |_=>cases h
def mkDK{B:Bs}{O:Nat->Option Ub}{H1:Hp}{δ':Ev}{p:Ub}{pu:Bool}{kvs:List (aY×V)}{ds:List c6}(S:a7 K ml B O H1 σ δ')(f:Fr (OA O) H H1)(s:pu=ba->bH H H1)(a:H1 p=b4)(r:cG K (Nn B O) H1 (kvs.map Er) ds):ResN K ml B O H σ pu (upd H1 p (.dK kvs)) δ' p (.dct (kvs.map Dh) ds):=
 ⟨S.laid a,f.trans (cW a).fr,λz=>(s z).trans (cW a),.dct cH ((r.away a _ _ XD).same (cW a)),S.new a,S.fresh a⟩
def CS(r:X.K=K)(hc:X.calm=ba)(n:Gl X "dict")(m:X.mg "dict"=b4)(g:Bm "dict"=b3 (.type "dict"))(o:PE X a (TV K ml pa ta ba fa))(l:("dict":Ue)≠ "__name__":=by decide)(e:(("dict":Ue)==("__debug__":Ue))=bb:=by decide)(b:SE X a []:=by rfl):PE X (.Call (.Name "dict" p') [a] [] pos) (TN K ml pa (f1 DP fa)):=
 (WC (lI hc r) n m g (b8 o aH b) l e b).imp λσ H Q h=>by obtain⟨B,O,δ,d,δ',S,q,k⟩:=h;obtain⟨x,h1,h2⟩:=NC q;refine⟨B,O,δ,x,δ',S,h1,λf H1 c=>kH H1 _ _ f x d Q c.rep h2 λp kvs ds j i b=>?_⟩;subst b;exact k p _ (mkDK c.sta c.frm c.pur j i)
noncomputable def PB:List (Option Nat)->List c6->Nat->Option c6
 |none::_,d::_,0=>b3 d
 |none::sh,_::ds,j+1=>PB sh ds j
 |some k::sh,ds,j+1=>PB sh (ds.drop k) j
 |_,_,_=>b4
section
variable{X:Cx}{K:Ah}{ml:List Nat}{a b:Uh}{es:List Uh}{H:Hp}{ps:Bool}{δ:Ev}{pos ai:Pos}{i j jj:Nat}
theorem RS.getV{sub:Ub->Option (List V)}{N:Ub->Prop}:∀{xs vs:List V}{sh:List (Option Nat)}{ds:List c6}{d:c6}{j:Nat},RS sub xs sh vs->cG K N H vs ds->PB sh ds j=b3 d->∃v,xs[j]?=b3 v/\bV K N H N v d
 |_,_,_,_,_,_,.nil,_,h=>by simp[PB]at h
 |_,_,_,_,_,0,.val _ _,.cons r _,h=>by simp only[PB,Ky]at h;subst h;exact⟨_,rfl,r⟩
 |_,_,_,_,_,j+1,.val _ t,.cons _ r,h=>by obtain⟨v,b,a⟩:=RS.getV (j:=j) t r (by simpa[PB]using h);exact⟨v,by simpa using b,a⟩
 |_,_,_,_,_,0,.lst _ _ _,_,h=>by simp[PB]at h
 |_,_,_,ds,_,j+1,.lst (zs:=zs) _ _ t,r,h=>by
  have:=r.drop zs.length
  rw[Io]at this;obtain⟨v,b,a⟩:=RS.getV (j:=j) t this (by simpa[PB]using h);exact⟨v,by simpa using b,a⟩
def KU{α:Type}{xs:List α}{j:Nat}{v:α}(h:xs[j]?=b3 v):UA xs (j:Int)=b3 v:=by have hl:=(Ag.mp h).1;unfold UA BC;rw[if_pos (by lia),if_pos (by lia)];simpa using h
def fNv(i j:Nat):VF:=λδ=>match δ[i]? with
 |some (.ow (.nst sh ds))=>(PB sh ds j).map λd=>(d,δ)
 |_=>b4
def Vl(l:PE X a (WH i))(h:PE X b (tC (.int (j:Int))))(m:X.K=K:=by rfl)(g:W7 b:=by exact λ_ _=>rfl):PE X (.Subscript a b pos) (TV K ml ba ba ba (fNv i j)):=by
 refine(NW (BD m) l h g).imp λσ H Q c=>?_;obtain⟨B,O,δ,d,δ',S,q,k⟩:=c;unfold fNv at q;split at q
 ·rename_i sh ds hd
  obtain⟨d',h1,q⟩:=Ao.mp q;cases q;obtain⟨x,p,o,w⟩:=S.ow i _ hd;cases w with
  |nst q0 r=>
   obtain⟨xs,sub,e,_,sp⟩:=q0;obtain⟨v,n,f⟩:=sp.getV r h1;exact⟨.ref x,o,x,xs,j,v,rfl,rfl,.inl (.inl (.inr ⟨xs,sub,xs,rfl,.inr ⟨e,rfl⟩⟩)),KU n,k v H (Res.refl S f)⟩
 ·cases q
def fNl(i j:Nat):VF:=λδ=>(part δ i j).map λd=>(d,δ)
def Yr(l:PE X a (WH i))(h:PE X b (tC (.int (j:Int))))(m:X.K=K:=by rfl)(g:W7 b:=by exact λ_ _=>rfl):PE X (.Subscript a b pos) (TV K ml ba bb ba (fNl i j)):=by
 refine(NW (BD m) l h g).imp λσ H Q c=>?_;obtain⟨B,O,δ,d,δ',S,q,k⟩:=c;unfold fNl at q;obtain⟨d',h1,q⟩:=Ao.mp q;cases q;obtain⟨sh,ds,es,o,n,rfl⟩:=WB h1;obtain⟨x,u,t,w⟩:=S.ow i _ o;cases w with
 |nst q0 r=>
  obtain⟨xs,sub,e,ow,sp⟩:=q0;obtain⟨p,zs,s,f,rz⟩:=sp.getL r n;exact⟨.ref x,t,x,xs,j,.ref p,rfl,rfl,.inl (.inl (.inr ⟨xs,sub,xs,rfl,.inr ⟨e,rfl⟩⟩)),KU s,k _ H (Res.refl S (.fzm (xs:=zs) (.inr ⟨x,xs,sub,ow p zs f,e,λz=>z,f⟩) rz))⟩
def aP(i j:Nat)(fs:T9):T9:=λδ=>(part δ i j).bind λ_=>(fs δ).map λq=>(.p i j::q.1,q.2)
def Yh{fs:T9}{as:List AV}{δ':Ev}(q:aP i j fs δ=b3 (as,δ')):∃d a,part δ i j=b3 d/\fs δ=b3 (a,δ')/\as=.p i j::a:=by unfold aP at q;obtain⟨d,h1,q⟩:=Aa.mp q;obtain⟨p2,h2,q⟩:=Ao.mp q;cases q;exact⟨d,_,h1,h2,rfl⟩
def T4{B:Bs}{O:Nat->Option Ub}{σ:St}{d:c6}(S:a7 K ml B O H σ δ)(h:part δ i j=b3 d):∃x xs sub v,σ[i]?=b3 (b3 (.ref x))/\H x=b3 (.nst xs sub)/\xs[j]?=b3 v:=by
 obtain⟨sh,ds,es,b,a,rfl⟩:=WB h;obtain⟨x,k,f,w⟩:=S.ow i _ b;cases w with
 |nst q0 r=>
  obtain⟨xs,sub,e,ow,sp⟩:=q0;obtain⟨p,zs,c,g,rz⟩:=sp.getL r a;exact⟨x,xs,sub,_,f,e,c⟩
def oE{fs:T9}(o:PE X a (WH i))(n:PE X b (tC (.int (j:Int))))(m:PA X es (C0 K ml ba fs))(r:X.K=K:=by rfl)(h:W7 b:=by exact λ_ _=>rfl)(l:Uc (.Subscript a b pos::es) X.env=(bb,eval (.Subscript a b pos) X.env)::Uc es X.env:=by rfl):PA X (.Subscript a b pos::es) (C0 K ml ba (aP i j fs)):=by refine(b8 (NW (BD r) o n h) m l).imp λσ H Q c=>?_;obtain⟨B,O,δ,as,δ2,S,q,k⟩:=c;obtain⟨d,s,h1,h2,rfl⟩:=Yh q;obtain⟨x,xs,sub,v,g,e,f⟩:=T4 S h1;exact⟨.ref x,g,x,xs,j,v,rfl,rfl,.inl (.inl (.inr ⟨xs,sub,xs,rfl,.inr ⟨e,rfl⟩⟩)),KU f,B,O,δ,_,_,S,h2,λvs H2 R2=>k _ H2 ⟨R2.sta,R2.frm,R2.pur,.p g (R2.pur rfl _ _ e) f R2.rep⟩⟩
def gM{W:Hp->Ub->Hp->Prop}{fs:T9}(t:PE X a (WH i))(s:PE X b (tC (.int (j:Int))))(o:PA X es (GL K ml ba W fs))(w:X.K=K:=by rfl)(l:W7 b:=by exact λ_ _=>rfl)(n:Uc (.Subscript a b pos::es) X.env=(bb,eval (.Subscript a b pos) X.env)::Uc es X.env:=by rfl):PA X (.Subscript a b pos::es) (GL K ml ba W (aP i j fs)):=by refine(b8 (NW (BD w) t s l) o n).imp λσ H Q f=>?_;obtain⟨B,O,δ,as,δ2,S,q,k⟩:=f;obtain⟨d,y,h1,h2,rfl⟩:=Yh q;obtain⟨x,xs,sub,v,h,e,g⟩:=T4 S h1;exact⟨.ref x,h,x,xs,j,v,rfl,rfl,.inl (.inl (.inr ⟨xs,sub,xs,rfl,.inr ⟨e,rfl⟩⟩)),KU g,B,O,δ,_,_,S,h2,λvs H2 R2 c u m p r=>k (v::vs) H2 ⟨R2.sta,R2.frm,R2.pur,.p h (R2.pur rfl _ _ e) g R2.rep⟩ (v::c) u (by rw[m];rfl) p r⟩
end
def RJ(sub:Ub->Option (List V))(p:Ub)(ys:List V):Ub->Option (List V):=λq=>if q=p then b3 ys else sub q
section
variable{X:Cx}{aa:List (Ub×Ul)}{σ:St}{H:Hp}{s:Ae}{x p:Ub}{xs ys zs:List V}{sub:Ub->Option (List V)}{its its':List Ua}{n n':Nat}{f:Ul->Ul}
def cM.nst(I:cM X aa σ H s)(h:H x=b3 (.nst xs sub)):(xs.length<=sizeLine/\∃(its:List Ua) (n:Nat),bX xs its/\s.heap.get? x=b3 {cls:=.type "list",data:=.seq its.toArray n})∧ ∀p zs,sub p=b3 zs->p≠x/\H p=b3 (.own x)/\zs.length<=sizeLine/\∃(its:List Ua) (n:Nat),bX zs its/\s.heap.get? p=b3 {cls:=.type "list",data:=.seq its.toArray n}:=
 (show aG X.prog X.w H s.heap x (.nst xs sub) from I.hok x _ h)
def cM.nstTop(I:cM X aa σ H s)(h:H x=b3 (.nst xs sub))(j:s.heap.get? x=b3 {cls:=.type "list",data:=.seq its.toArray n})(c:f {cls:=.type "list",data:=.seq its.toArray n}={cls:=.type "list",data:=.seq its'.toArray n'})(r:bX ys its')(hz:ys.length<=sizeLine)(t:Nat):cM X aa σ (upd H x (.nst ys sub)) {s with heap:=s.heap.update x f,toks:=t}:=by
 have e:(s.heap.update x f).get? x=b3 {cls:=.type "list",data:=.seq its'.toArray n'}:=by rw[Iq f j (by rw[c]<;>rfl),c]
 obtain⟨_,k⟩:=I.nst h;refine I.write (x:=x) (e:=x) (by rw[h];trivial) (.inl rfl) (λb u l q=>(Eu _ _ (Di l)).trans q) ⟨_,e⟩ ⟨⟨hz,its',n',r,e⟩,λp zs d=>?_⟩;obtain⟨a,w,o,i,m,v,g⟩:=k p zs d;exact⟨a,by rw[cB a];exact w,o,i,m,v,(Eu _ _ (Di a)).trans g⟩
def cM.nstSub(I:cM X aa σ H s)(h:H x=b3 (.nst xs sub))(C:sub p=b3 zs)(D:s.heap.get? p=b3 {cls:=.type "list",data:=.seq its.toArray n})(l:f {cls:=.type "list",data:=.seq its.toArray n}={cls:=.type "list",data:=.seq its'.toArray n'})(r:bX ys its')(hz:ys.length<=sizeLine)(t:Nat):cM X aa σ (upd H x (.nst xs (RJ sub p ys))) {s with heap:=s.heap.update p f,toks:=t}:=by
 have e:(s.heap.update p f).get? p=b3 {cls:=.type "list",data:=.seq its'.toArray n'}:=by rw[Iq f D (by rw[l]<;>rfl),l]
 obtain⟨⟨z,B,A,y,F⟩,k⟩:=I.nst h;obtain⟨d,j,_⟩:=k p zs C;refine I.write (x:=x) (e:=p) (by rw[h];trivial) (.inr j) (λb u E q=>(Eu _ _ (Di E)).trans q) ⟨_,e⟩ ⟨⟨z,B,A,y,(Eu _ _ d).trans F⟩,λq w c=>?_⟩;unfold RJ at c;split at c
 ·rename_i a
  subst a;cases c;exact⟨d,by rw[cB d];exact j,hz,its',n',r,e⟩
 ·rename_i a
  obtain⟨o,J,G,i,m,v,g⟩:=k q w c;exact⟨o,by rw[cB o];exact J,G,i,m,v,(Eu _ _ (Di a)).trans g⟩
def oW:V->V->V->Hp->(Hp->Prop)->Prop:=λo i v H Q=>∃x xs sub k j,o=.ref x/\i=.int k/\H x=b3 (.nst xs sub)/\BC xs.length k=b3 j/\Q (upd H x (.nst (xs.set j v) sub))
def EL:PSet X oW:=by
 intro aa s σ H o i v x y u Q I l m g h;obtain⟨p,xs,sub,k,j,rfl,rfl,b,w,q⟩:=h;cases l;obtain⟨t,rfl⟩:=m;obtain⟨⟨hz,its,n,r,a⟩,_⟩:=I.nst b;obtain⟨h1,h2,d,c⟩:=DJ w;have hl:=r.length;have z:=QB;have f:cM X aa σ (upd H p (.nst (xs.set j v) sub)) {s with heap:=s.heap.update p (Dg (·.setIfInBounds j u))}:=
  I.nstTop b a (FH its n j u) (r.set g j) (by rw[Cc];exact hz) s.toks
 by_cases e:0<=k
 ·have hk:k.toNat=j:=by rw[Rg e c]at h1;exact Cg h1
  exact W.ki_setAt a e (by lia) (by rw[Aj,<-hl];exact c) (by rw[hk];exact⟨_,f,q⟩)
 ·have hk:(k+(its.toArray.size:Int)).toNat=j:=by rw[Qc (by lia) d]at h1;rw[Aj,<- hl];exact Cg h1
  exact W.ki_setBack a (by lia) (by rw[Aj,<-hl];exact d) (by lia) (by rw[hk];exact⟨_,f,q⟩)
def pD:V->List V->Hp->VK->Prop:=λo vs H Q=>∃p x xs sub zs y,o=.ref p/\vs=[y]/\H x=b3 (.nst xs sub)/\sub p=b3 zs/\zs.length<sizeLine/\Q .non (upd H x (.nst xs (RJ sub p (zs++[y]))))
def iV:MtM X "list.append" pD:=by intro aa s σ H x vs v n Q I i j h;obtain⟨p,x,xs,sub,zs,y,rfl,rfl,e,g,hz,k⟩:=h;cases i;obtain⟨u,rfl,l⟩:=j.one;obtain⟨_,m⟩:=I.nst e;obtain⟨_,_,_,d,c,b,a⟩:=m p zs g;have o:=b.length;refine Fj Og ⟨_,a,rfl⟩ Np (Na _ _) (Pd p d.toArray c u (by rw[Aj];lia)) ⟨a,?_⟩;exact⟨.non,_,I.nstSub e g a (f:=Dg λz=>z.push u) (its':=d++[u]) (n':=c+1) (by simp[Dg]) (b.append (.cons l .nil)) (by rw[Bv,Eb];lia) s.toks,rfl,k⟩
end
noncomputable def PF:List (Option Nat)->List c6->Nat->c6->List c6
 |none::_,_::ds,0,d=>d::ds
 |none::sh,e::ds,j+1,d=>e::PF sh ds j d
 |some k::sh,ds,j+1,d=>ds.take k++PF sh (ds.drop k) j d
 |_,ds,_,_=>ds
noncomputable def RE:List (Option Nat)->List c6->Nat->List c6->List c6
 |some k::_,ds,0,es=>es++ds.drop k
 |none::sh,e::ds,j+1,es=>e::RE sh ds j es
 |some k::sh,ds,j+1,es=>ds.take k++RE sh (ds.drop k) j es
 |_,ds,_,_=>ds
section
variable{K:Ah}{H:Hp}{N:Ub->Prop}{sub:Ub->Option (List V)}
theorem RS.setV{v:V}{d:c6}(b:∀p,v≠ .ref p)(c:bV K N H N v d):∀{xs vs:List V}{sh:List (Option Nat)}{ds:List c6}{d0:c6}{j:Nat},RS sub xs sh vs->cG K N H vs ds->PB sh ds j=b3 d0->∃a,RS sub (xs.set j v) sh a/\cG K N H a (PF sh ds j d)
 |_,_,_,_,_,_,.nil,_,h=>by simp[PB]at h
 |_,_,_,_,_,0,.val _ t,.cons _ r,h=>⟨_,.val (λp e=>absurd e (b p)) t,.cons c r⟩
 |_,_,_,_,_,j+1,.val n t,.cons l r,h=>by obtain⟨a,g,f⟩:=RS.setV b c (j:=j) t r (by simpa[PB]using h);exact⟨_,.val n g,.cons l f⟩
 |_,_,_,_,_,0,.lst _ _ _,_,h=>by simp[PB]at h
 |_,_,_,ds,_,j+1,.lst (p:=p) (zs:=zs) hs ni t,r,h=>by
  have k:=r.take zs.length;have i:=r.drop zs.length;rw[Im]at k;rw[Io]at i;obtain⟨a,g,f⟩:=RS.setV b c (j:=j) t i (by simpa[PB]using h);refine⟨zs++a,.lst hs (λz=>?_) g,k.append f⟩;rcases List.mem_or_eq_of_mem_set z with z|z
  ·exact ni z
  ·exact b p z.symm
theorem RS.keep{p:Ub}{ys:List V}:∀{xs vs:List V}{sh:List (Option Nat)},RS sub xs sh vs->V.ref p∉xs->sub p≠b4->RS (RJ sub p ys) xs sh vs
 |_,_,_,.nil,_,_=>.nil
 |_,_,_,.val (v:=v) n t,h,hp=>.val (λq e=>by unfold RJ;rw[if_neg λz=>h (by rw[e,z];exact Au)];exact n q e) (RS.keep t (λz=>h (Am _ z)) hp)
 |_,_,_,.lst (p:=q) hs ni t,h,hp=>.lst (by unfold RJ;rw[if_neg λz=>h (by rw[z];exact Au)];exact hs) ni (RS.keep t (λz=>h (Am _ z)) hp)
theorem RS.setL{p:Ub}{ys:List V}{d:List c6}(f:cG K N H ys d):∀{xs vs zs:List V}{sh:List (Option Nat)}{ds:List c6}{j:Nat},RS sub xs sh vs->cG K N H vs ds->xs[j]?=b3 (.ref p)->sub p=b3 zs->∃a,RS (RJ sub p ys) xs (sh.set j (b3 ys.length)) a/\cG K N H a (RE sh ds j d)
 |_,_,_,_,_,_,.nil,_,h,_=>by simp at h
 |_,_,_,_,_,0,.val n _,_,h,b=>by simp at h;rw[n p h]at b;cases b
 | _,_,_,_,_,j + 1,.val (v := v) n t,.cons r0 r,h,b => by
  obtain⟨a,i,g⟩:=RS.setL f (j:=j) t r (by simpa using h) b;refine⟨_,.val (λq e=>?_) i,.cons r0 g⟩;have l:q≠p:=λz=>by
   have:=n q e
   rw[z,b]at this;cases this
  unfold RJ;rw[if_neg l];exact n q e
 |_,_,_,_,ds,0,.lst (p:=q) (zs:=ws) hs' ni t,r,h,b=>by simp at h;subst h;have c:=r.drop ws.length;rw[Io]at c;refine⟨ys++_,.lst (by unfold RJ;rw[if_pos rfl]) ni (t.keep ni (by rw[hs'];simp)),f.append c⟩
 |_,_,_,_,ds,j+1,.lst (p:=q) (zs:=ws) hs' ni t,r,h,b=>by have k:=r.take ws.length;have c:=r.drop ws.length;rw[Im]at k;rw[Io]at c;have h':=h;simp only[Lu]at h';obtain⟨a,i,g⟩:=RS.setL f (j:=j) t c h' b;refine⟨ws++a,.lst ?_ ni i,k.append g⟩;unfold RJ;rw[if_neg λz=>ni (by rw[z];exact Dt h')];exact hs'
end
section
variable{X:Cx}{K:Ah}{ml:List Nat}{a b c e:Uh}{es:List Uh}{H:Hp}{pa pb:Bool}{pos ai:Pos}{i j:Nat}
def B8{N:Ub->Prop}{x:Ub}{e c:List V}{sub i:Ub->Option (List V)}{xs:List V}{ds:List c6}(f:H x=b3 (.nst e sub))(g:N x)(h:cG K N H xs ds):cG K N (upd H x (.nst c i)) xs ds:=
 h.fr (P:=λb=>b=x) (λb u q n=>by
  by_cases d:b=x
  ·subst d
   rw[f]at q;cases q;exact absurd (n rfl) λz=>z
  ·rw[cB d]
   exact q) λa z=>z▸g
def OX{B:Bs}{O:Nat->Option Ub}{x:Ub}{d a vs:List V}{sub b:Ub->Option (List V)}{sh:List (Option Nat)}{ds:List c6}(c:H x=b3 (.nst d sub))(f:O i=b3 x)(ow:∀p zs,b p=b3 zs->H p=b3 (.own x))(sp:RS b a sh vs)(r:cG K (Nn B O) H vs ds):SU K (Nn B O) (upd H x (.nst a b)) x (.nst sh ds):=by refine .nst ⟨a,b,cH,λp zs e=>?_,sp⟩ (B8 c (.inr ⟨i,f⟩) r);have h:=ow p zs e;rw[cB (Q7 h c λz=>nomatch z)];exact h
def DI{n j:Nat}(h:j<n):BC n (j:Int)=b3 j:=by unfold BC;rw[if_pos (by lia),if_pos (by lia)];simp
def EJ(i j:Nat)(fv:VF):VS:=λδ=>(fv δ).bind λp=>match p.1,p.2[i]? with
 |.int k,b3 (.ow (.nst sh ds))=>(PB sh ds j).map λ_=>.nx (p.2.set i (.ow (.nst sh (PF sh ds j (.int k)))))
 |_,_=>b4
def qf{fv:VF}(E:PE X a (WH i))(hi:PE X b (tC (.int (j:Int))))(A:PE X c (TV K ml pb ba ba fv))(F:∀v,assign (.Subscript a b ai) X.env v=(do
   let f<-Kt [v] (eval a X.env)
   let l<-Kt [v,f] (eval b X.env)
   Sq ai
   Kt [v,f,l] (Pa f l v)
   release [v,f,l] []):=by intro _;rfl)
  (C:Ex [.Subscript a b ai] c pos.line X.env=pure bb:=by rfl) (hw:Ey [.Subscript a b ai] c X.env=pure b4:=by rfl)
  (h1:(Ui [.Subscript a b ai] X.env).map (·.2)=[assign (.Subscript a b ai) X.env]:=by rfl):PS X (.Assign [.Subscript a b ai] c pos) (WO K ml (EJ i j fv)):=
 (QI A (We E hi EL F) C hw h1).imp λD σ H m => by
  obtain⟨B,O,δ,o,S,q,k⟩:=m;unfold EJ at q;obtain⟨⟨z,δ1⟩,h1,q⟩:=Aa.mp q;simp only at q;split at q
  ·rename_i h sh ds hd
   obtain⟨d0,h2,q⟩:=Ao.mp q;cases q;refine⟨B,O,δ,_,δ1,S,h1,λg H1 n=>?_⟩;obtain⟨x,t,J,w⟩:=n.sta.ow i _ hd;cases w with
   |nst q0 r=>
    obtain⟨xs,sub,e,ow,sp⟩:=q0;have s:bV K (Nn B O) H1 (Nn B O) g (.int h):=n.rep;have G:g=.int h:=s.onI;obtain⟨u,s1,y⟩:=sp.setV (v:=g) (d:=.int h) (λp z=>by rw[G]at z;cases z) s r h2;obtain⟨L,I,_⟩:=sp.getV r h2;exact⟨.ref x,J,x,xs,sub,j,j,rfl,rfl,e,DI (Ag.mp I).1,k σ _ O (n.sta.wrote t (λz=>z) (OX e t ow s1 y))⟩
  ·cases q
def EH(i j:Nat)(fs:RT):VS:=λδ=>(part δ i j).bind λ_=>(fs δ).bind λr=>match r.1,r.2[i]? with
 |[d],b3 (.ow (.nst sh ds))=>(NL sh ds j).bind λzs=>if zs.length<16777216 then b3 (.nx (r.2.set i (.ow (.nst (sh.set j (b3 (zs.length+1))) (RE sh ds j (zs++[d]))))))else b4
 |_,_=>b4
def lE{fs:RT}{ao ae cu:Pos}(ho:PE X a (WH i))(hi:PE X b (tC (.int (j:Int))))(ha:PA X (e::es) (AG K ml ba ba fs))(hK:X.K=K:=by rfl)(hx:W7 b:=by exact λ_ _=>rfl)(bh:Gh (.Subscript a b cu) "append" X.env (eval (.Subscript a b cu) X.env)=eval (.Subscript a b cu) X.env:=by rfl)(cv:((Fa ae (Uc (e::es) X.env)).all (λx=> !x.1)&&(Ll ae (He [] X.env)).all (λx=>x.1.isSome)&&decide ((e::es).length+([]:List Hf).length+(if([]:List Hf).isEmpty then 0 else 1)<30))=ba:=by rfl)(az:(ao.endLine==ae.line)=ba:=by rfl)(hs:SE X e es:=by rfl)(aw:(Fa ae (Uc es X.env)).any (·.1)=bb:=by rfl)(C:Hk (.Call (.Attribute (.Subscript a b cu) "append" ao) (e::es) [] ae) b4 pos.line X.env=pure bb:=by rfl):PS X (.Expr (.Call (.Attribute (.Subscript a b cu) "append" ao) (e::es) [] ae) pos) (WO K ml (EH i j fs)):=by
 subst hK;refine(D1 (kBm (K:=X.K) rfl Gi Bi Bj iV (NW (BD rfl) ho hi hx) ha bh cv az hs aw) C).imp λD σ H F=>?_;obtain⟨B,O,δ,o,S,q,k⟩:=F;unfold EH at q;obtain⟨d0,L,q⟩:=Aa.mp q;obtain⟨⟨es',δ1⟩,h1,q⟩:=Aa.mp q;simp only at q;split at q
 ·rename_i d sh ds hd
  obtain⟨zs,h2,q⟩:=Aa.mp q;split at q
  ·rename_i hz
   cases q;obtain⟨x,xs,sub,v,Q,ex,s⟩:=T4 S L;obtain⟨sh0,ds0,es0,e7,e8,_⟩:=WB L;obtain⟨x',I,n,Y⟩:=S.ow i _ e7;rw[Q]at n;cases n;cases Y with
   |nst q0 r0=>
    obtain⟨V,mw,m,A,u⟩:=q0;rw[ex]at m;cases m;obtain⟨p,r,P,f,_⟩:=u.getL r0 e8;rw[s]at P;cases P;refine⟨.ref x,Q,x,xs,j,.ref p,rfl,rfl,.inl (.inl (.inr ⟨xs,sub,xs,rfl,.inr ⟨ex,rfl⟩⟩)),KU s,.inl ⟨rfl,r,.inl (.inl (.inr ⟨xs,sub,r,rfl,.inl ⟨x,A p r f,ex,f⟩⟩))⟩,B,O,δ,[d],δ1,S,h1,λvs H1 R=>?_⟩;have c:=R.pur rfl _ _ ex;obtain⟨x2,f1,_,w⟩:=R.sta.ow i _ hd;rw[I]at f1;cases f1;have rr:=R.rep;cases rr with
    | @cons y _ _ _ hv t=>
     cases t;cases w with
     |nst q1 J=>
      obtain⟨U,mv,l,h,g⟩:=q1;rw[c]at l;cases l;obtain⟨p',W,N,M,rz⟩:=g.getL J h2;rw[s]at N;cases N;rw[f]at M;cases M;have hl:=rz.length;obtain⟨Z,s1,s2⟩:=g.setL (rz.snoc hv) J s f;rw[Bv,Eb,hl]at s1;refine⟨p,x,xs,sub,r,y,rfl,rfl,c,f,by rw[hl,Ce];exact hz,k σ _ O (R.sta.wrote I (λz=>z) (OX c I (λq T G=>?_) s1 s2))⟩;unfold RJ at G;split at G
      ·rename_i E
       subst E;exact h _ _ f
      ·exact h _ _ G
  ·cases q
 ·cases q
end
def AW(l b j:Ub)(u:Array Ua)(n m:Nat)(k:Int)(t:Uv)(y:0<=k)(h1:k<=u.size)(hz:u.size<=sizeLine)(a:l≠b):Meets (Fu.«list.__setitem__» ⟨[.ref l,.ref j,.ref b],[]⟩) (λ_ R s=>s.heap.get? l=b3 ⟨.type "list",b4,.seq u n,#[]⟩/\s.heap.get? b=b3 ⟨.type "list",b4,.seq #[] m,#[]⟩/\s.heap.get? j=b3 ⟨.type "slice",b4,.fields #[.int k t,.none,.none],#[]⟩/\R (.ok (.ret .none)) {s with heap:=s.heap.update l (Dg λx=>x.extract 0 k.toNat++x.extract u.size)}):=
 .of_wp λprog w A R s h=>by
  obtain⟨v,g,d,tk,os⟩:=s;obtain⟨hl,p,o,h⟩:=h;have f1:=Iy;have f2:=Ld;have f3:=Mi;have D:=Lv;have C:=Lw;have B:=slice_no_index;unfold Fu.«list.__setitem__»;wp_walk using Bg hl,Bg p,Bg o
  have r:Le (.ref l) (.ref b)=bb:=by simp[Le,a]
  have z:sliceIndices (rawInt k) Value.none Value.none u.size=pure (k,(u.size:Int),1):=by
   have:=sliceIndices_raw (b3 k) b4 b4 u.size (by simp)
   have e:max 0 (min (if k<0 then k+(u.size:Int)else k) (u.size:Int))=k:=by rw[if_neg (by omega)];omega
   simpa[rawPart,Hd,e]using this
  simp only[r,De,if_false];wp_walk using Bg hl,Bg p,Bg o
  have q:Ea (u.size+(#[]:Array Ua).size)=bb:=by simp[Ea];exact hz
  have i:(max k (u.size:Int)).toNat=u.size:=by omega
  rw[q];simp only[De,if_false,i];have f:(λxs:Array Ua=>xs.extract 0 k.toNat++ #[]++xs.extract u.size)=λxs=>xs.extract 0 k.toNat++xs.extract u.size:=by funext xs;simp
  rw[f];have c:(u.extract 0 k.toNat++u.extract u.size).size<=sizeLine+1:=by rw[Pr,Ot,Ot];omega
  refine Ac (wpAny_updateSeq hl rfl (hz:=hz) (_hz':=c) ?_);refine Ac (Nu ?_);exact Ai ⟨_,rfl,h⟩
section
variable{prog:Aw}{w:Uj}{A:Cb}{E:Ua->Ae->Prop}{s:Ae}
def II{l b a:Ub}{u:Array Ua}{n m:Nat}{k:Int}{t:Uv}{Q:Unit->Ae->Prop}(g:0<=k)(h1:k<=u.size)(hz:u.size<=sizeLine)(c:l≠b)(hl:s.heap.get? l=b3 ⟨.type "list",b4,.seq u n,#[]⟩)(f:s.heap.get? b=b3 ⟨.type "list",b4,.seq #[] m,#[]⟩)(e:s.heap.get? a=b3 ⟨.type "slice",b4,.fields #[.int k t,.none,.none],#[]⟩)(h:Q () {s with heap:=s.heap.update l (Dg λx=>x.extract 0 k.toNat++x.extract u.size)}):Ud (Uf prog w) A (Pa (.ref l) (.ref a) (.ref b)) Q E s:=by
 have d:s.heap.IsList l u:=PySem.IsL.isList hl;unfold Pa;refine Br ?_;refine Ac (Ic d.typeIs (by decide) ?_);refine Ac (Cw (name:=Be "__setitem__") d.typeIs Ps
  (Fj Ps d.typeIs entry_list_setitem (args_list_setitem _ _ _) (AW l b a u n m k t g h1 hz c) ⟨hl,f,e,?_⟩))
 exact Ai h
end
section
variable{X:Cx}{o lo:Uh}{to tl:TE}{pos p2:Pos}
def gCut(to tl:TE):TG:=λv σ H Q=>to σ H λx H1=>tl σ H1 λy H2=>∃b p a xs sub zs k,v=.ref b/\x=.ref p/\y=.int k/\H2 b=b3 (.lst [])/\H2 a=b3 (.nst xs sub)/\sub p=b3 zs/\0<=k/\k<=zs.length∧
 Q σ (upd H2 a (.nst xs (RJ sub p (zs.take k.toNat))))
def iD(A:PE X o to)(hl:PE X lo tl):PG X (.Subscript o (.Slice (b3 lo) b4 b4 p2) pos) (gCut to tl):=by
 intro aa s σ H v u Q I r h;rw[arm_assign_Subscript];refine Ac (Br (ZT (A aa s σ H _ I h) λK s1 ⟨x,H1,F,l,q1⟩=>?_));refine Ac (Br (wpAny_Slice ?_));rw[evalPart_some,Of];refine ZT (hl aa s1 σ H1 _ F q1) λJ a ⟨y,H2,E,c,q2⟩=>Ai (Ai ?_);obtain⟨b,p,G,xs,sub,zs,k,rfl,rfl,rfl,j,g,i,C,h1,q⟩:=q2;cases r;cases l;obtain⟨t,rfl⟩:=c;have d:cM X aa σ H2 {a with heap:=a.heap.push {cls:=.type "slice",data:=.fields #[.int k t,.none,.none]}}:=E.kept (t':=a.toks) λb L q=>Ad _ q;obtain⟨_,w⟩:=d.nst g;obtain⟨_,m,hz,its,n,f,e⟩:=w p zs i;obtain⟨_,N,M,c,B,D⟩:=d.lstM j;cases c;have O:=f.length;refine Ac (Gg (Ac (Br (II (t:=t) C (by rw[Aj];lia) (by rw[Aj];lia) (Q7 m j λz=>nomatch z) e D (As _ rfl) ?_))));refine wpAny_release ⟨σ,_,d.nstSub g i e (its':=its.take k.toNat) (n':=if min k.toNat its.length=its.length then n else n+1) ?_ (f.take _) ?_ _,q⟩
 ·simp[Dg]
 ·rw[Cr];lia
end
section
variable{X:Cx}{K:Ah}{ml:List Nat}{a b c e:Uh}{H:Hp}{pos ai p2 cu:Pos}{i j:Nat}
def L5(i j:Nat)(fv fk:VF):VS:=λδ=>(fv δ).bind λp=>match p.1 with
 |.lst []=>(part p.2 i j).bind λ_=>(fk p.2).bind λr=>match r.1,r.2[i]? with
  |.int k,b3 (.ow (.nst sh ds))=>(NL sh ds j).bind λzs=>if 0<=k/\k<=zs.length then b3 (.nx (r.2.set i (.ow (.nst (sh.set j (b3 k.toNat)) (RE sh ds j (zs.take k.toNat))))))else b4
  |_,_=>b4
 |_=>b4
def mP{fv fk:VF}(ho:PE X a (WH i))(hi:PE X b (tC (.int (j:Int))))(hk:PE X e (TV K ml ba ba ba fk))(hv:PE X c (TN K ml ba fv))(hK:X.K=K:=by rfl)(hx:W7 b:=by exact λ_ _=>rfl)(hs:Ex [.Subscript (.Subscript a b cu) (.Slice (b3 e) b4 b4 p2) ai] c pos.line X.env=pure bb:=by rfl)(hw:Ey [.Subscript (.Subscript a b cu) (.Slice (b3 e) b4 b4 p2) ai] c X.env=pure b4:=by rfl)(h1:(Ui [.Subscript (.Subscript a b cu) (.Slice (b3 e) b4 b4 p2) ai] X.env).map (·.2)=[assign (.Subscript (.Subscript a b cu) (.Slice (b3 e) b4 b4 p2) ai) X.env]:=by rfl):PS X (.Assign [.Subscript (.Subscript a b cu) (.Slice (b3 e) b4 b4 p2) ai] c pos) (WO K ml (L5 i j fv fk)):=by
 refine(QI hv (iD (NW (BD hK) ho hi hx) hk) hs hw h1).imp λD σ H F=>?_;obtain⟨B,O,δ,o,S,q,k⟩:=F;unfold L5 at q;obtain⟨⟨z,g⟩,h0,q⟩:=Aa.mp q;simp only at q;split at q
 case h_2=>cases q
 obtain⟨d0,L,q⟩:=Aa.mp q;obtain⟨⟨dk,δ1⟩,h1,q⟩:=Aa.mp q;simp only at q;split at q
 case h_2=>cases q
 rename_i d sh ds hd;obtain⟨zs,h2,q⟩:=Aa.mp q;split at q
 case isFalse=>cases q
 rename_i hz;cases q;refine⟨B,O,δ,.lst [],g,S,h0,λpb H1 u=>?_⟩;have hb:H1 pb=b3 (.lst []):=by
  have w:=u.own;cases w with
  |lst Z Y=>cases Y;exact Z
 obtain⟨x,xs,sub,v,Q,ex,t⟩:=T4 u.sta L;obtain⟨sh0,ds0,es0,e7,e8,_⟩:=WB L;obtain⟨x',I,r,w0⟩:=u.sta.ow i _ e7;rw[Q]at r;cases r;cases w0 with
 |nst q0 r0=>
  obtain⟨V,mw,n,ow0,C⟩:=q0;rw[ex]at n;cases n;obtain⟨p,A,P,s,_⟩:=C.getL r0 e8;rw[t]at P;cases P;refine⟨.ref x,Q,x,xs,j,.ref p,rfl,rfl,.inl (.inl (.inr ⟨xs,sub,xs,rfl,.inr ⟨ex,rfl⟩⟩)),KU t,B.add pb,O,g,.int d,δ1,u.sta,h1,λy H2 R=>?_⟩;have f:=R.pur rfl _ _ ex;have ey:y=.int d:=by exact R.rep.onI
  obtain⟨x2,f1,_,w⟩:=R.sta.ow i _ hd;rw[I]at f1;cases f1;cases w with
  |nst q1 J=>
   obtain⟨U,mv,m,l,h⟩:=q1;rw[f]at m;cases m;obtain⟨p',W,N,M,rz⟩:=h.getL J h2;rw[t]at N;cases N;rw[s]at M;cases M;have hl:=rz.length;obtain⟨vs',s1,s2⟩:=h.setL (rz.take d.toNat) J t s;have hm:(A.take d.toNat).length=d.toNat:=by rw[Cr,hl];lia
   rw[hm]at s1;refine⟨pb,p,x,xs,sub,A,d,rfl,rfl,ey,R.pur rfl _ _ hb,f,s,hz.1,by rw[hl];exact hz.2,k σ _ O (a7.unadd (p:=pb) (R.sta.wrote (o:=.nst xs (RJ sub p (A.take d.toNat))) I (λz=>z) (OX f I (λq T G=>?_) s1 s2)))⟩;unfold RJ at G;split at G
   ·rename_i E
    subst E;exact l _ _ s
   ·exact l _ _ G
end
section
variable{X:Cx}{K:Ah}{ml:List Nat}{a b c e:Uh}{H:Hp}{pos ai:Pos}{i j k:Nat}{pu:Bool}
def EI(i j k:Nat)(fs:RT):VS:=λδ=>(fs δ).bind λr=>match r.1,r.2[i]? with
 |[.int n,.int d],b3 (.ow (.nst sh ds))=>(PB sh ds j).bind λ_=>if k<r.2.length then b3 (.nx ((r.2.set i (.ow (.nst sh (PF sh ds j (.int n))))).set k (.va (.int d))))else b4
 |_,_=>b4
def jG{y:Ue}{fs:RT}{f pt g:Pos}{kt k2}(hc:X.calm=ba)(W:X.N.Nodup)(hk:X.N[k]?=b3 y)(s:X.env.scope.names.lookup y=b3 .local)(T:PE X a (WH i))(hi:PE X b (tC (.int (j:Int))))(M:PA X [c,e] (AG K ml pu ba fs))(hK:X.K=K:=by rfl)(U:k∉ml:=by decide)(V:∀v,assign (.Subscript a b ai) X.env v=(do
   let h<-Kt [v] (eval a X.env)
   let l<-Kt [v,h] (eval b X.env)
   Sq ai
   Kt [v,h,l] (Pa h l v)
   release [v,h,l] []):=by intro _;rfl)
  (P:Ex [.Tuple [.Subscript a b ai,.Name y f] kt pt] (.Tuple [c,e] k2 g) pos.line X.env=pure bb:=by rfl) (hw:Ey [.Tuple [.Subscript a b ai,.Name y f] kt pt] (.Tuple [c,e] k2 g) X.env=pure b4:=by rfl)
  (h1:(Ui [.Tuple [.Subscript a b ai,.Name y f] kt pt] X.env).map (·.2)=[assign (.Tuple [.Subscript a b ai,.Name y f] kt pt) X.env]:=by rfl)
  (h2:(Ui [.Subscript a b ai,.Name y f] X.env).map (·.2)=assign (.Subscript a b ai) X.env::(Ui [.Name y f] X.env).map (·.2):=by rfl)
  (h3:(Ui [.Name y f] X.env).map (·.2)=assign (.Name y f) X.env::(Ui [] X.env).map (·.2):=by rfl)
  (Z:(Ui [.Subscript a b ai,.Name y f] X.env).length=2:=by rfl) (Y:(Ui [.Subscript a b ai,.Name y f] X.env).findIdx? (·.1)=b4:=by rfl):
  PS X (.Assign [.Tuple [.Subscript a b ai,.Name y f] kt pt] (.Tuple [c,e] k2 g) pos) (WO K ml (EI i j k fs)):=by
 refine(QI (FT M) (Yi hc (WD (We T hi EL V) (WD (RA W hk (.inl s) (.inr s)) J7 h3) h2) Z Y) P hw h1).imp λD σ H m=>?_;obtain⟨B,O,δ,o,S,q,L⟩:=m;unfold EI at q;obtain⟨⟨zs,δ1⟩,h1,q⟩:=Aa.mp q;simp only at q;split at q
 case h_2=>cases q
 rename_i n d sh ds hd;obtain⟨d0,h2,q⟩:=Aa.mp q;split at q
 case isFalse=>cases q
 rename_i hl;cases q;refine⟨B,O,δ,_,δ1,S,h1,λvs H1 R=>?_⟩;have G:=R.rep;cases G with
 | @cons E _ _ _ J t=>
  cases t with
  | @cons C _ _ _ I t=>
   cases t;have e1:E=.int n:=J.onI;have e2:C=.int d:=I.onI;subst e1 e2;refine⟨by show 2<=sizeLine;decide,λp Q=>?_⟩;have u:=R.sta.same (cW (o:=.tup [.int n,.int d]) Q);obtain⟨x,f1,f2,w⟩:=u.ow i _ hd;cases w with
   |nst q0 r=>
    obtain⟨xs,sub,ex,ow,sp⟩:=q0;obtain⟨A,s1,F⟩:=sp.setV (v:=.int n) (d:=.int n) (λp z=>by cases z) (.int n) r h2;obtain⟨v0,e3,_⟩:=sp.getV r h2;have S3:=u.wrote (o:=.nst (xs.set j (.int n)) sub) f1 (λz=>z) (OX ex f1 ow s1 F);have S4:=S3.setVa (i:=k) (v:=.int d) (d:=.int d) U (.int d);exact⟨p,_,rfl,.inl (.inl (.inl cH)),rfl,_,_,rfl,.ref x,f2,x,xs,sub,j,j,rfl,rfl,ex,DI (Ag.mp e3).1,_,_,rfl,rfl,L _ _ _ S4⟩
end
section
variable{X:Cx}{aa:List (Ub×Ul)}{σ:St}{H:Hp}{s:Ae}{a q:Ub}{xs zs:List V}
def subq(q:Ub)(zs:List V):Ub->Option (List V):=λr=>if r=q then b3 zs else b4
def MA{q r:Ub}{zs a:List V}(h:subq q zs r=b3 a):r=q/\a=zs:=by
 unfold subq at h;split at h
 ·rename_i e
  cases h;exact⟨e,rfl⟩
 ·cases h
def XY(H:Hp)(a q:Ub)(xs zs:List V):Hp:=upd (upd H q (.own a)) a (.nst xs (subq q zs))
def WA{b:Ub}(h1:b≠a)(h2:b≠q):XY H a q xs zs b=H b:=by unfold XY;rw[cB h1,cB h2]
def DW:XY H a q xs zs a=b3 (.nst xs (subq q zs)):=cH
def J5(n:q≠a):XY H a q xs zs q=b3 (.own a):=by unfold XY;rw[cB n,cH]
def U2.XY{P:Aw}{w:Uj}{h:Uk}(ok:U2 P w H h)(e:H a=b3 (.lst xs))(f:H q=b3 (.lst zs))(n:q≠a):U2 P w (L2.XY H a q xs zs) h:=by
 intro b u d;by_cases h1:b=a
 ·subst h1
  rw[DW]at d;cases d;refine⟨ok b _ e,λr g i=>?_⟩;obtain⟨rfl,rfl⟩:=MA i;obtain⟨z,k⟩:=(show aG P w H h r (.lst g) from ok r _ f);exact⟨n,J5 n,z,k⟩
 ·by_cases h2:b=q
  ·subst h2
   rw[J5 n]at d;cases d;obtain⟨_,_,_,_,j⟩:=ok b _ f;exact⟨_,j⟩
  ·rw[WA h1 h2]at d
   refine(ok b u d).stay (λ_ _ _ z=>z) (λc hc=>?_) λc zs hc=>?_
   ·rw [WA (Q7 hc e λz => nomatch z) (Q7 hc f λz => nomatch z)]
    exact hc
   ·rw [WA (Q7 hc e λz => nomatch z) (Q7 hc f λz => nomatch z)]
    exact hc
def cM.XY(I:cM X aa σ H s)(e:H a=b3 (.lst xs))(d:H q=b3 (.lst zs))(n:q≠a):cM X aa σ (L2.XY H a q xs zs) s:=by
 have kp:∀b u,H b=b3 u->(∀f,u≠ .lst f)->L2.XY H a q xs zs b=b3 u:=λb u h h2=>by rw[WA (Q7 h e (h2 _)) (Q7 h d (h2 _))];exact h
 have fr:∀b o,s.heap.get? b=b3 o->H b=b4->L2.XY H a q xs zs b=b4:=λb o h c=>by rw[WA (ZL e c).symm (ZL d c).symm];exact c
 have u:Un X.fs [] H (L2.XY H a q xs zs) s.heap s.heap:=⟨λb o h _ _ _=>h,λb o h _ _ _=>⟨o.slots,h⟩,λb o h c _=>fr b o h c,λb o h _=>⟨o,h⟩,λb zs h=>kp b _ h (λ_ z=>nomatch z),λb o v h=>kp b _ h (λ_ z=>nomatch z),λb zs h=>⟨#[],by simpa using kp b _ h (λ_ z=>nomatch z)⟩⟩;exact I.un (h':=s.heap) (t':=s.toks) u (I.hok.XY e d n)
end
section
variable{X:Cx}{K:Ah}{ml:List Nat}{e:Uh}{H:Hp}{pos ai:Pos}{n:Int}
def dX(n:Int):TE:=λ_ H Q=>∀q p,H q=b4->H p=b4->q≠p->Q (.ref p) (XY (upd (upd H q (.lst [])) p (.lst [.int n,.ref q])) p q [.int n,.ref q] [])
def eF(h:PE X e (tC (.int n)))(h1:Uc [e,.List [] ai] X.env=(bb,eval e X.env)::Uc [.List [] ai] X.env:=by rfl)(h2:Uc [.List [] ai] X.env=(bb,eval (.List [] ai) X.env)::Uc [] X.env:=by rfl):PE X (.List [e,.List [] ai] pos) (dX n):=by
 intro aa s σ H Q I k;refine ZT ((J6 (b8 h (b8 (J6 aH) aH h2) h1)) aa s σ H (λv H'=>∃q p,H q=b4/\H p=b4/\q≠p/\v=.ref p/\H'=upd (upd H q (.lst [])) p (.lst [.int n,.ref q])) I ?_) λu s1 ⟨v,H1,f,d,q1⟩=>?_
 ·refine ⟨by decide,λq b => ⟨by show 2 <= sizeLine;decide,λp a => ⟨q,p,b,?_,?_,rfl,rfl⟩⟩⟩
  ·have : p ≠ q := λz => by rw [z,cH]at a;cases a
   rwa[cB this]at a
  ·intro z
   rw[z,cH]at a;cases a
 ·obtain⟨q,p,b,a,c,rfl,rfl⟩:=q1
  exact⟨.ref p,_,f.XY cH ((cB c).trans cH) c,d,k q p b a c⟩
end
section
variable{X:Cx}{K:Ah}{ml:List Nat}{e a b c:Uh}{es:List Uh}{pa ps:Bool}{fa:VF}{H:Hp}{σ:St}{δ δ':Ev}{v:V}{d d0:c6}{p:Ub}{pos:Pos}{i j:Nat}
def oS{n:Int}{q p:Ub}{N:Ub->Prop}(c:H q=b4)(d:H p=b4)(b:q≠p):SU K N (XY (upd (upd H q (.lst [])) p (.lst [.int n,.ref q])) p q [.int n,.ref q] []) p (.nst [b4,b3 0] [.int n]):=by refine .nst (vs:=[.int n]) ⟨_,_,DW,λr zs a=>?_,.val (λr z=>nomatch z) (.lst (zs:=[]) (vs:=[]) (by unfold subq;rw[if_pos rfl]) (λz=>nomatch z) .nil)⟩ (.cons (.int n) .nil);obtain⟨rfl,_⟩:=MA a;exact J5 b
def CC{n:Int}{q p:Ub}(c:H q=b4)(d:H p=b4):bH H (XY (upd (upd H q (.lst [])) p (.lst [.int n,.ref q])) p q [.int n,.ref q] []):=λb o a=>by
 have h1:b≠p:=λz=>by rw[z,d]at a;cases a
 have h2:b≠q:=λz=>by rw[z,c]at a;cases a
 rw[WA h1 h2,cB h1,cB h2];exact a
def fY{j:Nat}{n:Int}{f c:Pos}(t:PE X a (tC (.int n)))(s:PE X b (WH j))(m:Uc [.List [a,.List [] c] f,b] X.env=(bb,eval (.List [a,.List [] c] f) X.env)::Uc (b::[]) X.env:=by rfl)(g:SE X b []:=by rfl)(h1:Uc [a,.List [] c] X.env=(bb,eval a X.env)::Uc [.List [] c] X.env:=by rfl)(h2:Uc [.List [] c] X.env=(bb,eval (.List [] c) X.env)::Uc [] X.env:=by rfl):
  PA X [.List [a,.List [] c] f,b] (TAGG K ml ba (.nst [b4,b3 0] [.int n]) (aE (fV j) cE)):=(b8 (eF t h1 h2) (b8 s aH g) m).imp λσ H Q h=>by
 obtain⟨B,O,δ,as,δ2,S,q,k⟩:=h;unfold aE at q;obtain⟨z,h1,q⟩:=Aa.mp q;cases q;unfold fV at h1;split at h1
 ·rename_i d hd
  cases h1;intro q p l i o;obtain⟨v,e,r⟩:=S.va j _ hd;exact⟨v,e,k [v] H ⟨S,Fr.refl _ _,λ_=>bH.refl _,.d r .nil⟩ [] v rfl p _ ⟨i,CC l i,λN=>oS l i o⟩⟩
 ·cases h1
def mS{x:Ue}{d j i:Nat}{g:List Ue}{mF:List Nat}{F:bW}{y:Ub}{p':Pos}{fs:T9}(D:Def X.prog X.w K X.mg X.base x d g (spV K (mF++[i]) (i+2) F) y)(m:Y0 j X.A)(t:PA X (e::es) (TAGG K ml ps d0 fs))(u:X.K=K:=by rfl)(o:∀j∈mF,j<i:=by decide)(hk:d<=j:=by decide)(r:Gl X x:=by rfl)(c:ND x:=by decide)(s:SE X e es:=by rfl)(b:(Fa pos (Uc es X.env)).any (·.1)=bb:=by rfl):PE X (.Call (.Name x p') (e::es) [] pos) (TV K ml (ps&&mF.isEmpty) ba ba (cP (i+1) mF (FG d0 i F) fs)):=by subst u;refine(NV D m hk r t c s b).imp λσ H Q h=>?_;obtain⟨B,O,δ,as,δ',S,q,k⟩:=OY h;refine⟨B,O,δ,as,δ',S,q,λvs H' R a v l p H2 hw=>?_⟩;obtain⟨n,f,own⟩:=hw;subst l;have z:spV X.K mF (i+1) (FG d0 i F) ((a++[v])++[]) H' Q E0:=k _ H' R;show spV X.K (mF++[i]) (i+2) F ((a++[.ref p,v])++[]) H2 Q E0;rw[Em]at z⊢;exact IL o n f own z
end
def recV(f:bW->bW):Nat->bW
 |0=>λ_=>b4
 |n+1=>f (recV f n)
def DS{P:Aw}{w:Uj}{K:Ah}{mg:Ue->Option Ua}{base:Uk}{k n:Nat}{f:Ub}{fd:Dw}{ps:List Ue}{ml:List Nat}:aI P w K mg base CX0 k f fd ps (spV K ml n λ_=>b4):=by
 refine⟨λvs H Q E h=>?_,λA outer s H args a vs Q E _ _ _ _ h=>?_⟩<;>
 ·obtain⟨_,_,_,_,_,_,h,_⟩:=h
  cases h
def aG.alive{P:Aw}{w:Uj}{H:Hp}{h:Uk}{a:Ub}{o:HO}(x:aG P w H h a o):∃u,h.get? a=b3 u:=by
 cases o with
 |lst xs=>obtain⟨_,_,_,_,e⟩:=x;exact⟨_,e⟩
 |tup xs=>obtain⟨_,_,_,b,e,_⟩:=x;exact⟨_,e⟩
 |dK kvs=>obtain⟨_,_,_,_,o,_,_,e,_⟩:=x;exact⟨_,e⟩
 |dT kvs=>obtain⟨_,_,_,_,o,_,_,e,_⟩:=x;exact⟨_,e⟩
 |set S n=>obtain⟨o,_,_,_,e,_⟩:=x;exact⟨_,e⟩
 |ins C dx fs=>obtain⟨_,_,_,e,_⟩:=x;exact⟨_,e⟩
 |own y=>exact x
 |xd fs=>obtain⟨_,⟨_,_,_,e,_⟩,_⟩:=x;exact⟨_,e⟩
 |rng lo hi=>obtain⟨_,_,_,e⟩:=x;exact⟨_,e⟩
 |frz b u=>obtain⟨e,_⟩:=x;exact⟨_,e⟩
 |tbl ps=>exact⟨_,(show h.get? a=b3 _ from x)⟩
 |met f y=>exact⟨_,(show h.get? a=b3 _ from x)⟩
 |nst xs sub=>obtain⟨⟨_,_,_,_,e⟩,_⟩:=x;exact⟨_,e⟩
 |ext c=>exact x.2.1
structure XP(K:Ah)(C Cp:Ub):Prop where
 at_:Gr K Ug "PackError"=b3 (b3 (.ref Cp))
 ty:W.typeIn K (.ref Cp)=b3 (.type "type")
 cls:(Te K Cp).isSome=ba
 base:Ta K (.ref Cp) (.type "BaseException")=b3 ba
 sub:Ta K (.ref C) (.ref Cp)=b3 ba
structure XC(K:Ah)(x:Ue)(C:Ub):Prop where
 at_:Gr K Ug x=b3 (b3 (.ref C))
 att:XA K C
 cls:(Te K C).isSome=ba
 pk:∃Cp,XP K C Cp
structure XE(K:Ah)(x:Ue)(C:Ub):Prop where
 xc:XC K x C
 exc:W.excIn K C vbs "ValueError.__new__"=ba
def ExcF(l:List Env)(g:Uk)(H:Hp)(C:Ub)(p:Option Ub)(e:Ua)(h:Uk):Prop:=
 ∃a a0 B,e=.ref a/\Ks B l a (.ref C) a0 h/\Dc a p h/\(∀b o,g.get? b=b3 o->b∉SX l->∃o',h.get? b=b3 o'/\B.get? b=b3 o')/\∀b u,H b=b3 u->∃o,h.get? b=b3 o/\B.get? b=b3 o
def CXv(P:Aw)(w:Uj):CXT:=λouter H s E e s'=>∃C p H1,s'.os=s.os/\Lj s'.gens/\Un (SX outer) [] H H1 s.heap s'.heap/\U2 P w H1 s'.heap/\ExcF outer s.heap H1 C p e s'.heap/\E (.ref C) p H1
def DE{P:Aw}{w:Uj}{H:Hp}{h h' B:Uk}(ok:U2 P w H h)(st:B.StaysIn h')(i:∀b u,H b=b3 u->∃o,h.get? b=b3 o/\B.get? b=b3 o):U2 P w H h':=λb u e=>
 (ok b u e).stay (λc v hc q => by
  have:∃u,H c=b3 u:=by
   rcases hc with rfl|hc
   ·exact⟨u,e⟩
   ·exact⟨_,hc⟩
  obtain⟨d,g⟩:=this;obtain⟨o,a,f⟩:=i c d g;rw[q]at a;cases a;exact st c v f) (λ_ q=>q) λ_ _ q=>q
section
variable{X:Cx}{aa:List (Ub×Ul)}{σ:St}{H H1:Hp}{s s':Ae}{g h' B:Uk}{C a:Ub}{a0:Ua}
def cM.fly(I:cM X aa σ H s)(st:B.StaysIn h')(w:s.heap.UpToSlots h')(J:∀b o,X.s₀.heap.get? b=b3 o->b∉SX X.stack->∃o',s.heap.get? b=b3 o'/\B.get? b=b3 o')(O:∀p∈X.pn++aa,B.get? p.1=b3 p.2)(P:∀b u,H b=b3 u->∃o,s.heap.get? b=b3 o/\B.get? b=b3 o):cM X aa σ H {s with heap:=h'}:=by
 have C:∀b o,X.s₀.heap.get? b=b3 o->b≠X.env.locals:=λb o e=>Bb (Az (Ap e) I.ok.above);have j:∀b o,X.s₀.heap.get? b=b3 o->b∉X.fs->b∉SX X.stack:=λb o e a z=>(Ak.mp (I.stkSub b z)).elim (C b o e) a;have G:∀b∈X.fs,∀o,s.heap.get? b=b3 o->∃y,h'.get? b=b3 {o with slots:=y}:=λb a o e=>by obtain⟨_,o',F,A⟩:=I.funs.mem a;rw[e]at F;cases F;exact w b o e A
 have E:∀x c,X.env.cells.lookup x=b3 c->∀v,s.heap.IsCell c v->h'.IsCell c v:=λx c _ v q0=>by
  obtain⟨o,L,hd⟩:=q0;obtain⟨y,e⟩:=w c o L λvs q=>by rw[hd]at q;cases q
  exact⟨_,e,hd⟩
 refine⟨I.ok,I.os,I.bare,⟨λb o e n a t=>?_,λb o e n a t=>?_,I.base.free,λb o e t=>?_,I.base.tups,I.base.frzs,I.base.tbls⟩,?_,λx c e=>?_,I.free,I.freeC,λp D=>?_,DE I.hok st P,I.len⟩
 ·obtain⟨o',g,f⟩:=J b o e (j b o e a)
  rw[I.base.keep b o e n a t]at g;cases g;exact st b o f
 ·obtain⟨y,g⟩:=I.base.slot b o e n a t
  obtain⟨h,f⟩:=G b a _ g;exact⟨h,f⟩
 ·by_cases a:b∈X.fs
  ·obtain⟨o',g⟩:=I.base.there b o e t
   obtain⟨h,f⟩:=G b a _ g;exact⟨_,f⟩
  ·obtain⟨o',g,f⟩:=J b o e (j b o e a)
   exact⟨o',st b o' f⟩
 ·obtain⟨m,M,hl⟩:=I.loc
  refine⟨m,w.ns M,λi x v g f N=>?_⟩;obtain⟨u,r,l⟩:=hl i x v g f N;refine⟨u,r,?_⟩;rcases l with l|⟨k,c,e,z⟩
  ·exact .inl l
  ·exact .inr ⟨k,c,e,E x c e _ z⟩
 ·obtain⟨v,z⟩:=I.cell x c e
  exact⟨v,E x c e v z⟩
 ·obtain⟨e,n,K,A,d⟩:=I.pin p D
  exact⟨st _ _ (O p D),n,K,A,d⟩
structure Low(X:Cx)(aa:List (Ub×Ul))(g:Uk):Prop where
 s0:∀b o,X.s₀.heap.get? b=b3 o->b∉SX X.stack->∃o',g.get? b=b3 o'
 pin:∀p∈X.pn++aa,∃o,g.get? p.1=b3 o
def cM.low(I:cM X aa σ H s)(a:X.ex=[]):Low X aa s.heap:=
 ⟨λb o e _=>I.base.there b o e (by rw[a];simp),λp c=>⟨_,(I.pin p c).1⟩⟩
def cM.flyG(I:cM X aa σ H s)(lo:Low X aa g)(st:B.StaysIn h')(h:s.heap.UpToSlots h')(f:∀b o,g.get? b=b3 o->b∉SX X.stack->∃o',s.heap.get? b=b3 o'/\B.get? b=b3 o')(n:∀b u,H b=b3 u->∃o,s.heap.get? b=b3 o/\B.get? b=b3 o):cM X aa σ H {s with heap:=h'}:=by
 refine I.fly st h (λb o e c=>?_) (λp a=>?_) n
 ·obtain⟨o',m⟩:=lo.s0 b o e c
  exact f b o' m c
 ·obtain⟨o,e⟩:=lo.pin p a
  obtain⟨l,_,j,i,_⟩:=I.pin p a;obtain⟨o',d,k⟩:=f p.1 o e λz=>(Ak.mp (I.stkSub _ z)).elim j i;rw[l]at d;cases d;exact k
def RzF(X:Cx)(R:Ue->Option Ub->St->Hp->Prop):Prop:=∀(aa:List (Ub×Ul)) (x:Ue) (C:Ub) (p:Option Ub) (σ:St) (H1:Hp) (e:Ua) (s':Ae) (g:Uk),XC X.K x C->cM X aa σ H1 s'->ExcF X.stack g H1 C p e s'.heap->Low X aa g->R x p σ H1->X.xe e s'
def RzM(X:Cx)(R:Ue->Option Ub->St->Hp->Prop):Prop:=∀(aa:List (Ub×Ul)) (x:Ue) (C a:Ub) (args:List Ua) (σ:St) (H1:Hp) (h:Uk) (s':Ae),XC X.K x C->cM X aa σ H1 {s' with heap:=h}->Heap.MadeExcOf h s'.heap a (.ref C) args->R x b4 σ H1->X.xe (.ref a) s'
end
section
variable{P:Aw}{w:Uj}{K:Ah}{mg:Ue->Option Ua}{base:Uk}{N:List Ue}{qual:Ue}{scope:Ur}{f:Ub}{cd:Ua}{A:Cb}{outer:List Env}{s:Ae}{H:Hp}{E:XK}
def rE(K:Ah)(E:XK):Ue->Option Ub->St->Hp->Prop:=λx p _ H1=>∀C,XC K x C->E (.ref C) p H1
def lS{aa:List (Ub×Ul)}{σ:St}{H1:Hp}{s':Ae}{g h' B:Uk}{C a:Ub}{p:Option Ub}{a0:Ua}{d:Drawn}{tk:Nat}(O:Dc a p h')(I:cM (QZ (CXv P w) P w K mg base N qual scope f cd A outer s H E) aa σ H1 s')(lo:∀b o,s.heap.get? b=b3 o->b∉SX (envOfC qual scope s.heap.objs.size f cd::outer)->∃o',g.get? b=b3 o')(k:Ks B outer a (.ref C) a0 h')(G:s'.heap.UpToSlots h')(Q:∀b o,g.get? b=b3 o->b∉SX (envOfC qual scope s.heap.objs.size f cd::outer)->∃o',s'.heap.get? b=b3 o'/\B.get? b=b3 o')(F:∀b u,H1 b=b3 u->∃o,s'.heap.get? b=b3 o/\B.get? b=b3 o)(M:E (.ref C) p H1):CXv P w outer H s E (.ref a) {s' with heap:=h',drawn:=d,toks:=tk}:=by
 have bs:Un (SX outer) [] H H1 s.heap s'.heap:=I.base;have r:s'.heap.FunFrames base (envOfC qual scope s.heap.objs.size f cd::outer):=I.stack;have j:∀b o,s.heap.get? b=b3 o->b∉SX outer->∃o',s'.heap.get? b=b3 o'/\B.get? b=b3 o':=λb o q c=>by
  have x:b∉SX (envOfC qual scope s.heap.objs.size f cd::outer):=λz=>by
   rcases Ak.mp (show b∈s.heap.objs.size::SX outer from z)with z|z
   ·have:=Ap q
    rw[z]at this;exact absurd this (Ck _)
   ·exact c z
  obtain⟨o',e⟩:=lo b o q x;exact Q b o' e x
 have D:∀b∈SX outer,∀o,s'.heap.get? b=b3 o->∃v,h'.get? b=b3 {o with slots:=v}:=λb c o e=>by obtain⟨_,o',y,J⟩:=r.mem (Am _ c:b∈s.heap.objs.size::SX outer);rw[e]at y;cases y;exact G b o e J
 refine⟨C,p,H1,I.os,I.bare,⟨λb o q n c m=>?_,λb o q n c m=>?_,bs.free,λb o q m=>?_,bs.tups,bs.frzs,bs.tbls⟩,DE I.hok k.1 F,⟨a,a0,B,rfl,k,O,λb o e L=>?_,λb u e=>?_⟩,M⟩
 ·obtain⟨o',i,h⟩:=j b o q c
  rw[bs.keep b o q n c m]at i;cases i;exact k.1 b o h
 ·obtain⟨v,i⟩:=bs.slot b o q n c m
  obtain⟨l,t⟩:=D b c _ i;exact⟨l,t⟩
 ·by_cases c:b∈SX outer
  ·obtain⟨o',i⟩:=bs.there b o q m
   obtain⟨l,t⟩:=D b c _ i;exact⟨_,t⟩
  ·obtain⟨o',i,h⟩:=j b o q c
   exact⟨o',k.1 b o' h⟩
 ·obtain⟨o',i,h⟩:=j b o e L
  exact⟨o',k.1 b o' h,h⟩
 ·obtain⟨o,i,h⟩:=F b u e
  exact⟨o,k.1 b o h,h⟩
def KH:RzM (QZ (CXv P w) P w K mg base N qual scope f cd A outer s H E) (rE K E):=by
 intro aa x C a args σ H1 h s' n I M r;have i:h.FunFrames base (envOfC qual scope s.heap.objs.size f cd::outer):=I.stack;have j:∀env∈(envOfC qual scope s.heap.objs.size f cd::outer),∀b,env.frame=b3 b->b∈SX (envOfC qual scope s.heap.objs.size f cd::outer):=λenv p b k=>Kn.mpr ⟨env,p,k⟩;have y:Dc a b4 s'.heap:=by obtain⟨t,e,_⟩:=M.there;exact Dc.of e
 refine JH (KD.leave _ _) y (wpAny_leaves_madeW (base:=W.hideAll h (SX (envOfC qual scope s.heap.objs.size f cd::outer))) (h:=h) (I.ok.frames.trans rfl) rfl (λb o q=>W.of_hideAll _ q) (W.funFrames_hide i j) M λh' t v _ _ m l=>?_);have c:h.UpToSlots h':=(Tf M.keeps).trans m;exact lS (s':={s' with heap:=h}) (g:=h) (d:=s'.drawn) (tk:=s'.toks) l I (λb o q _=>I.base.there b o q (λz=>nomatch z)) v c (λb o e k=>⟨o,e,Ob _ e k⟩) (λb u e=>by obtain⟨o,q⟩:=(I.hok b u e).alive;exact⟨o,q,Ob _ q λz=>by have:=I.stkFree b z;rw[e]at this;cases this⟩) (r C n)
end
def BR{K:Ah}{h:Uk}{C:Ub}{c:List Ua}{f:String}(X:K.In h)(q:W.excIn K C c f=ba):∃bm N nm q bs hdct sn sub ab col dd k0 k1 k2 k3 k5 mN,h.get? C=b3 (excClassObj nm q C N bs bm hdct sn sub ab col dd k0 k1 k2 k3 k5 f)/\h.Ns N mN/\mN "__init__"=b4/\OwnTail h c bm:=by
 unfold W.excIn at q;split at q
 ·rename_i dd cd d l
  split at q
  ·rename_i o bm k0 k1 k2 k3 n k5 i g
   simp only[Af,beq_iff_eq,Bool.not_eq_true']at q;obtain⟨⟨⟨⟨⟨rfl,rfl⟩,e⟩,k⟩,a⟩,b⟩:=q;obtain⟨nm,bs,mro,ns,j,hd,sn,sub,ab,col,m⟩:=cd;dsimp only at i e a b;subst i e;obtain⟨d⟩:=d;simp only at g;subst g;exact⟨bm,ns,nm,j,bs,hd,sn,sub,ab,col,dd,k0,k1,k2,k3,k5,_,X _ _ l,.of_isNs (W.isNs_of_in X a),W.nsMap_none_of_in X a b,W.tail_of_in X k⟩
  ·cases q
 ·cases q
abbrev Xw:=Ue×Option (Ue×c6)
abbrev VZ:=Ev->Option (Xw×Ev)
noncomputable def Pay(K:Ah)(N:Ub->Prop)(H:Hp):Option Ub->Option (Ue×c6)->Prop
 |none,b4=>True
 |some D,b3 (n,d)=>∃v,H D=b3 (.xd [(n,v)])/\bV K N H N v d
 |_,_=>False
def Pay.mono{K:Ah}{N N':Ub->Prop}{H:Hp}{p:Option Ub}{y:Option (Ue×c6)}(h:Pay K N H p y)(b:∀a,N' a->N a):Pay K N' H p y:=by
 unfold Pay at h⊢;split at h
 ·trivial
 ·obtain⟨v,e,r⟩:=h
  exact⟨v,e,r.mono b b⟩
 ·exact h
def TZ(R:Ue->Option Ub->St->Hp->Prop)(K:Ah)(ml:List Nat)(z:VZ)(σ:St)(H:Hp):Prop:=∃B O δ x δ',a7 K ml B O H σ δ/\z δ=b3 (x,δ')/\∀a H' b p,a7 K ml B b H' a δ'->Pay K (Nn B b) H' p x.2->R x.1 p a H'
abbrev ZE(R:Ue->Option Ub->St->Hp->Prop)(K:Ah)(ml:List Nat)(z:VZ):TE:=λσ H _=>TZ R K ml z σ H
abbrev ZS(R:Ue->Option Ub->St->Hp->Prop)(K:Ah)(ml:List Nat)(z:VZ):TS:=λ_ σ H=>TZ R K ml z σ H
section
variable{X:Cx}{K:Ah}{ml:List Nat}{e a b c:Uh}{es:List Uh}{pa ta ia pb tb ib pc tc ic pu bt bi ps bs:Bool}{fa fb fc f:VF}{B B':Bs}{O:Nat->Option Ub}{H H1 H':Hp}{σ:St}{δ δ':Ev}{v:V}{d:c6}{pos:Pos}{st:Um}{rest:List Um}{g g':VS}{z z':VZ}{R:Ue->Option Ub->St->Hp->Prop}
def zNo:VZ:=λ_=>b4
def GI{a:List Um}:WU X a (ZS R K ml zNo):=λ_ _ _ _ _ _ h=>by obtain⟨_,_,_,_,_,_,q,_⟩:=h;cases q
def CU(z z':VZ):VZ:=λδ=>match z δ with
 |some r=>b3 r
 |none=>z' δ
def lG(h:TZ R K ml (CU z z') σ H):TZ R K ml z σ H∨TZ R K ml z' σ H:=by
 obtain⟨B,O,δ,x,δ',S,q,k⟩:=h;unfold CU at q;cases h1:z δ with
 |some r=>rw[h1]at q;exact .inl ⟨B,O,δ,x,δ',S,h1.trans q,k⟩
 |none=>rw[h1]at q;exact .inr ⟨B,O,δ,x,δ',S,q,k⟩
def jO{a:List Um}(h1:WU X a (ZS R K ml z))(h2:WU X a (ZS R K ml z')):WU X a (ZS R K ml (CU z z')):=λaa s σ H D I h=>
 (lG h).elim (h1 aa s σ H D I) (h2 aa s σ H D I)
noncomputable def zSeq(g:VS)(z:VZ):VZ:=λδ=>match g δ with
 |some (.nx δ')=>z δ'
 |_=>b4
def lX(h1:PS X st (WO K ml g))(h2:WU X rest (ZS R K ml z)):WU X (st::rest) (ZS R K ml (zSeq g z)):=(RD h1 h2).imp λD σ H q0=>by
 obtain⟨B,O,δ,x,δ',S,q,k⟩:=q0;unfold zSeq at q;split at q
 ·rename_i δ1 b
  exact⟨B,O,δ,.nx δ1,S,b,λa H' d c=>⟨B,d,δ1,x,δ',c,q,k⟩⟩
 ·cases q
def W5(h:PS X st (ZS R K ml z)):WU X (st::rest) (ZS R K ml z):=(RD h B0).imp λ_ _ _ h=>h
def zIf(t:VB)(z z':VZ):VZ:=λδ=>(t δ).bind λp=>if p.1=ba then z p.2 else z' p.2
def Ux{x y:List Um}{t:VB}(d:PT X c (TB K ml pc t))(f:WU X x (ZS R K ml z))(e:WU X y (ZS R K ml z')):PS X (.If c x y pos) (ZS R K ml (zIf t z z')):=(Xe d f e).imp λD σ H q0=>by
 obtain⟨B,O,δ,x,δ',S,q,k⟩:=q0;unfold zIf at q;cases h1:t δ with
 |none=>rw[h1]at q;cases q
 |some p=>
  obtain⟨a,δ1⟩:=p;rw[h1]at q;refine⟨B,O,δ,a,δ1,S,h1,λH1 b=>?_⟩;cases a with
  |true=>exact MT ⟨B,O,δ1,x,δ',b.sta,q,k⟩
  |false=>exact MS ⟨B,O,δ1,x,δ',b.sta,q,k⟩
def dL{t:VB}(f:PT X c (TB K ml pc t))(h:PE X a (ZE R K ml z))(g:PE X b (ZE R K ml z')):PE X (.IfExp c a b pos) (ZE R K ml (zIf t z z')):=(HS f h g).imp λσ H Q q0=>by
 obtain⟨B,O,δ,x,δ',S,q,k⟩:=q0;unfold zIf at q;cases h1:t δ with
 |none=>rw[h1]at q;cases q
 |some p=>
  obtain⟨d,δ1⟩:=p;rw[h1]at q;refine⟨B,O,δ,d,δ1,S,h1,λH1 e=>?_⟩;cases d with
  |true=>exact MT ⟨B,O,δ1,x,δ',e.sta,q,k⟩
  |false=>exact MS ⟨B,O,δ1,x,δ',e.sta,q,k⟩
def oB(h:PE X e (ZE R K ml z)):PS X (.Return (b3 e) pos) (ZS R K ml z):=(FY h).imp λ_ _ _ h=>h
def OG{x:Ue}{y ae c:Pos}{t:Ue}{j:Nat}(L:X.K=K)(hz:RzM X R)(hc:X.calm=ba)(J:Gl X x)(A:∃C,XE K x C/\X.mg x=b3 (.ref C))(g:(x==("__debug__":Ue))=bb:=by decide)(d:(Fa ae (Uc [.Constant (.str t) j c] X.env)).any (·.1)=bb:=by rfl):PS X (.Raise (b3 (.Call (.Name x y) [.Constant (.str t) j c] [] ae)) b4 pos) (ZS R K ml λδ=>b3 ((x,b4),δ)):=by intro aa s σ H D I h;obtain⟨B,O,δ,M,δ',S,q,k⟩:=h;cases q;subst L;obtain⟨C,n,G⟩:=A;obtain⟨bm,N,nm,q,bs,hdct,sn,sub,ab,col,dd,k0,k1,k2,k3,k5,mN,w,v,u,m⟩:=BR I.ok.mod.kin n.exc;refine wpAny_Raise_call_subT (C:=C) (nm:=nm) (q:=q) (N:=N) (bs:=bs) (bm:=bm) (hdct:=hdct) (sn:=sn) (sub:=sub) (ab:=ab) (col:=col) (dd:=dd) (k0:=k0) (k1:=k1) (k2:=k2) (k3:=k3) (k5:=k5) (mN:=mN) PySem.F.excBase_ValueError (m.hasType (by decide)) (I.ok.hd hc) d u (T2 I J G ⟨rfl,?_⟩ g);have pa:PA X [.Constant (.str t) j c] _:=b8 Wn aH;refine Fy (Cd (pa ae aa s σ H (λvs H'=>H'=H/\vs.length=1) I ⟨rfl,rfl⟩) (λi l E=>?_) λ_ _ z=>z);obtain⟨vs,H2,p,r,rfl,hl⟩:=E;have kp:∀b o,X.base.get? b=b3 o->l.heap.get? b=b3 o:=λb o e=>(p.bs b o e).1;refine⟨rfl,?_,kp _ _ w,v.keeps kp,m.keeps kp,λh' a f=>hz aa x C a i σ H2 l.heap _ n.xc p f (k σ H2 O b4 S trivial)⟩;show i.length<=sizeLine;rw[<-r.length,hl];decide
def jB{x:Ue}{m:Nat}{g:List Ue}{sp:Sp}{k:Ub}{fd:Dw}{p':Pos}{t:TA}{CX:CXT}(F:aI X.prog X.w X.K X.mg X.base CX m k fd g sp)(o:Y0 m X.A)(q:Gl X x)(p:X.mg x=b3 (.ref k))(hk:Ja X.K (.ref k)=ba)(d:QQ X.K fd g [])(y:PA X (e::es) t)(j:(x==("__debug__":Ue))=bb:=by decide)(v:Uc (e::es) X.env=(bb,eval e X.env)::Uc es X.env:=by rfl)(i:(Fa pos (Uc es X.env)).any (·.1)=bb:=by rfl):PE X (.Call (.Name x p') (e::es) [] pos) (λσ H Q=>t σ H λvs H1=>∃E,(∀(aa:List (Ub×Ul)) (s:Ae) (f:Ua) (s':Ae),cM X aa σ H1 s->CX X.stack H1 s E f s'->X.xe f s')/\sp vs H1 Q E):=by
 intro aa s σ H Q I h;refine Fd (T2 I q p (Qb (h₀:=X.base) I.ok.mod.kin hk (ZT (y pos aa s σ H _ I h) λc s1 a=>?_) v i) j);obtain⟨vs,H1,b,l,E,z,n⟩:=a;have hl:c.length=g.length:=by rw[<-l.length];exact F.len _ _ _ _ n
 have d:=d s1 c b.kIn (by simpa using hl);rw[Em]at d;refine⟨b.kIn,Sg (Ko (F.run X.A X.stack s1 H1 ⟨c,[]⟩ c vs Q E o b.env0 d l n) λr s' a=>?_)⟩;cases r with
 |error f=>exact z aa s1 f s' b a
 |ok B=>cases B with
  |ret u=>exact b.after a
  |next=>cases a
  |brk=>cases a
  |cont=>cases a
def spX(K:Ah)(n:Nat)(a:List c6->Option Xw):Sp:=λvs H _ E=>∃(Z:Ub->Prop) (ds:List c6) (x:Xw),ds.length=n/\Uy K [] Z H vs ds/\a ds=b3 x/\∀C H' p,XC K x.1 C->bH H H'->Pay K Z H' p x.2->E (.ref C) p H'
structure DefX(P:Aw)(w:Uj)(K:Ah)(mg:Ue->Option Ua)(base:Uk)(x:Ue)(k:Nat)(ps:List Ue)(XF:List c6->Option Xw)(f:Ub):Prop where
 at_:mg x=b3 (.ref f)
 ok:∃fd,aI P w K mg base (CXv P w) k f fd ps (spX K ps.length XF)/\QQ K fd ps []
 kp:Ja K (.ref f)=ba
noncomputable def VR:List AV->Option (List c6)
 |[]=>b3 []
 |.d d::as=>(VR as).map λds=>d::ds
 |.o _::_=>b4
 |.p _ _::_=>b4
theorem LV{N:Ub->Prop}:∀{vs:List V}{as:List AV}{ds:List c6},YC K N H σ vs as->VR as=b3 ds->vs.length=ds.length/\∀(i:Nat) (d:c6),ds[i]?=b3 d->∃v,vs[i]?=b3 v/\bV K N H N v d
 |_,_,_,.nil,h=>by cases h;exact⟨rfl,λi d e=>by simp at e⟩
 | _,.d d0 :: as,_,.d r t,h => by
  unfold VR at h;cases e:VR as with
  |none=>rw[e]at h;cases h
  |some ds=>
   rw[e]at h;cases h;obtain⟨h1,h2⟩:=LV t e;refine⟨by simp[h1],λi d q=>?_⟩;cases i with
   |zero=>simp at q;subst q;exact⟨_,rfl,r⟩
   |succ i=>exact h2 i d (by simpa using q)
 |_,.o _::_,_,.o _ _,h=>by cases h
 |_,.p _ _::_,_,.p _ _ _ _,h=>by cases h
def MK(n:Nat)(a:List c6->Option Xw)(fs:T9):VZ:=λδ=>(fs δ).bind λp=>(VR p.1).bind λds=>if ds.length=n then(a ds).map λx=>(x,p.2)else b4
def Zc{fs:T9}{m:List c6->Option Xw}{n:Nat}{Q:VK}(hz:RzF X R)(M:X.K=K)(hex:X.ex=[])(h:TZ R K ml (MK n m fs) σ H):C0 K ml ps fs σ H λvs H1=>∃E,(∀(aa:List (Ub×Ul)) (s:Ae) (f:Ua) (s':Ae),cM X aa σ H1 s->CXv X.prog X.w X.stack H1 s E f s'->X.xe f s')/\spX K n m vs H1 Q E:=by
 subst M;obtain⟨B,O,δ,x,δ',S,q,k⟩:=h;unfold MK at q;cases h1:fs δ with
 |none=>rw[h1]at q;cases q
 |some p=>
  obtain⟨as,δ1⟩:=p;rw[h1,Ar]at q;cases h2:VR as with
  |none=>rw[h2]at q;cases q
  |some ds=>
   rw[h2,Ar]at q;split at q
   ·rename_i D
    cases l:m ds with
    |none=>rw[l]at q;cases q
    |some U=>
     rw[l]at q;cases q;refine⟨B,O,δ,as,δ1,S,h1,λvs H1 G=>⟨λv p H2=>∃x C,v=.ref C/\XC X.K x C/\R x p σ H2,λaa s f s' I hc=>?_,?_⟩⟩
     ·obtain⟨C,p,H2,os,c,un,ok,F,t,V,u,g,L⟩:=hc
      cases u;exact hz aa t C p σ H2 f s' s.heap g (I.call' os un ok c λb J=>nomatch J) F (I.low hex) L
     ·obtain⟨P,N⟩:=LV G.rep h2
      have o:∀a,Zp (Nn B O) [] vs a->Nn B O a:=λa z=>z.elim id λ⟨i,hi,_⟩=>nomatch hi;refine⟨Nn B O,ds,x,D,⟨P,λi hi=>(nomatch hi),λi d _ e=>?_,λi d hi=>(nomatch hi),λi j a hi=>(nomatch hi),λa z=>G.sta.nin z⟩,l,λC H2 p g y A=>⟨x.1,C,rfl,g,k σ H2 O p (G.sta.same y) A⟩⟩;obtain⟨v,T,r⟩:=N i d e;exact⟨v,T,r.mono o o⟩
   ·cases q
def EX{x:Ue}{d j:Nat}{c:List Ue}{f:List c6->Option Xw}{n:Ub}{p':Pos}{fs:T9}(hz:RzF X R)(m:X.K=K)(D:DefX X.prog X.w K X.mg X.base x d c f n)(g:Y0 j X.A)(hk:d<=j)(i:Gl X x)(hex:X.ex=[])(l:PA X (e::es) (C0 K ml ps fs))(b:(x==("__debug__":Ue))=bb:=by decide)(k:Uc (e::es) X.env=(bb,eval e X.env)::Uc es X.env:=by rfl)(a:(Fa pos (Uc es X.env)).any (·.1)=bb:=by rfl):PE X (.Call (.Name x p') (e::es) [] pos) (ZE R K ml (MK c.length f fs)):=by obtain⟨fd,F,o⟩:=D.ok;subst m;exact(jB F (g.mono hk) i D.at_ D.kp o l b k a).imp λσ H Q h=>Zc hz rfl hex h
end
noncomputable def CA(n:Nat)(z:VZ):List c6->Option Xw:=λds=>(z (bG [] n ds)).map (·.1)
def X1.okX{P:Aw}{w:Uj}{K:Ah}{mg:Ue->Option Ua}{base:Uk}{x qual:Ue}{st:Um}{f:Ub}{fd:Dw}{N ps:List Ue}{k:Nat}{z:VZ}(F:X1 K x qual st f fd)(S:cD N ps (cV st))(g:ps.length<=N.length)(I:∀(c:Ua) (A:Cb) (outer:List Env) (s:Ae) (H:Hp) (E:XK),Y0 k (A.deeper (envOfC qual (cV st) s.heap.objs.size f c))->WU (QZ (CXv P w) P w K mg base N qual (cV st) f c A outer s H E) (aQ st) (ZS (rE K E) K [] z)):aI P w K mg base (CXv P w) (k+1) f fd ps (spX K ps.length (CA N.length z)):=by
 obtain⟨O,od,kV,doc,M,R,c,ct,r,rfl,u,l⟩:=F.ex;refine Yo u l S (λvs H Q E h=>?_) λA outer s H vs Q E v e=>⟨_,I c A outer s H E v,?_⟩
 ·obtain⟨Z,ds,x,j,AV,_⟩:=h
  rw[AV.len,j]
 ·obtain⟨Z,ds,x,j,AV,d,D⟩:=e
  obtain⟨t,B,J⟩:=L8 (N:=N) AV (by rw[j];exact g);unfold CA at d;cases h1:z (bG [] N.length ds)with
  |none=>rw[h1]at d;cases d
  |some p=>
   obtain⟨n,δ'⟩:=p;rw[h1]at d;cases d;exact⟨_,t,_,n,δ',J,h1,λm H' T p L y C G=>D C H' p G (λb o q=>L.frm b o q λ⟨i,hi,_⟩=>nomatch hi) (y.mono λa z=>.inl z)⟩
end L2
namespace L2
open PySem PySem.Spec PyProof.Rows PySem.W PySem.Calls PySem.Builtin PySem.Builtin.ObjectAttr PySem.Builtin.Getset_descriptor
section
variable{prog:Aw}{w:Uj}{A:Cb}{E:Ua->Ae->Prop}{s:Ae}{K:Frag}{x C:Ub}{o:Ul}{R:Result->Ae->Prop}
def qm{a:Ua}(X:K.In s.heap)(b:s.heap.get? x=b3 o)(hc:o.cls=.ref C)(F:XA K C)(h:R (.ok (.ret (.ref C))) s):Jr (Uf prog w) A (.call (.builtin "getset_descriptor.__get__") ⟨[.builtin "object.__class__",.ref x,a],[]⟩) R s:=by
 obtain⟨c,g,d,t,os⟩:=s;have f:Looks (Uf prog w) c (Qd (.ref x)) (.ref C):=hc▸(Qy b).andThen .now;have e:=looks_mroIn (M:=Uf prog w) X F.mro;refine Nd KF.slot_gs.plain KF.entry_gs (KF.slot_gs.check _ _ _ _ _ _ _ _ KF.type_class (KF.args_gs _ _ _) ?_);unfold Fu.«getset_descriptor.__get__» descrGet;rw[dga_obj];refine Ac (Ai ?_);unfold descrGetter descrCheckInstance descrNameAndClass Sj;simp only[KF.owner_class];repeat lk
 refine⟨Code.quiet_builtin _ (by decide+kernel),Mu KF.entry_class ?_⟩;unfold Fu.«object.__class__» shownTypeOf;repeat lk
 exact h
def A2{tk:Uv}{Q:Fin->Ae->Prop}(X:K.In s.heap)(b:s.heap.get? x=b3 o)(hc:o.cls=.ref C)(F:XA K C)(h:Q (.done (.ret (.ref C))) s):Ud (Uf prog w) A (Fu.«object.__getattribute__» ⟨[.ref x,.str "__class__" tk],[]⟩) Q E s:=by
 obtain⟨a,g,c,t,os⟩:=s;have j:Looks (Uf prog w) a (Qd (.ref x)) (.ref C):=hc▸(Qy b).andThen .now;have i:=Qh (M:=Uf prog w) X F.cls;have f:Looks (Uf prog w) a (getOf (b3 (.builtin "object.__class__"))) (b3 (.builtin "getset_descriptor.__get__")):=looks_specialIn X F.get;have e:=looks_takesIn (M:=Uf prog w) X F.tak;have d:Looks (Uf prog w) a (find (.ref x) (.ref C) "__class__") (.bind (.builtin "getset_descriptor.__get__") (.builtin "object.__class__")):=
  i.andThen (f.andThen ((show Looks (Uf prog w) a (dataDescriptor? (b3 (.builtin "object.__class__")) (b3 (.builtin "getset_descriptor.__get__"))) (b3 (.builtin "getset_descriptor.__get__",.builtin "object.__class__")) from e.andThen .now).andThen (Looks.tag .now)))
 unfold Fu.«object.__getattribute__»;repeat (any_goals (first|assumption|with_reducible refine Looks.at j ?_|with_reducible refine Looks.at d ?_|wp_step))
 refine qm (s:=⟨a,g,c,t,os⟩) X b hc F ?_;exact Ai h
def oR{tk:Uv}(X:K.In s.heap)(b:s.heap.get? x=b3 o)(hc:o.cls=.ref C)(F:XA K C)(h:R (.ok (.ret (.ref C))) s):Jr (Uf prog w) A (.call (.builtin "BaseException.__getattribute__") ⟨[.ref x,.str "__class__" tk],[]⟩) R s:=by
 obtain⟨a,g,c,t,os⟩:=s;have f:Looks (Uf prog w) a (Qd (.ref x)) (.ref C):=hc▸(Qy b).andThen .now;have e:=looks_subIn (M:=Uf prog w) X F.sub;have hk:builtinKind "BaseException.__getattribute__"=b3 .slot:=by decide+kernel
 have d:splitId "BaseException.__getattribute__"=b3 ("BaseException","__getattribute__"):=by decide+kernel
 have i:=PySem.F.args_bexc_ga (.ref x) (.str "__class__" tk);refine Nd PySem.F.excAttr_ValueError.ga.plain PySem.F.entry_bexc_ga (Cd (Q:=λ_ s'=>s'=⟨a,g,c,t,os⟩) ?_ (λ_ s' z=>?_) λ_ _ z=>z)
 ·simp only[checkBuiltinCall,hk,d]
  unfold Sj;repeat (any_goals (first|rfl|assumption|with_reducible refine Looks.at f ?_|with_reducible refine Looks.at e ?_|wp_step))
 ·subst z
  refine A2 (s:=⟨a,g,c,t,os⟩) X b hc F ?_;exact h
def A1{Q:Option Ua->Ae->Prop}(X:K.In s.heap)(a:s.heap.get? x=b3 o)(hc:o.cls=.ref C)(F:XA K C)(h:Q (b3 (.ref C)) {s with toks:=s.toks+1}):Ud (Uf prog w) A (Tc (.ref x) "__class__") Q E s:=by
 obtain⟨b,g,d,t,os⟩:=s;have c:Looks (Uf prog w) b (Qd (.ref x)) (.ref C):=hc▸(Qy a).andThen .now;have f:=Qh (M:=Uf prog w) X F.ga;have e:=Qh (M:=Uf prog w) X F.no;have fb:=PySem.F.excAttr_ValueError.ga.bind (.ref x);unfold Tc getAttrBy? getAttrBy;refine Ac (wpAny_mkText (Ac (Lp (Br (Ac (c.at (Ac (f.at ?_))))))));show Ud _ _ (getAttrByItsOwn _ _ _ _ _ _) _ _ _;unfold getAttrByItsOwn hookBefore callGetattribute boundAndCalled;repeat (any_goals (first|assumption|with_reducible refine Looks.at c ?_|with_reducible refine Looks.at e ?_|wp_step))
 refine oR (s:=⟨b,g,d,t+1,os⟩) X a hc F ?_;refine handed_on rfl ?_;first|exact h|exact Ai h|exact Ai (Ai h)
def G3(F:XA K C)(hdct:(clsIn K C).isSome=ba):KitX K (.ref x) (.ref C) (λh=>∃o,h.get? x=b3 o/\o.cls=.ref C) where
 ty:=λM h _ p=>by obtain⟨o,h1,h2⟩:=p;exact h2▸(Qy h1).andThen .now
 it:=λ_ _ X _=>by
  unfold clsIn at hdct;split at hdct
  ·rename_i b
   intro i f g s' k q;unfold isType loadHead;exact Ac (wpAny_loadPart (k _ _ (X _ _ b)) (Ai q))
  ·cases hdct
 ne:=λh c dd its n d X a=>by
  refine Bool.eq_false_iff.mpr λq=>?_;have e:C=c:=Value.ref.inj (beq_iff_eq.mp q);subst e;unfold clsIn at hdct;split at hdct
  ·rename_i b
   have z:=(X _ _ b).symm.trans a;cases z
  ·cases hdct
 ca:=λX p k=>by obtain⟨o,h1,h2⟩:=p;exact A1 X h1 h2 F k
end
end L2
namespace L2
open PySem PySem.Spec PyProof.Rows
structure YD(k:Nat)(A:Cb):Prop where
 dp:A.depth+3*k+5<Ku
 un:A.units+16*k+200<cLine
def Y0.h{k:Nat}{A:Cb}(r:Y0 k A):YD k A:=⟨r.dp,r.un⟩
def YD.mono{j k:Nat}{A:Cb}(r:YD k A)(h:j<=k):YD j A:=⟨by have:=r.dp;lia,by have:=r.un;lia⟩
def YD.deeper{k:Nat}{A:Cb}(r:YD (k+1) A)(env:Env):YD k (A.deeper env):=
 ⟨by have:=r.dp;show A.depth+1+3*k+5<_;lia,by have:=r.un;show A.units+3+16*k+200<_;lia⟩
def YD.units{k:Nat}{A:Cb}(r:YD k A):A.units+64<cLine:=by have:=r.un;lia
def YD.unit{k:Nat}{A:Cb}(r:YD k A):A.units+1<cLine:=by have:=r.un;lia
def cxH(P:Aw)(w:Uj)(K:Ah)(mg:Ue->Option Ua)(base:Uk)(N:List Ue)(qual:Ue)(scope:Ur)(f:Ub)(cd:Ua)(A:Cb)(outer:List Env)(s:Ae)(H:Hp):Cx:=
 {QZ CX0 P w K mg base N qual scope f cd A outer s H E0 with calm:=bb,xe:=λ_ _=>False}
structure FnH(P:Aw)(w:Uj)(K:Ah)(mg:Ue->Option Ua)(base:Uk)(k:Nat)(f:Ub)(fd:Dw)(ps:List Ue)(sp:Sp):Prop where
 len:∀vs H Q E,sp vs H Q E->vs.length=ps.length
 run:∀(A:Cb) (outer:List Env) (s:Ae) (H:Hp) (args:Args) (us:List Ua) (vs:List V) (Q:VK),YD k A->AA P w K mg base A outer s H->Pc s fd args (ps.zip us)->bX vs us->sp vs H Q E0->
  Jr (Uf P w) A (.call (.ref f) args) (CR CX0 outer P w H s Q E0) s
def cM.around{X:Cx}{a:Cb}{aa:List (Ub×Ul)}{σ:St}{H:Hp}{s:Ae}{xe:Ua->Ae->Prop}(I:cM X aa σ H s)(b:a.frames=X.A.frames):cM {X with A:=a,calm:=bb,xe:=xe} aa σ H s:=
 ⟨⟨I.ok.mod,I.ok.kind,I.ok.glob,I.ok.blt,I.ok.above,I.ok.inj,I.ok.has,I.ok.cab,λz=>(nomatch z),b.trans I.ok.frames,I.ok.stk,I.ok.exf,I.ok.bs,I.ok.bsz,I.ok.noex,I.ok.exfs,I.ok.funs,I.ok.frf⟩,I.os,I.bare,I.base,I.loc,I.cell,I.free,I.freeC,I.pin,I.hok,I.len⟩
def cM.back{X:Cx}{a:Cb}{aa:List (Ub×Ul)}{σ:St}{H:Hp}{s:Ae}{xe:Ua->Ae->Prop}(ok:X.Ok)(I:cM {X with A:=a,calm:=bb,xe:=xe} aa σ H s):cM X aa σ H s:=
 ⟨ok,I.os,I.bare,I.base,I.loc,I.cell,I.free,I.freeC,I.pin,I.hok,I.len⟩
def X1.okH{P:Aw}{w:Uj}{K:Ah}{mg:Ue->Option Ua}{base:Uk}{x qual:Ue}{st:Um}{f:Ub}{fd:Dw}{N ps:List Ue}{k:Nat}{sp:Sp}(F:X1 K x qual st f fd)(S:cD N ps (cV st))(len:∀vs H Q E,sp vs H Q E->vs.length=ps.length)(Z:∀(a:Ua) (A:Cb) (outer:List Env) (s:Ae) (H:Hp) (vs:List V) (Q:VK),YD k (A.deeper (envOfC qual (cV st) s.heap.objs.size f a))->sp vs H Q E0->∃t,WU (cxH P w K mg base N qual (cV st) f a A outer s H) (aQ st) t/\t {nx:=λ_ H'=>Q .non H',rt:=Q} (start N vs) H):FnH P w K mg base (k+1) f fd ps sp:=by
 obtain⟨oc,od,kV,doc,pm,an,a,ct,C,rfl,D,m⟩:=F.ex;refine⟨len,λA outer s H args B vs Q p c T r h=>?_⟩;have hl:=len _ _ _ _ h;have z:K.In s.heap:=c.mod.kin.keeps λb o e=>(c.bs b o e).1;have l:s.heap.NoLimit:=c.mod.nolimit.keeps λb o e=>(c.bs b o e).1;have U:∀y∈ps.zip B,(cV st).names.lookup y.1=b3 .local∨((cV st).names.lookup y.1=b3 .cell/\((Up (s.heap.objs.size+1) (cV st).names []).lookup y.1).isSome=ba):=λ⟨n,v⟩ L=>by
  rcases S.par n (Js L).1 with q|q
  ·exact .inl q
  ·exact .inr ⟨q,Lz _ _ _ (.inl q)⟩
 have G:A.depth<Ku:=by have:=p.dp;lia
 refine Mm G (z _ _ D) rfl S.co S.gen rfl (W.codeRec_of z m) (T _ _ _ _ ?_);refine Kh S.kind U λenv R s1 x=>?_;subst R;refine⟨l.keeps x.toInCall.keep,codeAny_func ?_⟩;obtain⟨t,M,O⟩:=Z a A outer s H vs Q (p.deeper _) h;have Y:AA P w K mg base {A with handled:=b4} outer s H:=⟨c.frames,c.mod,c.bs,c.bsz,c.funs,c.frf,c.hok,c.bare⟩;have I0:cM (QZ CX0 P w K mg base N qual (cV st) f a {A with handled:=b4} outer s H E0) [] (start N vs) H s1:=LH S rfl Y hl r x;have I:cM (cxH P w K mg base N qual (cV st) f a A outer s H) [] (start N vs) H s1:=I0.around rfl;refine Cd (M [] s1 (start N vs) H _ I O) (λX s' g=>?_) λe s' g=>(show False from g).elim;have i:∀{d:St}{H':Hp}{v:V}{u:Ua},cM (cxH P w K mg base N qual (cV st) f a A outer s H) [] d H' s'->b7 v u->Q v H'->CE outer P w H s Q u s':=
  λ{d H' v u} J j q=>⟨v,H',J.os,J.bare,J.base,J.hok,j,q⟩
 cases X with
 |ret u=>
  obtain⟨v,d,H',J,j,q⟩:=g;exact i J j q
 |next=>
  obtain⟨d,H',J,q⟩:=g;exact i (v:=V.non) (u:=Value.none) J rfl q
 |brk=>
  obtain⟨_,_,_,q⟩:=g;cases q
 |cont=>
  obtain⟨_,_,_,q⟩:=g;cases q
structure DefH(P:Aw)(w:Uj)(K:Ah)(mg:Ue->Option Ua)(base:Uk)(x:Ue)(k:Nat)(ps:List Ue)(sp:Sp)(f:Ub):Prop where
 at_:mg x=b3 (.ref f)
 ok:∃fd,FnH P w K mg base k f fd ps sp/\QQ K fd ps []
 kp:Ja K (.ref f)=ba
section
variable{X:Cx}{K:Ah}{ml:List Nat}{e a b c:Uh}{es:List Uh}{ps:Bool}{pos:Pos}
def pG{x:Ue}{l j n:Nat}{k:List Ue}{mF:List Nat}{F:bW}{C:Ub}{p':Pos}{fs:T9}(D:DefH X.prog X.w K X.mg X.base x l k (spV K mF n F) C)(p:YD j X.A)(y:PA X (e::es) (C0 K ml ps fs))(z:X.K=K:=by rfl)(hk:l<=j:=by decide)(q:Gl X x:=by rfl)(g:(x==("__debug__":Ue))=bb:=by decide)(v:Uc (e::es) X.env=(bb,eval e X.env)::Uc es X.env:=by rfl)(f:(Fa pos (Uc es X.env)).any (·.1)=bb:=by rfl):PE X (.Call (.Name x p') (e::es) [] pos) (TV K ml (ps&&mF.isEmpty) ba ba (cP n mF F fs)):=by
 subst z;obtain⟨fd,o,E⟩:=D.ok;refine PE.imp (t:=EO (spV X.K mF n F) [] E0 (C0 X.K ml ps fs)) (λaa s σ H Q I h=>?_) λ_ _ _ h=>OY h;refine Fd (T2 I q D.at_ (Qb (h₀:=X.base) I.ok.mod.kin D.kp (ZT (y pos aa s σ H _ I h) λb s1 a=>?_) v f) g);obtain⟨vs,H1,c,i,d⟩:=a;rw[Em]at d;have hl:b.length=k.length:=by rw[<-i.length];exact o.len _ _ _ _ d
 have m:=E s1 b c.kIn (by simpa using hl);rw[Em]at m;refine⟨c.kIn,Sg (Ko (o.run X.A X.stack s1 H1 ⟨b,[]⟩ b vs Q (p.mono hk) c.env0 m i d) λr s' a=>?_)⟩;cases r with
 |error G=>cases a
 |ok B=>cases B with
  |ret u=>exact c.after a
  |next=>cases a
  |brk=>cases a
  |cont=>cases a
end
def X1.okVH{P:Aw}{w:Uj}{K:Ah}{mg:Ue->Option Ua}{base:Uk}{x qual:Ue}{st:Um}{f:Ub}{fd:Dw}{N ps:List Ue}{k:Nat}{ml:List Nat}{g:VS}(F:X1 K x qual st f fd)(S:cD N ps (cV st))(b:ps.length<=N.length)(e:∀(a:Ua) (A:Cb) (outer:List Env) (s:Ae) (H:Hp),YD k (A.deeper (envOfC qual (cV st) s.heap.objs.size f a))->WU (cxH P w K mg base N qual (cV st) f a A outer s H) (aQ st) (WO K ml g)):FnH P w K mg base (k+1) f fd ps (spV K ml ps.length (Z9 N.length ml g)):=by refine F.okH S (λvs H Q E h=>?_) (λa A outer s H vs Q c h=>⟨_,e a A outer s H c,Vs (E:=E0) b h⟩);obtain⟨Z,ds,r,os,d,AV,_⟩:=h;rw[AV.len,d]
structure XQ(K:Ah)(C Cp:Ub)(r:Bool):Prop where
 ty:W.typeIn K (.ref Cp)=b3 (.type "type")
 cls:(Te K Cp).isSome=ba
 base:Ta K (.ref Cp) (.type "BaseException")=b3 ba
 sub:Ta K (.ref C) (.ref Cp)=b3 r
def XP.q{K:Ah}{C Cp:Ub}(h:XP K C Cp):XQ K C Cp ba:=⟨h.ty,h.cls,h.base,h.sub⟩
def A3{r:Bool}{prog:Aw}{w:Uj}{A:Cb}{E:Ua->Ae->Prop}{s:Ae}{K:Ah}{x C Cp:Ub}{o:Ul}{Q:Bool->Ae->Prop}(X:K.In s.heap)(b:s.heap.get? x=b3 o)(hc:o.cls=.ref C)(F:XQ K C Cp r)(h:Q r s):Ud (Uf prog w) A (excMatches (.ref x) (.ref Cp)) Q E s:=by
 obtain⟨a,g,m,t,os⟩:=s;cases r
 all_goals
  have l:W.Looks (Uf prog w) a (Qd (.ref x)) (.ref C):=hc▸(W.Looks.ld b).andThen .now;have j:=W.looks_typeIn (M:=Uf prog w) X F.ty;have i:=W.looks_subIn (M:=Uf prog w) X F.base;have e:=W.looks_subIn (M:=Uf prog w) X F.sub;have d:W.Looks (Uf prog w) a (isType (.ref Cp)) ba:=by
   have hd:=F.cls;unfold Te at hd;split at hd
   ·rename_i c
    intro u n p s' k q;unfold isType loadHead;exact Ac (wpAny_loadPart (k _ _ (X _ _ c)) (Ai q))
   ·cases hd
  have f:=tc_notTuple;unfold excMatches isExcClass Sj;repeat (any_goals (first|assumption|with_reducible refine W.Looks.at l ?_|with_reducible refine W.Looks.at j ?_|with_reducible refine W.Looks.at i ?_|with_reducible refine W.Looks.at e ?_|with_reducible refine W.Looks.at d ?_|wp_step))
def excP(a C:Ub):Option Ub->Uk->Prop
 |none=>λh=>CW h a C
 |some D=>λh=>Wq h a C D
section
variable{X:Cx}{aa:List (Ub×Ul)}{σ:St}{H:Hp}{s:Ae}{h':Uk}{a C:Ub}
def cM.track{o:Ul}{vs:Array Ua}{p:Option Ub}(I:cM X aa σ H s)(M:H a=b4)(i:s.heap.get? a=b3 o)(hc:o.cls=.ref C)(hd:o.data=.fields vs)(g:o.dict=p)(K:X.s₀.heap.get? a=b4)(L:∀p∈X.pn++aa,p.1≠a):cM X aa σ (upd H a (.ext (excP a C p))) s:=by
 have w:∀b o,X.s₀.heap.get? b=b3 o->b≠a:=λb o e z=>by rw[z,K]at e;cases e
 have f:∀b u,H b=b3 u->b≠a:=λb u e z=>by rw[z,M]at e;cases e
 refine⟨I.ok,I.os,I.bare,⟨I.base.keep,I.base.slot,λb o e n J=>?_,I.base.there,λb xs e=>?_,λb o u e=>?_,λb ps e=>?_⟩,I.loc,I.cell,?_,λx c e=>?_,λp D=>?_,λb u e=>?_,I.len⟩
 ·rw[cB (w b o e)];exact I.base.free b o e n J
 ·have q:=I.base.tups b xs e
  rw[cB (f b _ q)];exact q
 ·have q:=I.base.frzs b o u e
  rw[cB (f b _ q)];exact q
 ·obtain⟨more,q⟩:=I.base.tbls b ps e
  exact⟨more,by rw[cB (f b _ q)];exact q⟩
 ·obtain⟨m,⟨P,_,_,r,t,_⟩,_⟩:=I.loc
  have:X.env.locals≠a:=λz=>by rw[z,i]at r;cases r;rw[hd]at t;cases t
  rw[cB this];exact I.free
 ·obtain⟨v,O,l,g⟩:=I.cell x c e
  have:c≠a:=λz=>by rw[z,i]at l;cases l;rw[hd]at g;cases g
  rw[cB this];exact I.freeC x c e
 ·obtain⟨e,n,G,F,d⟩:=I.pin p D
  exact⟨e,by rw[cB (L p D)];exact n,G,F,d⟩
 ·by_cases E:b=a
  ·subst E
   rw[cH]at e;cases e;cases p with
   |none=>exact⟨⟨o,vs,i,hc,hd⟩,⟨o,i⟩,λh1 h2 q k=>by obtain⟨j,h,B,A,y⟩:=q;exact⟨j,h,k j B,A,y⟩⟩
   |some Q=>exact⟨⟨o,vs,i,hc,hd,g⟩,⟨o,i⟩,λh1 h2 q k=>by obtain⟨j,h,B,A,y,N⟩:=q;exact⟨j,h,k j B,A,y,N⟩⟩
  ·rw[cB E]at e
   exact(I.hok b u e).stay (λ_ _ _ q=>q) (λc q=>by rw[cB (f c _ q)];exact q) λc xs q=>by rw[cB (f c _ q)];exact q
def cM.unbound{r:Ue->Option Ua}{t':Nat}(I:cM X aa σ H s)(ns:h'.Ns X.env.locals r)(f:Fp X.env.locals s.heap h'):cM X aa (Av X.N.length b4) H {s with heap:=h',toks:=t'}:=by
 have a:∀b o,X.s₀.heap.get? b=b3 o->b≠X.env.locals:=λb o e=>Bb (Az (Ap e) I.ok.above);have g:∀b u,H b=b3 u->b≠X.env.locals:=λb u e z=>by rw[z,I.free]at e;cases e
 refine⟨I.ok,I.os,I.bare,⟨λb o e n j h=>(f.2 b (a b o e)).trans (I.base.keep b o e n j h),λb o e n j h=>?_,I.base.free,λb o e h=>?_,I.base.tups,I.base.frzs,I.base.tbls⟩,⟨r,ns,λi x v _ k _=>?_⟩,λx c e=>?_,I.free,I.freeC,λp y=>?_,λb u e=>?_,by simp⟩
 ·obtain⟨t,l⟩:=I.base.slot b o e n j h
  exact⟨t,(f.2 b (a b o e)).trans l⟩
 ·obtain⟨o',l⟩:=I.base.there b o e h
  exact⟨o',(f.2 b (a b o e)).trans l⟩
 ·rw[Dr]at k
  split at k<;>cases k
 ·obtain⟨v,z⟩:=I.cell x c e
  exact⟨v,z.sameBut f (I.cne x c e)⟩
 ·obtain⟨e,n,m,w,d⟩:=I.pin p y
  exact⟨(f.2 p.1 m).trans e,n,m,w,d⟩
 ·refine (I.hok b u e).stay (λc v hc q => (f.2 c ?_).trans q) (λ_ q => q) λ_ _ q => q
  rcases hc with rfl|hc
  ·exact g _ u e
  ·exact g c _ hc
end
def Cx.Ok.pns{X:Cx}(ok:X.Ok)(pn:List (Ub×Ul))(xe:Ua->Ae->Prop):Cx.Ok {X with pn:=pn,xe:=xe}:=
 ⟨ok.mod,ok.kind,ok.glob,ok.blt,ok.above,ok.inj,ok.has,ok.cab,ok.hd,ok.frames,ok.stk,ok.exf,ok.bs,ok.bsz,ok.noex,ok.exfs,ok.funs,ok.frf⟩
abbrev Cx.hnd(X:Cx)(a:Ub):Cx:={X with A:=X.A.mark (b3 (.ref a)),calm:=bb,xe:=λ_ _=>False}
def FD:Xw->c6
 |(x,b4)=>.exn x
 |(x,b3 (n,d))=>.exr x n d
section
variable{X:Cx}{K:Ah}{ml:List Nat}{pos:Pos}{g k kA:VS}{z:VZ}
def oY{n:Ue}{br:Pos}{b0:Um}{ci:List Um}{i:Nat}{aa:List (Ub×Ul)}{D:M0}{B:Bs}{R:Nat->Option Ub}{δ1 δ2:Ev}{d:c6}{E:Xw}{C a:Ub}{a0:Ua}{p:Option Ub}{c:St}{H2:Hp}{s':Ae}{gh Q S:Uk}(hN:X.N.Nodup)(hi:X.N[i]?=b3 n)(hl:X.env.kindOf n=b3 .local)(him:i∉ml)(Y:X.stack=X.env::X.outer)(hk:∀a,WU (X.hnd a) (b0::ci) (WO X.K ml k))(hx:XC X.K E.1 C)(J':cM X aa c H2 s')(t:Low X aa gh)(fl5:Ks S (X.env::X.outer) a (.ref C) a0 Q)(dc5:Dc a p Q)(U:s'.heap.UpToSlots Q)(c1:∀b o,gh.get? b=b3 o->b∉SX X.stack->∃o',s'.heap.get? b=b3 o'/\S.get? b=b3 o')(c2:∀b u,H2 b=b3 u->∃o,s'.heap.get? b=b3 o/\S.get? b=b3 o)(S1:a7 X.K ml B R H2 c δ1)(s:Pay X.K (Nn B R) H2 p E.2)(h3:k (δ1.set i (.va (FD E)))=b3 (.rt d δ2))(G:Post X.K ml B D (.rt d δ2)):Jr (Uf X.prog X.w) (X.A.mark (b3 (.ref a))) (.handlers (.ref a) [.ExceptHandler b4 (b3 n) (b0::ci) br] X.env) (λr l=>match r with
   |.ok f=>Ud (Uf X.prog X.w) X.A (do Ik X.env n .none;unbindBehindTheSuite X.env n br) (λ_ F=>SP X aa D f F) X.xe l
   |.error x=>cameBackBy (Uf X.prog X.w) X.A X.env X.xe x l) {s' with heap:=Q}:=by
 refine codeAny_handlers_suite_as (JH (KD.flight _ _) dc5 (lands_againW fl5 λh6 g T dc6=>?_));have I6:cM X aa c H2 {s' with heap:=h6}:=J'.flyG t g.1 (U.trans T) c1 c2;obtain⟨oe,vs,_,_,_,I,hcl,J,_⟩:=id g.2.2.2;have dct:oe.dict=p:=dc6.at I;have Bn:S.get? a=b4:=g.2.1;have H:a∉SX X.stack:=λhb=>by rw[Y]at hb;obtain⟨_,o',e',nf⟩:=g.2.2.1.mem hb;rw[I]at e';cases e';exact nf vs J
 have na:∀b o,gh.get? b=b3 o->b≠a:=λb o e z=>by subst z;obtain⟨o',_,j⟩:=c1 b o e H;rw[Bn]at j;cases j
 have P:H2 a=b4:=by
  cases e:H2 a with
  |none=>rfl
  |some u=>
   obtain⟨o',_,j⟩:=c2 a u e;rw[Bn]at j;cases j
 have Z:X.s₀.heap.get? a=b4:=by
  cases e:X.s₀.heap.get? a with
  |none=>rfl
  |some o'=>
   obtain⟨V,j⟩:=t.s0 a o' e H;exact absurd rfl (na a V j)
 have I7:=I6.track (p:=p) (C:=C) P I hcl.1 J dct Z λq hq=>by obtain⟨V,j⟩:=t.pin q hq;exact na _ V j
 have S7:a7 X.K ml B R (upd H2 a (.ext (excP a C p))) c δ1:=S1.same (cW P);refine Y4 (X:=X.hnd a) (I7.around rfl) hN hi (.inl hl) (v:=.ref a) rfl (λs8 I8=>?_) (.inr hl);have rx:∀M,bV X.K (Nn B R) (upd H2 a (.ext (excP a C p))) M (.ref a) (FD E):=λM=>by
  obtain⟨xn,y⟩:=E;cases p with
  |none=>
   cases y with
   |none=>exact .exn hx.at_ cH λh z=>z
   |some y=>exact s.elim
  |some D0=>
   cases y with
   |none=>exact s.elim
   |some y=>
    obtain⟨yn,yd⟩:=y;obtain⟨v,e,r⟩:=s;have nD:D0≠a:=λq=>by rw[q,P]at e;cases e
    exact .exr hx.at_ cH (λh z=>z) (by rw[cB nD];exact e) (r.same (cW P))
 have S8:=S7.setVa (i:=i) (v:=.ref a) (d:=FD E) him (rx _);refine Cd (hk a aa s8 _ _ ⟨λ_ _=>False,D.rt,λ_ _=>False,λ_ _=>False⟩ I8 ⟨B,_,_,.rt d δ2,S8,h3,G⟩) (λf s9 O=>?_) λe s9 I=>(show False from I).elim;cases f with
 |next=>obtain⟨_,_,_,z⟩:=O;cases z
 |brk=>obtain⟨_,_,_,z⟩:=O;cases z
 |cont=>obtain⟨_,_,_,z⟩:=O;cases z
 |ret u=>
  obtain⟨v,σ9,H9,L,r9,hD⟩:=O;have L:=L.back J'.ok;obtain⟨m,hn,_⟩:=id L.loc;refine wpAny_nameGoes hl hn (by rw[L.ok.kind];rfl) λh' m' W sb=>?_;exact⟨v,_,H9,L.unbound W sb,r9,hD⟩
noncomputable def EK(g:VS)(z:VZ)(i:Nat)(a:Ue->VS):VS:=λδ=>match g δ with
 |some o=>b3 o
 | none => match z δ with
  |some (x,δ1)=>match a x.1 (δ1.set i (.va (FD x)))with
   |some (.rt d δ2)=>b3 (.rt d δ2)
   |_=>b4
  |none=>b4
def sTry(g:VS)(z:VZ)(i:Nat)(k:VS):VS:=EK g z i λ_=>k
structure Xx(X:Cx)(ml:List Nat)(i:Nat)(kk:Ue->VS)(aa:List (Ub×Ul))(D:M0)(C a:Ub)(x:Xw)(s':Ae)(h5:Uk):Prop where
 xc:XC X.K x.1 C
 ex:∃B O' δ1 δ2 d a0 p σ2 H2 gh Bh,cM X aa σ2 H2 s'/\Low X aa gh/\Ks Bh (X.env::X.outer) a (.ref C) a0 h5/\Dc a p h5/\s'.heap.UpToSlots h5/\(∀b o,gh.get? b=b3 o->b∉SX X.stack->∃o',s'.heap.get? b=b3 o'/\Bh.get? b=b3 o')∧
  (∀b u,H2 b=b3 u->∃o,s'.heap.get? b=b3 o/\Bh.get? b=b3 o)/\a7 X.K ml B O' H2 σ2 δ1/\Pay X.K (Nn B O') H2 p x.2/\kk x.1 (δ1.set i (.va (FD x)))=b3 (.rt d δ2)/\Post X.K ml B D (.rt d δ2)
def mX{body:List Um}{Z:Ov}{Y:List Ov}{i:Nat}{L:Ue->VS}(hK:X.K=K)(n:X.stack=X.env::X.outer)(M:X.env.frame=b3 X.env.locals)(hg:WU X.nox body (WO K ml g))(hz:∀(pn:List (Ub×Ul)) (xe:Ua->Ae->Prop) (R:Ue->Option Ub->St->Hp->Prop),RzF {X with pn:=pn,xe:=xe} R->WU {X with pn:=pn,xe:=xe} body (ZS R K ml z))(hh:∀aa D C a x s' r,Xx X ml i L aa D C a x s' r->Ud (Uf X.prog X.w) X.A (handleBy (.ref a) X.env (Z::Y)) (λf s=>SP X aa D f s) X.xe {s' with heap:=r}):PS X (.Try body (Z::Y) [] [] pos) (WO K ml (EK g z i L)):=by
 intro aa s σ H D I h;obtain⟨B,O,δ,o,S,q,c⟩:=h;refine wpAny_Try_except ?_;unfold EK at q;cases h1:g δ with
 |some o'=>
  rw[h1]at q;cases q;refine Cd (hg aa s σ H D (I.wish _) ⟨B,O,δ,o,S,h1,c⟩) (λf s1 b=>?_) λe s1 N=>(show False from N).elim;have b:=b.unwish;cases f with
  |next=>exact Jn b
  |_=>exact b
 |none=>
  rw[h1]at q;dsimp only at q;cases h2:z δ with
  |none=>rw[h2]at q;cases q
  |some p=>
   obtain⟨k,δ1⟩:=p;rw[h2]at q;dsimp only at q;cases Q:L k.1 (δ1.set i (.va (FD k)))with
   |none=>rw[Q]at q;cases q
   |some ok=>
    rw[Q]at q;cases ok with
    |nx _=>cases q
    |bk _=>cases q
    |ct _=>cases q
    |rt d δ2=>
     cases q;subst hK;have I1:∀{xe:Ua->Ae->Prop}{σ:St}{H:Hp}{s:Ae},cM X aa σ H s->cM {X with pn:=X.pn++aa,xe:=xe} [] σ H s:=λI=>⟨I.ok.pns _ _,I.os,I.bare,I.base,I.loc,I.cell,I.free,I.freeC,λp j=>I.pin p (by simpa using j),I.hok,I.len⟩;have I2:∀{xe:Ua->Ae->Prop}{ps:List (Ub×Ul)}{σ:St}{H:Hp}{s:Ae},cM {X with pn:=X.pn++aa,xe:=xe} ps σ H s->cM X aa σ H s:=λJ=>⟨I.ok,J.os,J.bare,J.base,J.loc,J.cell,J.free,J.freeC,λp j=>J.pin p (Bp _ j),J.hok,J.len⟩;refine Cd (hz (X.pn++aa) _ (λx p m H'=>x=k.1/\∃l,a7 X.K ml B l H' m δ1/\Pay X.K (Nn B l) H' p k.2) (λps x C p t H2 e s' gh hx J F lo hR=>?_) [] s σ H ⟨λ_ _=>False,λ_ _=>False,λ_ _=>False,λ_ _=>False⟩ (I1 I) ⟨B,O,δ,k,δ1,S,h2,λm H' l p S' j=>⟨rfl,l,S',j⟩⟩) (λf s1 b=>?_) λe s1 N=>N;rotate_left
     ·cases f with
      |next=>obtain⟨_,_,_,z⟩:=b;cases z
      |brk=>obtain⟨_,_,_,z⟩:=b;cases z
      |cont=>obtain⟨_,_,_,z⟩:=b;cases z
      |ret u=>obtain⟨_,_,_,_,_,z⟩:=b;cases z
     obtain⟨rfl,l,S1,E⟩:=hR;have J':=I2 J;have G:Low X aa gh:=⟨lo.s0,λp j=>lo.pin p (Bp _ j)⟩;obtain⟨a,a0,Bh,rfl,U,dc,c1,c2⟩:=F;have U:Ks Bh (X.env::X.outer) a (.ref C) a0 s'.heap:=n▸U;refine JH (KD.note _ _) dc (wpAny_looks_onW (J'.ok.frames.trans (by rw[n])) M U λh4 P y W=>JH (KD.flight _ _) W (wpAny_landsW P λr T v V=>?_));exact hh aa D C a k s' r ⟨hx,B,l,δ1,δ2,d,a0,p,t,H2,gh,Bh,J',G,T,V,y.trans v,c1,c2,S1,E,Q,c⟩
def AT{n l:Ue}{U br:Pos}{M:Um}{H:List Um}{rest:List Ov}{i:Nat}{F:Ue->VS}{aa:List (Ub×Ul)}{D:M0}{C a Q:Ub}{x:Xw}{s':Ae}{j:Uk}{r:Bool}(o:X.stack=X.env::X.outer)(hN:X.N.Nodup)(hi:X.N[i]?=b3 n)(hl:X.env.kindOf n=b3 .local)(t:i∉ml)(u:Gl X l)(Z:X.mg l=b3 (.ref Q))(Y:XQ X.K C Q r)(y:(l==("__debug__":Ue))=bb)(L:Xx X ml i F aa D C a x s' j)(hk:r=ba->(∀a,WU (X.hnd a) (M::H) (WO X.K ml k))/\F x.1=k)(W:r=bb->Ud (Uf X.prog X.w) X.A (handleBy (.ref a) X.env rest) (λf s=>SP X aa D f s) X.xe {s' with heap:=j}):Ud (Uf X.prog X.w) X.A (handleBy (.ref a) X.env (.ExceptHandler (b3 (.Name l U)) (b3 n) (M::H) br::rest)) (λf s=>SP X aa D f s) X.xe {s' with heap:=j}:=by
 obtain⟨V,B,O',δ1,δ2,d,a0,p,c,H2,gh,Bh,O,h,b,z,e,J,I,S1,m,G,g⟩:=L;have P:cM X aa c H2 {s' with heap:=j}:=O.flyG h b.1 e J I;have E:cM (X.hnd a) aa c H2 {s' with heap:=j}:=P.around rfl;refine wpAny_handleBy_cons (codeAny_handlers_test (T2 (X:=X.hnd a) E u Z ?_ y)) (by intro q;cases q);obtain⟨T,R,_,_,_,v,S,_⟩:=id b.2.2.2;refine A3 P.kIn v S.1 Y ?_;cases r with
 |false=>exact W rfl
 |true=>
  obtain⟨hk,ek⟩:=hk rfl;rw[ek]at G;exact oY hN hi hl t o hk V O h b z e J I S1 m G g
def kI{body:List Um}{n:Ue}{l t:Pos}{j:Um}{h:List Um}{i:Nat}(s:X.K=K)(b:X.stack=X.env::X.outer)(e:X.env.frame=b3 X.env.locals)(p:X.N.Nodup)(hi:X.N[i]?=b3 n)(hl:X.env.kindOf n=b3 .local)(c:i∉ml)(d:Gl X "PackError")(m:∀C,Gr K Ug "PackError"=b3 (b3 (.ref C))->X.mg "PackError"=b3 (.ref C))(o:WU X.nox body (WO K ml g))(hz:∀(pn:List (Ub×Ul)) (xe:Ua->Ae->Prop) (R:Ue->Option Ub->St->Hp->Prop),RzF {X with pn:=pn,xe:=xe} R->WU {X with pn:=pn,xe:=xe} body (ZS R K ml z))(hk:∀a,WU (X.hnd a) (j::h) (WO K ml k)):PS X (.Try body [.ExceptHandler (b3 (.Name "PackError" l)) (b3 n) (j::h) t] [] [] pos) (WO K ml (sTry g z i k)):=by subst s;refine mX rfl b e o hz λaa D C a x s' u L=>?_;obtain⟨Cp,f⟩:=L.xc.pk;exact AT (r:=ba) (k:=k) b p hi hl c d (m Cp f.at_) f.q (by decide) L (λ_=>⟨hk,rfl⟩) λz=>nomatch z
end
section
variable{X:Cx}{K:Ah}{ml:List Nat}{e a b c fx:Uh}{es:List Uh}{pa ta ia pb tb ib pf ft fi ps:Bool}{fa fb fe:VF}{B:Bs}{O:Nat->Option Ub}{H H1 H':Hp}{σ:St}{δ δ':Ev}{v:V}{d:c6}{pos:Pos}{R:Ue->Option Ub->St->Hp->Prop}
noncomputable def WV:List c6->Option (List Bool)
 |[]=>b3 []
 |.bl i::ds=>(WV ds).map λns=>i::ns
 |_=>b4
theorem K1{N:Ub->Prop}:∀{xs:List V}{ds:List c6}{ns:List Bool},cG K N H xs ds->WV ds=b3 ns->xs=ns.map V.bl
 |_,_,_,.nil,h=>by cases h;rfl
 | _,_,_,@cG.cons _ _ _ v vs d ds h t,e => by
  cases d with
  |bl k=>
   cases h;have e:(WV ds).map (λks=>k::ks)=b3 _:=e;cases h2:WV ds with
   |none=>rw[h2]at e;cases e
   |some ks=>
    rw[h2]at e;cases e;rw[K1 t h2];rfl
  |_=>cases e
noncomputable def FX(n:Bool):List Bool->Option Nat
 |[]=>b4
 |i::ns=>if i=n then b3 0 else(FX n ns).map (· +1)
theorem LW{n:Bool}:∀{ns:List Bool}{j:Nat},FX n ns=b3 j->ns[j]?=b3 n/\∀m,m<j->ns[m]? ≠b3 n
 |[],_,h=>by cases h
 | i :: ns,j,h => by
  unfold FX at h;split at h
  ·rename_i hi
   cases h;exact⟨by rw[hi];rfl,λm a=>absurd a (Mt _)⟩
  ·rename_i hi
   cases h1:FX n ns with
   |none=>rw[h1]at h;cases h
   |some k=>
    rw[h1]at h;cases h;obtain⟨h2,b⟩:=LW h1;refine⟨by simpa using h2,λm a=>?_⟩;cases m with
    |zero=>simpa using hi
    |succ m=>simpa using b m (Mg a)
noncomputable def G0(n:Bool):Ua->Bool
 |.bool i=>i==n
 |_=>bb
theorem M4:∀{ns:List Bool}{a:List Ua},bX (ns.map V.bl) a->a=ns.map Gk
 |[],_,.nil=>rfl
 |i::ns,_,.cons r t=>by rw[M4 t];cases r;rfl
def J9(K:Ah):V->List V->Hp->VK->Prop:=λx vs H Q=>∃(l:Ub) (ns:List Bool) (n:Bool) (j:Nat),x=.ref l/\vs=[.bl n]/\X9 K H l (ns.map V.bl)/\FX n ns=b3 j/\Q (.int j) H
def J8(K:Ah):V->List V->Hp->VK->Prop:=λx vs H Q=>∃(l:Ub) (ns:List Bool) (n:Bool),x=.ref l/\vs=[.bl n]/\X9 K H l (ns.map V.bl)/\Q (.int (ns.count n:Nat)) H
def Wt{a:List Ua}{n:Bool}(r:bX [V.bl n] a):a=[.bool n]:=by
 cases r with
 |cons r t=>cases t;cases r;rfl
def BM:MtM X "list.index" (J9 X.K):=by
 intro aa s σ H x vs v B Q I p t h;obtain⟨l,ns,n,j,rfl,rfl,u,A,q⟩:=h;cases p;obtain rfl:=Wt t;obtain⟨its,r,⟨o,c,e,hc,hd,g⟩,hz⟩:=I.list u;obtain⟨cls,dd,data,k⟩:=o;simp only at hc hd g;subst hc hd g;have hl:=r.length;obtain rfl:=M4 r;obtain⟨h1,h2⟩:=LW A;have a:j<ns.length:=(Ag.mp h1).1;have hsz:ns.length<=16777216:=by rw[Ci]at hz;rw[<-Ce];exact hz
 refine Fj Po ⟨_,e,rfl⟩ Oj (Nw _ _) (Ol l (ns.map Gk).toArray c b4 k (.bool n) (G0 n) j (by simpa using a) (by lia) ?_ ?_) ⟨e,?_,?_⟩
 ·have : ns[j] = n := by have := Cs a;rw [h1]at this;exact (Cg this).symm
  simp[G0,this]
 ·intro m w d
  have f:m<ns.length:=by simpa using w
  have:=h2 m d
  rw[Cs f]at this;simp only[List.getElem_toArray,List.getElem_map,G0];exact beq_eq_false_iff_ne.mpr λz=>this (by rw[z])
 ·intro y b
  have b:y∈ns.map Gk:=by simpa using b
  obtain⟨i,_,rfl⟩:=Cu.mp b;exact Nf i n
 ·exact⟨.int j,H,I.tok _,⟨_,rfl⟩,q⟩
def BK:MtM X "list.count" (J8 X.K):=by
 intro aa s σ H x vs v m Q I f g h;obtain⟨l,ns,n,rfl,rfl,k,q⟩:=h;cases f;obtain rfl:=Wt g;obtain⟨its,r,⟨o,c,e,hc,hd,b⟩,hz⟩:=I.list k;obtain⟨cls,dd,data,d⟩:=o;simp only at hc hd b;subst hc hd b;obtain rfl:=M4 r;refine Fj F.slot_list_count ⟨_,e,rfl⟩ F.entry_list_count (F.args_list_count_2 _ _) (SeqAt.list_countAt l (ns.map Gk).toArray c b4 d (.bool n) (G0 n)) ⟨e,?_,?_⟩
 ·intro y a
  have a:y∈ns.map Gk:=by simpa using a
  obtain⟨i,_,rfl⟩:=Cu.mp a;exact Nf i n
 ·have j:(ns.map Gk).toArray.toList.countP (G0 n)=ns.count n:=by rw[List.toList_toArray,List.countP_map];rfl
  refine⟨.int (ns.count n:Nat),H,I.tok _,⟨s.toks,?_⟩,q⟩;rw[j]
def J0:c6->c6->Option c6
 |.lst ds,.bl n=>(WV ds).bind λns=>(FX n ns).map λj=>.int j
 |_,_=>b4
def JY:c6->c6->Option c6
 |.lst ds,.bl n=>(WV ds).map λns=>.int (ns.count n:Nat)
 |_,_=>b4
def Xz{ao ae:Pos}{name:Ue}{id:String}{r:V->List V->Hp->VK->Prop}{o:c6->c6->Option c6}(v:X.K=K)(m:Slot "list" name id)(ty:Qd (.builtin id)=pure (.type "method_descriptor"))(mt:MtM X id r)(s:∀{x y d:c6},o x y=b3 d->∃ds n ns i,x=.lst ds/\y=.bl n/\WV ds=b3 ns/\d=.int i/\∀(H:Hp) (l:Ub) (Q:VK),X9 K H l (ns.map V.bl)->Q (.int i) H->r (.ref l) [.bl n] H Q)(u:PE X a (TV K ml pa ta ia fa))(t:PE X b (TV K ml pb tb ib fb))(F:Gh a name X.env (eval a X.env)=eval a X.env:=by rfl)(E:((Fa ae (Uc (b::[]) X.env)).all (λx=> !x.1)&&(Ll ae (He [] X.env)).all (λx=>x.1.isSome)&&decide ((b::([]:List Uh)).length+([]:List Hf).length+(if([]:List Hf).isEmpty then 0 else 1)<30))=ba:=by rfl)(G:(ao.endLine==ae.line)=ba:=by rfl)(f:Uc (b::[]) X.env=(bb,eval b X.env)::Uc [] X.env:=by rfl)(I:(Fa ae (Uc [] X.env)).any (·.1)=bb:=by rfl)(hl:(pb || (ta&&ia))=ba:=by rfl):PE X (.Call (.Attribute a name ao) [b] [] ae) (TV K ml (pa&&pb) ba ba (f2 o fa fb)):=
 (kBm (K := K) v Gi m ty mt u (b8 t aH f) F E G f I).imp λσ H Q q0 => by
  obtain⟨B,O,δ,d,δ2,S,q,k⟩:=q0;obtain⟨x,δ1,y,h1,h2,C⟩:=RY q;obtain⟨ds,n,ns,i,rfl,rfl,A,rfl,w⟩:=s C;refine⟨B,O,δ,_,δ1,S,h1,λL H1 c=>?_⟩;obtain⟨l,xs,rfl,sq,_⟩:=c.rep.lstE;refine⟨.inl ⟨rfl,xs,sq⟩,B,O,δ1,_,δ2,c.sta,h2,λJ H2 R2=>?_⟩;have p:=R2.rep;cases p;obtain⟨M,j,D,e,r'⟩:=(R2.live hl c.rep).lstE;cases D;have:=K1 r' A
  subst this;exact w H2 l Q e (k _ H2 ⟨R2.sta,c.frm.trans R2.frm,λz=>by obtain⟨h,g⟩:=(Af _ _).mp z;exact(c.pur h).trans (R2.pur g),.int _⟩)
def oO{x y d:c6}(h:J0 x y=b3 d):∃ds n ns i,x=.lst ds/\y=.bl n/\WV ds=b3 ns/\d=.int i/\∀(H:Hp) (l:Ub) (Q:VK),X9 K H l (ns.map V.bl)->Q (.int i) H->J9 K (.ref l) [.bl n] H Q:=by
 unfold J0 at h;split at h
 ·rename_i ds n
  cases h1:WV ds with
  |none=>rw[h1]at h;cases h
  |some ns=>
   rw[h1,Ar]at h;cases h2:FX n ns with
   |none=>rw[h2]at h;cases h
   |some j=>
    rw[h2]at h;cases h;exact⟨ds,n,ns,j,rfl,rfl,h1,rfl,λH l Q sq q=>⟨l,ns,n,j,rfl,rfl,sq,h2,q⟩⟩
 ·cases h
def eQ{x y d:c6}(h:JY x y=b3 d):∃ds n ns i,x=.lst ds/\y=.bl n/\WV ds=b3 ns/\d=.int i/\∀(H:Hp) (l:Ub) (Q:VK),X9 K H l (ns.map V.bl)->Q (.int i) H->J8 K (.ref l) [.bl n] H Q:=by
 unfold JY at h;split at h
 ·rename_i ds n
  cases h1:WV ds with
  |none=>rw[h1]at h;cases h
  |some ns=>
   rw[h1]at h;cases h;exact⟨ds,n,ns,_,rfl,rfl,h1,rfl,λH l Q sq q=>⟨l,ns,n,rfl,rfl,sq,q⟩⟩
 ·cases h
def oA(h:X.K=K:=by rfl):MtM X "list.index" (J9 K):=by subst h;exact BM
def dJ(h:X.K=K:=by rfl):MtM X "list.count" (J8 K):=by subst h;exact BK
def rIsx(K:Ah):RC:=λxs H Q=>∃a C b u k,xs=[.ref a,u]/\H a=b3 (.ext b)/\(∀h,b h->CW h a C)/\XA K C/\(Te K C).isSome=ba/\((∃D,u=.ref D/\Hb K (.ref C) (.ref D)=b3 k)∨∃n,u=.ty n/\Hb K (.ref C) (.type n)=b3 k)/\Q (.bl k) H
def Yw:aD X (.builtin "isinstance") (rIsx X.K):=by
 intro aa s σ H xs p Q I r h;obtain⟨a,C,m,u,k,rfl,l,d,e,hc,hk,q⟩:=h;obtain⟨v,c,rfl,j,f⟩:=IV r;cases j;obtain⟨o,vs,i,g,_⟩:=d _ (I.hok a _ l).1;have b:∀tk,EP X aa σ Q (.bool k) {s with toks:=tk}:=λtk=>⟨.bl k,H,I.tok tk,rfl,q⟩;rcases hk with⟨D,rfl,hk⟩|⟨n,rfl,hk⟩
 ·cases f
  exact Fk (G3 e hc) I.kIn ⟨o,i,g⟩ hk (λz=>nomatch z) b
 ·cases f
  exact Fk (G3 e hc) I.kIn ⟨o,i,g⟩ hk (λz=>nomatch z) b
def SI(h:X.K=K:=by rfl):aD X (.builtin "isinstance") (rIsx K):=by subst h;exact Yw
structure XI(K:Ah)(cs all:List Ue):Prop where
 own:∀c∈cs,∃C,XC K c C
 isi:∀c∈cs,∀C,Gr K Ug c=b3 (b3 (.ref C))->∀x∈all,∃D,Gr K Ug x=b3 (b3 (.ref D))/\Hb K (.ref C) (.ref D)=b3 (decide (c=x))
 val:∀c∈cs,∀C,Gr K Ug c=b3 (b3 (.ref C))->Hb K (.ref C) (.type "ValueError")=b3 ba
 pke:∀c∈cs,∀C,Gr K Ug c=b3 (b3 (.ref C))->∃D,Gr K Ug "PackError"=b3 (b3 (.ref D))/\Hb K (.ref C) (.ref D)=b3 ba
noncomputable def DQ(a all:List Ue)(c:Ue):c6->Option c6
 |.fn x=>if c∈a/\x∈all then b3 (.bl (decide (c=x)))else if c∈a/\x= "PackError" then b3 (.bl ba)else b4
 |.ty n=>if c∈a/\n= "ValueError" then b3 (.bl ba)else b4
 |_=>b4
def UP(a all:List Ue):c6->c6->Option c6
 |.exn c,y=>DQ a all c y
 |.exr c _ _,y=>DQ a all c y
 |_,_=>b4
def Yp{o all:List Ue}(F:XI K o all){N M:Ub->Prop}{c0:Ue}{C a:Ub}{l:Uk->Prop}{y d:c6}{u:V}{Q:VK}(g:Gr K Ug c0=b3 (b3 (.ref C)))(i:H a=b3 (.ext l))(f:∀h,l h->CW h a C)(m:bV K N H M u y)(h:DQ o all c0 y=b3 d)(k:∀b:Bool,d=.bl b->Q (.bl b) H):rIsx K [.ref a,u] H Q:=by
 unfold DQ at h;split at h
 ·rename_i q
  cases m with
  |fn n=>
   split at h
   ·rename_i c
    cases h;obtain⟨p,e⟩:=F.own _ c.1;have:=g.symm.trans e.at_
    cases this;obtain⟨D,j,hk⟩:=F.isi _ c.1 _ g _ c.2;have:=n.symm.trans j
    cases this;exact⟨_,_,_,_,_,rfl,i,f,e.att,e.cls,.inl ⟨_,rfl,hk⟩,k _ rfl⟩
   ·split at h
    ·rename_i c
     cases h;obtain⟨c,rfl⟩:=c;obtain⟨p,e⟩:=F.own _ c;have:=g.symm.trans e.at_
     cases this;obtain⟨D,j,hk⟩:=F.pke _ c _ g;have:=n.symm.trans j
     cases this;exact⟨_,_,_,_,_,rfl,i,f,e.att,e.cls,.inl ⟨_,rfl,hk⟩,k _ rfl⟩
    ·cases h
 ·rename_i r
  cases m;split at h
  ·rename_i c
   cases h;obtain⟨c,rfl⟩:=c;obtain⟨p,e⟩:=F.own _ c;have:=g.symm.trans e.at_
   cases this;exact⟨_,_,_,_,_,rfl,i,f,e.att,e.cls,.inr ⟨_,rfl,F.val _ c _ g⟩,k _ rfl⟩
  ·cases h
 ·cases h
def W1{l all:List Ue}(F:XI K l all):MY K (rIsx K) (UP l all):=by
 intro H N N' M M' x y d e c Q j i h k;unfold UP at h;split at h
 ·cases j with
  |exn f g a=>exact Yp F f g a i h λb e=>k (.bl b) λ_ _ _=>by rw[e];exact .bl b
 ·cases j with
  |exr f g a _ _=>exact Yp F f g (λh z=>by obtain⟨o,vs,p,n,m,_⟩:=a h z;exact⟨o,vs,p,n,m⟩) i h λb e=>k (.bl b) λ_ _ _=>by rw[e];exact .bl b
 ·cases h
end
end L2
namespace L2
open PySem PySem.Spec PyProof.Rows PySem.W
end L2
namespace L2
open PySem PySem.Spec PyProof.Rows
def A5(l b:Ub)(u v:Array Ua)(n m:Nat)(a:Array (Option Ua))(f:¬(!u.isEmpty&&Ea (u.size+v.size))=ba)(h1:u.size<=sizeLine)(h2:(u++v).size<=sizeLine+1):Meets (Fu.«list.extend» ⟨[.ref l,.ref b],[]⟩) (λ_ R s=>s.heap.get? l=b3 ⟨.type "list",b4,.seq u n,#[]⟩/\s.heap.get? b=b3 ⟨.type "list",b4,.seq v m,a⟩/\R (.ok (.ret .none)) {s with heap:=s.heap.update l (Dg λx=>x++v)}):=
 .of_wp λprog w A R s h=>by
  obtain⟨e,g,d,tk,os⟩:=s;obtain⟨hl,c,h⟩:=h;have f1:=Iy;have f2:=Ld;have f3:=Mi;have j:=Lv;have i:=Lw;wp_walk using(wpAny_updateSeq hl rfl (hz:=h1) (_hz':=h2)),Bg hl,Bg c
  exact⟨_,rfl,h⟩
def Vf(K:Ah):V->List V->Hp->VK->Prop:=λx vs H Q=>∃l b xs zs,x=.ref l/\vs=[.ref b]/\H l=b3 (.lst xs)/\X9 K H b zs/\xs.length+zs.length<=sizeLine/\Q .non (upd H l (.lst (xs++zs)))
def pM{X:Cx}:MtM X "list.extend" (Vf X.K):=by
 intro aa s σ H x vs v w Q I i j h;obtain⟨l,b,xs,zs,rfl,rfl,d,p,hz,q⟩:=h;cases i;obtain⟨u,rfl,k⟩:=j.one;cases k;obtain⟨z,its,n,r,hl,e⟩:=I.lstM d;obtain⟨a,c,⟨⟨cls,dd,data,g⟩,m,t,hc,hd,f⟩,_⟩:=I.list p;simp only at hc hd f;subst hc hd f;have o:=c.length;have hsz:its.toArray.size+a.toArray.size<=sizeLine:=by rw[Aj,Aj];lia
 refine Fj F.slot_list_extend ⟨_,e,rfl⟩ F.entry_list_extend (F.args_list_extend_2 _ _) (A5 l b its.toArray a.toArray n m g (by rw[dF hsz,Bool.and_false];exact Ek) (by rw[Aj];lia) (by rw[Pr];lia)) ⟨e,t,?_⟩
 refine⟨.non,_,I.lset (its':=its++a) d e (by simp) (r.append c) ?_,rfl,q⟩;rw[Bv];lia
def LK{X:Cx}{K:Ah}(h:X.K=K):MtM X "list.extend" (Vf K):=by subst h;exact pM
noncomputable def HB:List c6->List c6->Option (List c6)
 |ds,[.lst es]=>if ds.length+es.length<=16777216 then b3 (ds++es)else b4
 |_,_=>b4
def QD{K:Ah}:MuV K (Vf K) HB:=by
 intro H N l xs vs ds es e Q hl f a c h k;cases c with
 |nil=>cases h
 | @cons v vs d es hd t=>
  cases t with
  |cons _ _=>cases d<;>cases h
  |nil=>
   cases d with
   |lst es=>
    simp only[HB]at h;split at h
    ·rename_i hz
     cases h;obtain⟨b,zs,rfl,sq,r⟩:=hd.lstE;exact⟨l,b,xs,zs,rfl,rfl,hl,sq,by rw[a.length,r.length,Ce];exact hz,k _ _ (a.append r)⟩
    ·cases h
   |_=>cases h
def MO:Bm "ValueError"=b3 (.type "ValueError"):=by decide+kernel
def YD.mark{k:Nat}{A:Cb}(r:YD k A)(h:Option Ua):YD k (A.mark h):=⟨r.dp,r.un⟩
noncomputable def xiOk(K:Ah)(a all:List Ue):Bool:=a.all λc=>match Gr K Ug c with
 |some (b3 (.ref C))=>all.all (λx=>match Gr K Ug x with
  |some (b3 (.ref D))=>Hb K (.ref C) (.ref D)==b3 (decide (c=x))
  |_=>bb)&&(Hb K (.ref C) (.type "ValueError")==b3 ba&&match Gr K Ug "PackError" with
  |some (b3 (.ref D))=>Hb K (.ref C) (.ref D)==b3 ba
  |_=>bb)
 |_=>bb
def XI.of{K:Ah}{b all:List Ue}(own:∀c∈b,∃C,XC K c C)(h:xiOk K b all=ba):XI K b all:=by
 have key:∀c∈b,∀C,Gr K Ug c=b3 (b3 (.ref C))->(∀x∈all,∃D,Gr K Ug x=b3 (b3 (.ref D))/\Hb K (.ref C) (.ref D)=b3 (decide (c=x)))/\Hb K (.ref C) (.type "ValueError")=b3 ba/\∃D,Gr K Ug "PackError"=b3 (b3 (.ref D))/\Hb K (.ref C) (.ref D)=b3 ba:=by
  intro c hc C a;have:=Dn.mp h c hc
  rw[a]at this;simp only[Af,beq_iff_eq]at this;refine⟨λx e=>?_,this.2.1,?_⟩;rotate_left
  ·have h2:=this.2.2
   split at h2
   ·rename_i D d
    exact⟨D,d,beq_iff_eq.mp h2⟩
   ·cases h2
  have h2:=Dn.mp this.1 x e;split at h2
  ·rename_i D d
   exact⟨D,d,beq_iff_eq.mp h2⟩
  ·cases h2
 exact⟨own,λc hc C a=>(key c hc C a).1,λc hc C a=>(key c hc C a).2.1,λc hc C a=>(key c hc C a).2.2⟩
def Yc{P:Aw}{w:Uj}{K:Ah}{mg:Ue->Option Ua}{base h:Uk}{x:Ue}{st:Um}{f:Ub}{ps:List Ue}{l:List c6->Option Xw}{k:Nat}(X:K.In h)(G:h.Ns Ug mg)(p:A4 K x st f)(ok:∀{fd:Dw},X1 K x x st f fd->aI P w K mg base (CXv P w) k f fd ps (spX K ps.length l))(n:∀{kV doc i:Ua}{j:Option Ub}{e ct:Ua}(g:List Ua),g.length=ps.length->Qv (Ma x x (YX st) (aQ st) (cV st) .none kV doc i j e ct) ⟨g,[]⟩=pure (ps.zip g)):DefX P w K mg base x k ps l f:=by obtain⟨o,od,kV,doc,i,j,e,ct,m,a,b,c,d⟩:=p;have U:=JS (st:=st) b c d;exact⟨Eh X G a,⟨_,ok U,U.binds λ_ _ _ _ _ _=>n⟩,d⟩
def fQ{P:Aw}{w:Uj}{K:Ah}{mg:Ue->Option Ua}{base h:Uk}{x:Ue}{st:Um}{f:Ub}{ps:List Ue}{sp:Sp}{k:Nat}(X:K.In h)(G:h.Ns Ug mg)(p:A4 K x st f)(ok:∀{fd:Dw},X1 K x x st f fd->FnH P w K mg base k f fd ps sp)(m:∀{kV doc i:Ua}{j:Option Ub}{e ct:Ua}(g:List Ua),g.length=ps.length->Qv (Ma x x (YX st) (aQ st) (cV st) .none kV doc i j e ct) ⟨g,[]⟩=pure (ps.zip g)):DefH P w K mg base x k ps sp f:=by obtain⟨n,od,kV,doc,i,j,e,ct,l,a,b,c,d⟩:=p;have U:=JS (st:=st) b c d;exact⟨Eh X G a,⟨_,ok U,U.binds λ_ _ _ _ _ _=>m⟩,d⟩
def okZ(P:Aw)(w:Uj)(K:Ah)(mg:Ue->Option Ua)(base:Uk){x qual:Ue}{st:Um}{f:Ub}{fd:Dw}(N ps:List Ue)(k:Nat)(z:VZ)(F:X1 K x qual st f fd)(S:cD N ps (cV st))(d:∀(a:Ua) (A:Cb) (outer:List Env) (s:Ae) (H:Hp) (E:XK) (b:Y0 k (A.deeper (envOfC qual (cV st) s.heap.objs.size f a))) (_:(A.deeper (envOfC qual (cV st) s.heap.objs.size f a)).units+64<cLine) (_:(A.deeper (envOfC qual (cV st) s.heap.objs.size f a)).units+1<cLine),WU (QZ (CXv P w) P w K mg base N qual (cV st) f a A outer s H E) (aQ st) (ZS (rE K E) K [] z))(c:ps.length<=N.length:=by decide):aI P w K mg base (CXv P w) (k+1) f fd ps (spX K ps.length (CA N.length z)):=
 X1.okX F S c λa A outer s H E b=>d a A outer s H E b b.units (Wx b)
def okWH(P:Aw)(w:Uj)(K:Ah)(mg:Ue->Option Ua)(base:Uk){x qual:Ue}{st:Um}{f:Ub}{fd:Dw}(N ps:List Ue)(k:Nat)(g:VS)(ml:List Nat)(F:X1 K x qual st f fd)(S:cD N ps (cV st))(d:∀(a:Ua) (A:Cb) (outer:List Env) (s:Ae) (H:Hp) (b:YD k (A.deeper (envOfC qual (cV st) s.heap.objs.size f a))) (_:(A.deeper (envOfC qual (cV st) s.heap.objs.size f a)).units+64<cLine) (_:(A.deeper (envOfC qual (cV st) s.heap.objs.size f a)).units+1<cLine),WU (cxH P w K mg base N qual (cV st) f a A outer s H) (aQ st) (WO K ml g))(c:ps.length<=N.length:=by decide):FnH P w K mg base (k+1) f fd ps (spV K ml ps.length (Z9 N.length ml g)):=
 X1.okVH F S c λa A outer s H b=>d a A outer s H b b.units b.unit
def WZ{α:Type}(k:Nat)(xs:List α):List α:=(Av k xs).flatten
def N4{α:Type}(k:Nat)(xs:List α):(WZ k xs).length=xs.length*k:=by
 unfold WZ;induction k with
 |zero=>simp
 |succ k a=>rw[Dz,Ge,Bv,a,Nat.mul_succ,Qf]
def bX.repV{xs:List V}{a:List Ua}(r:bX xs a)(k:Nat):bX (WZ k xs) (WZ k a):=by
 unfold WZ;induction k with
 |zero=>exact .nil
 |succ k b=>rw[Dz,Dz,Ge,Ge];exact r.append b
def cG.rep{K:Ah}{N:Ub->Prop}{H:Hp}{xs:List V}{ds:List c6}(r:cG K N H xs ds)(k:Nat):cG K N H (WZ k xs) (WZ k ds):=by
 unfold WZ;induction k with
 |zero=>exact .nil
 |succ k a=>rw[Dz,Dz,Ge,Ge];exact r.append a
def QF:fillsNumberSlot (.type "tuple") "mul"=pure bb:=
 PySem.fillsNumberSlot_seq (id:= "tuple.__mul__") (r:=b3 (.builtin "tuple.__rmul__")) F.slot_tuple_mul.lookup (by decide+kernel) F.slot_tuple_rmul.lookup (by decide+kernel)
def KB:seqRepeat? (.type "tuple")=pure (b3 (.builtin "tuple.__mul__")):=by unfold seqRepeat?;rw[Qr (T:= "tuple") (name:= "__mul__") (id:= "tuple.__mul__") F.slot_tuple_mul.lookup (by decide+kernel),Qr (T:= "tuple") (name:= "__rmul__") (id:= "tuple.__rmul__") F.slot_tuple_rmul.lookup (by decide+kernel)];rfl
def F3(a:Int)(t:Uv)(l:Ub)(u:Array Ua)(n:Nat)(dd:Option Ub)(b:Array (Option Ua)):Meets (Fu.«int.__rmul__» ⟨[.int a t,.ref l],[]⟩) (λ_ R s=>s.heap.get? l=b3 ⟨.type "tuple",dd,.seq u n,b⟩/\R (.ok (.ret Value.notImplemented)) s):=
 .of_wp λprog w A R s h=>by obtain⟨c,g,d,tk,os⟩:=s;obtain⟨hl,h⟩:=h;wp_walk;exact⟨_,rfl,h⟩
def FI(l:Ub)(t:Uv)(u:Array Ua)(n:Nat)(dd:Option Ub)(a:Array (Option Ua)):Meets (Fu.«tuple.__mul__» ⟨[.ref l,.int 1 t],[]⟩) (λ_ R s=>s.heap.get? l=b3 ⟨.type "tuple",dd,.seq u n,a⟩/\R (.ok (.ret (.ref l))) s):=
 .of_wp λprog w A R s h=>by
  obtain⟨b,g,d,tk,os⟩:=s;obtain⟨hl,h⟩:=h;have f1:=Iy;unfold Fu.«tuple.__mul__»;wp_walk using Bg hl
  exact⟨_,rfl,h⟩
def FJ(l:Ub)(x:Int)(t:Uv)(u:Array Ua)(n:Nat)(dd:Option Ub)(e:Array (Option Ua))(h1:1<x)(h2:x<2 ^ 62)(f:u.isEmpty=bb)(hz:u.size*x.toNat<=16777216):Meets (Fu.«tuple.__mul__» ⟨[.ref l,.int x t],[]⟩) (λ_ R s=>s.heap.get? l=b3 ⟨.type "tuple",dd,.seq u n,e⟩/\R (.ok (.ret (.ref s.heap.objs.size))) {s with heap:=s.heap.push {cls:=.type "tuple",data:=.seq ((Av x.toNat u).foldl (· ++ ·) #[])}}):=
 .of_wp λprog w A R s h=>by
  obtain⟨p,g,d,tk,os⟩:=s;obtain⟨hl,h⟩:=h;have f1:=Iy;unfold Fu.«tuple.__mul__»;have o:(decide (x< -2 ^ 63) || decide (x≥2 ^ 63))=bb:=by simp;lia
  have m:(x==1)=bb:=by simp;lia
  have k:decide (x<=0)=bb:=by simp;lia
  have a:(u.size:Int)*x=((u.size*x.toNat:Nat):Int):=by rw[Int.natCast_mul,Nz (by lia)]
  have j:¬((u.size:Int)*x>(2 ^ 63-1)/8):=by rw[a];lia
  have i:Kl ((u.size:Int)*x)=bb:=by rw[a];unfold Kl;simp only[Ce,decide_eq_false_iff_not];lia
  wp_walk using Bg hl
  rw[o];wp_walk using Bg hl
  simp only[f,m,k,Ss];wp_walk;rw[i,if_neg j];have q:¬(List.foldl (λc b=>c++b) #[] (Av x.toNat u)).size>sizeLine:=by
   have:=N4 x.toNat u.toList
   unfold WZ at this;rw[listMul_foldl,Aj];show¬([]++(Av x.toNat u.toList).flatten).length>sizeLine;rw[Fc,this,Gf,Ce];lia
  wp_walk;exact⟨_,rfl,h⟩
section
variable{X:Cx}{K:Ah}
def Xh(K:Ah):R2:=λx y H Q=>∃l xs k,x=.ref l/\y=.int k/\X9 K H l xs/\(0<=k/\k<2 ^ 62)/\xs.length*k.toNat<=16777216/\∀p,H p=b4->Q (.ref p) (upd H p (.lst (WZ k.toNat xs)))
def zEM:XJ X (Fq .Mult) (Xh X.K):=by
 intro aa s σ H x y v u Q I g f h;obtain⟨l,xs,x,rfl,rfl,i,⟨k,j⟩,hz,q⟩:=h;cases g;obtain⟨t,rfl⟩:=f;obtain⟨its,r,⟨⟨cls,dd,data,c⟩,n,a,hc,hd,d⟩,_⟩:=I.list i;simp only at hc hd d;subst hc hd d;have hl:=r.length;have hsz:its.toArray.size*x.toNat<=16777216:=by rw[Aj,<-hl];exact hz
 refine Kw (T:= "list") (U:= "int") (by decide) ⟨_,a,rfl⟩ (λs'=>Mx s' x t) noFill_list_mul Rr Jz repeat_list F.slot_int_index.lookup
  (Fj Jz (Mx s x t) Qs (Pt _ _) (lm_int_rmul_list_any x t l its.toArray n b4 c) ⟨a,rfl,⟨_,a,rfl⟩,?_⟩)
 refine Fj F.slot_list_mul ⟨_,a,rfl⟩ F.entry_list_mul (F.args_list_mul_2 _ _) (lm_list_mul_any l its.toArray n b4 c x t (by simp[Builtin.List.listFitsIndex];lia) (by lia) (by simp[Ea,sizeLine];lia)) ⟨a,?_⟩;rw[listMul_foldl_if];refine⟨.ref s.heap.objs.size,_,I.laid (t':=s.toks) (o:=.lst (WZ x.toNat xs)) (λb m e=>Ad _ e) (Aq _) ?_,rfl,q _ (I.hok.fresh (Aq _))⟩;exact⟨by rw[N4,Ce];exact hz,WZ x.toNat its,0,r.repV _,As _ rfl⟩
def Xy(K:Ah):R2:=λx y H Q=>∃l xs k,x=.ref l/\y=.int k/\WS K H l xs/\xs≠[]/\(1<=k/\k<2 ^ 62)/\xs.length*k.toNat<=16777216/\(k=1->Q (.ref l) H)/\∀p,H p=b4->Q (.ref p) (upd H p (.tup (WZ k.toNat xs)))
def mD:XJ X (Fq .Mult) (Xy X.K):=by
 intro aa s σ H x y v u Q I j i h;obtain⟨l,xs,x,rfl,rfl,m,f,⟨p,g⟩,hz,q1,q⟩:=h;cases j;obtain⟨t,rfl⟩:=i;obtain⟨its,r,⟨⟨cls,dd,data,d⟩,c,hc,n,hd⟩,_⟩:=I.tuple m;simp only at hc hd;subst hc hd;have hl:=r.length;have hsz:its.toArray.size*x.toNat<=16777216:=by rw[Aj,<-hl];exact hz
 have k:its.toArray.isEmpty=bb:=by
  cases its with
  |nil=>exact absurd (r.nil_iff.mp rfl) f
  |cons a b=>rfl
 refine Kw (T:= "tuple") (U:= "int") (by decide) ⟨_,c,rfl⟩ (λs'=>Mx s' x t) QF Rr Jz KB F.slot_int_index.lookup
  (Fj Jz (Mx s x t) Qs (Pt _ _) (F3 x t l its.toArray n dd d) ⟨c,rfl,⟨_,c,rfl⟩,?_⟩)
 by_cases hk:x=1
 ·subst hk
  exact Fj Qt ⟨_,c,rfl⟩ Pw (Ow _ _) (FI l t its.toArray n dd d) ⟨c,⟨.ref l,H,I,rfl,q1 rfl⟩⟩
 ·refine Fj Qt ⟨_,c,rfl⟩ Pw (Ow _ _) (FJ l x t its.toArray n dd d (by lia) g k hsz) ⟨c,?_⟩
  rw[listMul_foldl];refine⟨.ref s.heap.objs.size,_,I.laid (t':=s.toks) (o:=.tup (WZ x.toNat xs)) (λb w e=>Ad _ e) (Aq _) ?_,rfl,q _ (I.hok.fresh (Aq _))⟩;exact⟨by rw[N4,Ce];exact hz,WZ x.toNat its,r.repV _,Jp _ _⟩
def Xf(K:Ah):R2:=λx y H Q=>Xh K x y H Q∨Xy K x y H Q
def NN(h:X.K=K:=by rfl):XJ X (Fq .Mult) (Xf K):=by subst h;exact zEM.or mD
noncomputable def ZB:c6->c6->Option c6
 |.lst ds,.int k=>if(0<=k/\k<2 ^ 62)/\ds.length*k.toNat<=16777216 then b3 (.lst (WZ k.toNat ds))else b4
 |.tup (d::ds),.int k=>if(1<=k/\k<2 ^ 62)/\(ds.length+1)*k.toNat<=16777216 then b3 (.tup (WZ k.toNat (d::ds)))else b4
 |_,_=>b4
def UF:OpC K (Xf K) ZB:=by
 intro H N M M' x y d e c Q l j h k;cases d with
 |lst ds=>
  cases e with
  |int i=>
   simp only[ZB]at h;split at h
   ·rename_i hz
    cases h;obtain⟨a,xs,rfl,q1,b⟩:=l.lstE;cases j;exact .inl ⟨a,xs,i,rfl,rfl,q1,hz.1,by rw[b.length];exact hz.2,λp f=>k _ _ (cW f) λM g=>.lst cH (λz=>by obtain⟨o,q⟩:=g _ z;rw[f]at q;cases q) ((b.rep _).same (cW f))⟩
   ·cases h
  |_=>cases h
 |tup ds=>
  cases ds with
  |nil=>cases h
  |cons d ds=>
   cases e with
   |int i=>
    simp only[ZB]at h;split at h
    ·rename_i hz
     cases h;obtain⟨a,xs,rfl,q1,b⟩:=l.tupE;cases j;refine .inr ⟨a,xs,i,rfl,rfl,q1,λz=>?_,hz.1,by rw[b.length];exact hz.2,λz=>?_,λp f=>k _ _ (cW f) λM g=>.tup (WS.of cH) ((b.rep _).same (cW f))⟩
     ·subst z
      cases b
     ·subst z
      refine k _ _ (bH.refl _) λM g=>?_;rw[show WZ (1:Int).toNat (d::ds)=d::ds by simp[WZ]];exact .tup q1 b
    ·cases h
   |_=>cases h
 |_=>cases h
end
noncomputable def BH:Uh->Option c6
 |.Constant (.int i) _ _=>b3 (.int i)
 |.Constant (.bool i) _ _=>b3 (.bl i)
 |.Constant (.str i) _ _=>b3 (.str i)
 |.Constant .none _ _=>b3 .non
 |.UnaryOp .USub (.Constant (.int i) _ _) _=>b3 (.int (-i))
 |_=>b4
noncomputable def MU(f:Uh->Option c6):List Uh->Option (List c6)
 |[]=>b3 []
 |e::es=>(f e).bind λd=>(MU f es).map λds=>d::ds
def G8:Nat->Uh->Option c6
 |0,e=>BH e
 |k+1,e=>match e with
  |.Tuple es _ _=>(MU (G8 k) es).bind λds=>if ds.length<=16777216 then b3 (.tup ds)else b4
  |.List es _=>(MU (G8 k) es).bind λds=>if ds.length<=16777216 then b3 (.lst ds)else b4
  |e=>BH e
section
variable{X:Cx}{K:Ah}{ml:List Nat}
def DM{e:Uh}{d:c6}(h:BH e=b3 d):PE X e (TV K ml ba ba ba (fC d)):=by
 unfold BH at h;split at h
 ·cases h;exact c5
 ·cases h;exact Z0
 ·cases h;exact cN
 ·cases h;exact YV
 ·cases h;exact UZ c5
 ·cases h
def LN{e:Uh}{es:List Uh}{d:c6}(h:BH e=b3 d):Uc (e::es) X.env=(bb,eval e X.env)::Uc es X.env:=by
 unfold BH at h;split at h<;>first
  |rfl
  |cases h
theorem JX{f:Uh->Option c6}(c:∀e d,f e=b3 d->PE X e (TV K ml ba ba ba (fC d))/\∀es,Uc (e::es) X.env=(bb,eval e X.env)::Uc es X.env):∀{es:List Uh}{ds:List c6},MU f es=b3 ds->PA X es (AG K ml ba ba λδ=>b3 (ds,δ))
 |[],_,h=>by
  cases h;exact cY
 | e :: es,ds,h => by
  have h:((f e).bind λd=>(MU f es).map λds=>d::ds)=b3 ds:=h;cases h1:f e with
  |none=>rw[h1]at h;cases h
  |some d=>
   rw[h1]at h;have h:(MU f es).map (λds=>d::ds)=b3 ds:=h;cases h2:MU f es with
   |none=>rw[h2]at h;cases h
   |some g=>
    rw[h2]at h;cases h;obtain⟨a,b⟩:=c e d h1;exact c8 a (JX c h2) (b es)
theorem JW:∀{k:Nat}{e:Uh}{d:c6},G8 k e=b3 d->PE X e (TV K ml ba ba ba (fC d))/\∀es,Uc (e::es) X.env=(bb,eval e X.env)::Uc es X.env
 |0,e,d,h=>⟨DM h,λes=>LN h⟩
 | k + 1,e,d,h => by
  have hl:∀(es:List Uh) (g:List c6->c6) (fg:RT->VF),(∀fs δ,fg fs δ=(fs δ).bind λp=>if p.1.length<=16777216 then b3 (g p.1,p.2)else b4)->((MU (G8 k) es).bind λds=>if ds.length<=16777216 then b3 (g ds)else b4)=b3 d->∃ds,PA X es (AG K ml ba ba λδ=>b3 (ds,δ))/\fg (λδ=>b3 (ds,δ))=fC d:=by
   intro es g fg c h;cases h1:MU (G8 k) es with
   |none=>rw[h1]at h;cases h
   |some ds=>
    rw[h1]at h;have h:(if ds.length<=16777216 then b3 (g ds)else b4)=b3 d:=h;split at h
    ·rename_i hz
     cases h;refine⟨ds,JX (λe d=>JW) h1,funext λδ=>?_⟩;rw[c];show(if ds.length<=16777216 then b3 (g ds,δ)else b4)=_;rw[if_pos hz];rfl
    ·cases h
  unfold G8 at h;split at h
  ·rename_i es f pos
   obtain⟨ds,a,b⟩:=hl es .tup cJ (λ_ _=>rfl) h;exact⟨b▸cQ a,λ_=>rfl⟩
  ·rename_i es pos
   obtain⟨ds,a,b⟩:=hl es .lst bC (λ_ _=>rfl) h;exact⟨b▸dU a,λ_=>rfl⟩
  ·exact⟨DM h,λes=>LN h⟩
def XR{k:Nat}{e:Uh}{d:c6}(h:G8 k e=b3 d):PE X e (TV K ml ba ba ba (fC d)):=(JW h).1
def GH{k:Nat}{es:List Uh}{pos:Pos}{ds:List c6}(h:MU (G8 k) es=b3 ds)(hz:ds.length<=16777216):PE X (.List es pos) (TN K ml ba (fC (.lst ds))):=by
 have a:=bY (pos:=pos) (JX (X:=X) (K:=K) (ml:=ml) (λe d=>JW (k:=k)) h);have b:bC (λδ=>b3 (ds,δ))=fC (.lst ds):=funext λδ=>by show(if ds.length<=16777216 then b3 (c6.lst ds,δ)else b4)=_;rw[if_pos hz];rfl
 exact b▸a
end
section
variable{X:Cx}{K:Ah}{ml:List Nat}{e a b c:Uh}{es:List Uh}{pa ta ia pb tb ib pc tc ic pu bt bi ps bs:Bool}{fa fb fc f:VF}{B B':Bs}{O:Nat->Option Ub}{H H1 H':Hp}{σ:St}{δ δ':Ev}{v:V}{d:c6}{pos:Pos}{st:Um}{rest:List Um}{g g':VS}{z z':VZ}{R:Ue->Option Ub->St->Hp->Prop}
def IZ:PE X e (TV K ml ba ba ba (λ_=>b4)):=λ_ _ _ _ _ _ h=>by obtain⟨_,_,_,_,_,_,q,_⟩:=h;cases q
end
end L2
namespace L2
open PySem
section
variable{α β:Type}{d x y z c:c6}{δ δ1 δ':Ev}{fa fb fc:VF}{o o':c6->c6->Option c6}{i j k n:Nat}{s:Sl}{b:Bool}{ds:List c6}
def q0(r:Option α)(δ:Ev):Option (α×Ev):=r.map λc=>(c,δ)
@[simp] theorem q0_s{a:α}:q0 (b3 a) δ=b3 (a,δ):=rfl
@[simp] theorem fC_e:fC d δ=b3 (d,δ):=rfl
noncomputable def qV:Option Sl->Ev->Option (c6×Ev)
 |some (.va d),δ=>b3 (d,δ)
 |_,_=>b4
noncomputable def qO:Option Sl->Ev->Option (c6×Ev)
 |some (.va d),δ=>b3 (d,δ)
 |some (.ow d),δ=>b3 (d,δ)
 |_,_=>b4
@[simp] theorem fV_e:fV i δ=qV δ[i]? δ:=by unfold fV qV;split<;>simp_all
@[simp] theorem fO_e:fO i δ=qO δ[i]? δ:=by unfold fO qO;split<;>simp_all
@[simp] theorem qV_s:qV (b3 (.va d)) δ=b3 (d,δ):=rfl
@[simp] theorem qO_v:qO (b3 (.va d)) δ=b3 (d,δ):=rfl
@[simp] theorem qO_o:qO (b3 (.ow d)) δ=b3 (d,δ):=rfl
def q1(o:c6->Option c6)(r:Option (c6×Ev)):Option (c6×Ev):=r.bind λp=>q0 (o p.1) p.2
@[simp] theorem f1_e{o:c6->Option c6}:f1 o fa δ=q1 o (fa δ):=rfl
@[simp] theorem q1_s{o:c6->Option c6}:q1 o (b3 (x,δ))=q0 (o x) δ:=rfl
def q2(o:c6->c6->Option c6)(r:Option (c6×Ev))(fb:VF):Option (c6×Ev):=r.bind λp=>(fb p.2).bind λq=>q0 (o p.1 q.1) q.2
def q2b(o:c6->c6->Option c6)(x:c6)(r:Option (c6×Ev)):Option (c6×Ev):=r.bind λq=>q0 (o x q.1) q.2
@[simp] theorem f2_e:f2 o fa fb δ=q2 o (fa δ) fb:=rfl
@[simp] theorem q2_s:q2 o (b3 (x,δ)) fb=q2b o x (fb δ):=rfl
@[simp] theorem uk:q2b o x (b3 (y,δ))=q0 (o x y) δ:=rfl
noncomputable def q3(o o':c6->c6->Option c6)(r:Option (c6×Ev))(fb fc:VF):Option (c6×Ev):=r.bind λp=>(fb p.2).bind λq=>(o p.1 q.1).bind λz=>match z with
 |.bl ba=>(fc q.2).bind λs=>(o' q.1 s.1).map λu=>(u,s.2)
 |.bl bb=>b3 (.bl bb,q.2)
 |_=>b4
def q3b(o o':c6->c6->Option c6)(x:c6)(r:Option (c6×Ev))(fc:VF):Option (c6×Ev):=q3 o o' (b3 (x,[])) (λ_=>r) fc
noncomputable def q3c(o':c6->c6->Option c6)(y:c6)(δ:Ev)(fc:VF):Option c6->Option (c6×Ev)
 |some (.bl ba)=>q2b o' y (fc δ)
 |some (.bl bb)=>b3 (.bl bb,δ)
 |_=>b4
@[simp] theorem f3_e:f3 o o' fa fb fc δ=q3 o o' (fa δ) fb fc:=rfl
@[simp] theorem q3_s:q3 o o' (b3 (x,δ)) fb fc=q3b o o' x (fb δ) fc:=rfl
@[simp] theorem qY:q3b o o' x (b3 (y,δ)) fc=q3c o' y δ fc (o x y):=by
 simp only[q3b,q3,Ar];cases o x y with
 |none=>rfl
 |some z=>cases z with
  |bl b=>cases b<;>rfl
  |_=>rfl
@[simp] theorem vf:q3c o' y δ fc (b3 (.bl ba))=q2b o' y (fc δ):=rfl
@[simp] theorem uo:q3c o' y δ fc (b3 (.bl bb))=b3 (.bl bb,δ):=rfl
noncomputable def qc(r:Option (c6×Ev))(fs:RT):Option (List c6×Ev):=r.bind λp=>(fs p.2).map λq=>(p.1::q.1,q.2)
noncomputable def qcb(x:c6)(r:Option (List c6×Ev)):Option (List c6×Ev):=r.map λq=>(x::q.1,q.2)
@[simp] theorem uN:cR δ=b3 ([],δ):=rfl
@[simp] theorem tN{fs:RT}:c7 fa fs δ=qc (fa δ) fs:=rfl
@[simp] theorem qc_s{fs:RT}:qc (b3 (x,δ)) fs=qcb x (fs δ):=rfl
@[simp] theorem tT:qcb x (b3 (ds,δ))=b3 (x::ds,δ):=rfl
noncomputable def qT(g:List c6->c6)(r:Option (List c6×Ev)):Option (c6×Ev):=r.bind λp=>if p.1.length<=16777216 then b3 (g p.1,p.2)else b4
@[simp] theorem sW{fs:RT}:cJ fs δ=qT .tup (fs δ):=rfl
@[simp] theorem sr{fs:RT}:bC fs δ=qT .lst (fs δ):=rfl
@[simp] theorem qT_s{g:List c6->c6}:qT g (b3 (ds,δ))=if ds.length<=16777216 then b3 (g ds,δ)else b4:=rfl
noncomputable def qB:Option (c6×Ev)->Option (Bool×Ev)
 |some (.bl k,δ)=>b3 (k,δ)
 |_=>b4
@[simp] theorem fB_e:fB fa δ=qB (fa δ):=by
 unfold fB qB;cases fa δ with
 |none=>rfl
 |some p=>
  obtain⟨d,e⟩:=p;cases d<;>rfl
@[simp] theorem qB_s:qB (b3 (.bl b,δ))=b3 (b,δ):=rfl
variable{tb tb':VB}{g g':VS}
noncomputable def qAnd(r:Option (Bool×Ev))(y:VB):Option (Bool×Ev):=r.bind λp=>if p.1=ba then y p.2 else b3 (bb,p.2)
noncomputable def qOr(r:Option (Bool×Ev))(y:VB):Option (Bool×Ev):=r.bind λp=>if p.1=ba then b3 (ba,p.2)else y p.2
noncomputable def qNot(r:Option (Bool×Ev)):Option (Bool×Ev):=r.map λp=>(!p.1,p.2)
@[simp] theorem tO:UC tb tb' δ=qAnd (tb δ) tb':=rfl
@[simp] theorem rh:OJ tb tb' δ=qOr (tb δ) tb':=rfl
@[simp] theorem t9:S9 tb δ=qNot (tb δ):=rfl
@[simp] theorem qv:U4 δ=b3 (ba,δ):=rfl
@[simp] theorem tE:qAnd (b3 (ba,δ)) tb=tb δ:=rfl
@[simp] theorem vY:qAnd (b3 (bb,δ)) tb=b3 (bb,δ):=rfl
@[simp] theorem wg:qOr (b3 (ba,δ)) tb=b3 (ba,δ):=rfl
@[simp] theorem tq:qOr (b3 (bb,δ)) tb=tb δ:=rfl
@[simp] theorem uW:qNot (b3 (b,δ))=b3 (!b,δ):=rfl
noncomputable def qA(r:Option (c6×Ev))(y:VF):Option (c6×Ev):=r.bind λp=>match p.1 with
 |.bl ba=>y p.2
 |.bl bb=>b3 (.bl bb,p.2)
 |_=>b4
@[simp] theorem uX:RZ fa fb δ=qA (fa δ) fb:=rfl
@[simp] theorem qA_t:qA (b3 (.bl ba,δ)) fb=fb δ:=rfl
@[simp] theorem qA_f:qA (b3 (.bl bb,δ)) fb=b3 (.bl bb,δ):=rfl
def qI(r:Option (Bool×Ev))(x y:VF):Option (c6×Ev):=r.bind λp=>if p.1=ba then x p.2 else y p.2
@[simp] theorem tU:fIf tb fa fb δ=qI (tb δ) fa fb:=rfl
@[simp] theorem qI_t:qI (b3 (ba,δ)) fa fb=fa δ:=rfl
@[simp] theorem qI_f:qI (b3 (bb,δ)) fa fb=fb δ:=rfl
def qS(r:Option Ou)(g:VS):Option Ou:=r.bind λo=>match o with
 |.nx δ'=>g δ'
 |o=>b3 o
@[simp] theorem sV:aC δ=b3 (.nx δ):=rfl
@[simp] theorem Y9:cK g g' δ=qS (g δ) g':=rfl
@[simp] theorem TF:qS (b3 (.nx δ)) g=g δ:=rfl
@[simp] theorem qS_r:qS (b3 (.rt d δ)) g=b3 (.rt d δ):=rfl
@[simp] theorem qS_b:qS (b3 (.bk δ)) g=b3 (.bk δ):=rfl
@[simp] theorem qS_c:qS (b3 (.ct δ)) g=b3 (.ct δ):=rfl
def qJ(r:Option (Bool×Ev))(x y:VS):Option Ou:=r.bind λp=>if p.1=ba then x p.2 else y p.2
@[simp] theorem Yt:XU tb g g' δ=qJ (tb δ) g g':=rfl
@[simp] theorem qJ_t:qJ (b3 (ba,δ)) g g'=g δ:=rfl
@[simp] theorem qJ_f:qJ (b3 (bb,δ)) g g'=g' δ:=rfl
noncomputable def qRet(r:Option (c6×Ev)):Option Ou:=r.map λp=>.rt p.1 p.2
@[simp] theorem tL:bP fa δ=qRet (fa δ):=rfl
@[simp] theorem uQ:qRet (b3 (d,δ))=b3 (.rt d δ):=rfl
noncomputable def qx(f:c6->Sl)(r:Option (c6×Ev)):Option (Sl×Ev):=r.map λp=>(f p.1,p.2)
@[simp] theorem xV_e:xV fa δ=qx .va (fa δ):=rfl
@[simp] theorem xO_e:xO fa δ=qx .ow (fa δ):=rfl
@[simp] theorem qx_s{f:c6->Sl}:qx f (b3 (d,δ))=b3 (f d,δ):=rfl
noncomputable def qSet(i:Nat)(r:Option (Sl×Ev)):Option Ou:=r.bind λp=>if i<p.2.length then b3 (.nx (p.2.set i p.1))else b4
@[simp] theorem vj{x:VX}:a8 i x δ=qSet i (x δ):=rfl
@[simp] theorem rX:qSet i (b3 (s,δ))=if i<δ.length then b3 (.nx (δ.set i s))else b4:=rfl
noncomputable def qP2(i j:Nat)(r:Option (Sl×Ev))(y:VX):Option Ou:=r.bind λp=>(y p.2).bind λq=>if i<q.2.length/\j<q.2.length then b3 (.nx ((q.2.set j q.1).set i p.1))else b4
noncomputable def qP2b(i j:Nat)(s:Sl)(r:Option (Sl×Ev)):Option Ou:=r.bind λq=>if i<q.2.length/\j<q.2.length then b3 (.nx ((q.2.set j q.1).set i s))else b4
@[simp] theorem rS{x y:VX}:PR i j x y δ=qP2 i j (x δ) y:=rfl
@[simp] theorem vR{y:VX}:qP2 i j (b3 (s,δ)) y=qP2b i j s (y δ):=rfl
@[simp] theorem vi{s':Sl}:qP2b i j s (b3 (s',δ))=if i<δ.length/\j<δ.length then b3 (.nx ((δ.set j s').set i s))else b4:=rfl
noncomputable def qP3(i j k:Nat)(r:Option (Sl×Ev))(y z:VX):Option Ou:=r.bind λp=>(y p.2).bind λq=>(z q.2).bind λr=>if i<r.2.length/\j<r.2.length/\k<r.2.length then b3 (.nx (((r.2.set k r.1).set j q.1).set i p.1))else b4
noncomputable def qP3b(i j k:Nat)(s:Sl)(r:Option (Sl×Ev))(z:VX):Option Ou:=r.bind λq=>(z q.2).bind λr=>if i<r.2.length/\j<r.2.length/\k<r.2.length then b3 (.nx (((r.2.set k r.1).set j q.1).set i s))else b4
noncomputable def qP3c(i j k:Nat)(s s':Sl)(r:Option (Sl×Ev)):Option Ou:=r.bind λr=>if i<r.2.length/\j<r.2.length/\k<r.2.length then b3 (.nx (((r.2.set k r.1).set j s').set i s))else b4
@[simp] theorem vP{x y z:VX}:N7 i j k x y z δ=qP3 i j k (x δ) y z:=rfl
@[simp] theorem qX{y z:VX}:qP3 i j k (b3 (s,δ)) y z=qP3b i j k s (y δ) z:=rfl
@[simp] theorem tK{s':Sl}{z:VX}:qP3b i j k s (b3 (s',δ)) z=qP3c i j k s s' (z δ):=rfl
@[simp] theorem wa{s' a:Sl}:qP3c i j k s s' (b3 (a,δ))=if i<δ.length/\j<δ.length/\k<δ.length then b3 (.nx (((δ.set k a).set j s').set i s))else b4:=rfl
@[simp] theorem GZ:gN i d δ=b3 (δ.set i (.va d)):=rfl
def qg(r:Option Ev)(a:AI)(ds:List c6):Option Ev:=r.bind λδ1=>a ds δ1
@[simp] theorem rZ:V8 [] δ=b3 δ:=rfl
@[simp] theorem vJ{gg:VG}{a:AI}:aL gg a (d::ds) δ=qg (gg d δ) a ds:=rfl
@[simp] theorem qg_s{a:AI}:qg (b3 δ) a ds=a ds δ:=rfl
@[simp] theorem wd{a:AI}:FE n a (.tup ds) δ=if ds.length=n then a ds δ else b4:=rfl
@[simp] theorem qQ{a:AI}:FE n a (.lst ds) δ=if ds.length=n then a ds δ else b4:=rfl
noncomputable def qAsg(r:Option (c6×Ev))(gg:VG):Option Ou:=r.bind λp=>(gg p.1 p.2).map Ou.nx
@[simp] theorem qW{gg:VG}:CB fa gg δ=qAsg (fa δ) gg:=rfl
@[simp] theorem t0{gg:VG}:qAsg (b3 (d,δ)) gg=(gg d δ).map Ou.nx:=rfl
def qM(i:Nat)(m:List c6->List c6->Option (List c6))(r:Option (List c6))(δ:Ev)(fs:RT):Option Ou:=r.bind λ_=>(fs δ).bind λp=>(PD p.2 i).bind λds=>(m ds p.1).map λa=>.nx (p.2.set i (.ow (.lst a)))
def qMb(i:Nat)(m:List c6->List c6->Option (List c6))(r:Option (List c6×Ev)):Option Ou:=r.bind λp=>(PD p.2 i).bind λds=>(m ds p.1).map λa=>.nx (p.2.set i (.ow (.lst a)))
noncomputable def qMc(i:Nat)(m:List c6->List c6->Option (List c6))(es:List c6)(δ:Ev)(r:Option (List c6)):Option Ou:=r.bind λds=>(m ds es).map λa=>.nx (δ.set i (.ow (.lst a)))
noncomputable def qMd(i:Nat)(δ:Ev)(r:Option (List c6)):Option Ou:=r.map λa=>.nx (δ.set i (.ow (.lst a)))
@[simp] theorem rG{m:List c6->List c6->Option (List c6)}{fs:RT}:W0 i m fs δ=qM i m (PD δ i) δ fs:=rfl
@[simp] theorem qM_s{m:List c6->List c6->Option (List c6)}{fs:RT}:qM i m (b3 ds) δ fs=qMb i m (fs δ):=rfl
@[simp] theorem w8{m:List c6->List c6->Option (List c6)}{es:List c6}:qMb i m (b3 (es,δ))=qMc i m es δ (PD δ i):=rfl
@[simp] theorem vq{m:List c6->List c6->Option (List c6)}{es:List c6}:qMc i m es δ (b3 ds)=qMd i δ (m ds es):=rfl
@[simp] theorem vC:qMd i δ (b3 ds)=b3 (.nx (δ.set i (.ow (.lst ds)))):=rfl
noncomputable def qOl:Option Sl->Option (List c6)
 |some (.ow (.lst ds))=>b3 ds
 |_=>b4
@[simp] theorem vp:PD δ i=qOl δ[i]? :=by unfold PD qOl;split<;>simp_all
@[simp] theorem wo:qOl (b3 (.ow (.lst ds)))=b3 ds:=rfl
@[simp] theorem qP:TC ds [d]=if ds.length<16777216 then b3 (ds++[d])else b4:=rfl
noncomputable def qOd:Option Sl->Option (List aY×List c6)
 |some (.ow (.dct ks ds))=>b3 (ks,ds)
 |_=>b4
@[simp] theorem uw:XM δ i=qOd δ[i]? :=by unfold XM qOd;split<;>simp_all
@[simp] theorem wb{ks:List aY}:qOd (b3 (.ow (.dct ks ds)))=b3 (ks,ds):=rfl
def qi(r:Option (c6×Ev)):Option (List c6×Ev):=r.bind λp=>(XO p.1).map λds=>(ds,p.2)
@[simp] theorem um:U5 fa δ=qi (fa δ):=rfl
@[simp] theorem qi_t:qi (b3 (.tup ds,δ))=b3 (ds,δ):=rfl
@[simp] theorem qi_l:qi (b3 (.lst ds,δ))=b3 (ds,δ):=rfl
noncomputable def qr1:Option (c6×Ev)->Option (List c6×Ev)
 |some (.int j,δ)=>if -4611686018427387904<=j/\j<4611686018427387904 then b3 (ZN 0 j.toNat,δ)else b4
 |_=>b4
@[simp] theorem u9:FF fa δ=qr1 (fa δ):=by
 unfold FF qr1;cases fa δ with
 |none=>rfl
 |some p=>
  obtain⟨d,e⟩:=p;cases d<;>rfl
@[simp] theorem tR{j:Int}:qr1 (b3 (.int j,δ))=if -4611686018427387904<=j/\j<4611686018427387904 then b3 (ZN 0 j.toNat,δ)else b4:=rfl
def qe(r:Option (c6×Ev)):Option (List c6×Ev):=r.bind λp=>(XO p.1).map λds=>(YG 0 ds,p.2)
@[simp] theorem ul:NI fa δ=qe (fa δ):=rfl
@[simp] theorem qe_t:qe (b3 (.tup ds,δ))=b3 (YG 0 ds,δ):=rfl
@[simp] theorem qe_l:qe (b3 (.lst ds,δ))=b3 (YG 0 ds,δ):=rfl
def qz(r:Option (c6×Ev))(g:VF):Option (List c6×Ev):=r.bind λp=>(g p.2).bind λq=>(XO p.1).bind λds=>(XO q.1).map λes=>(TJ ds es,q.2)
def qzb(x:c6)(r:Option (c6×Ev)):Option (List c6×Ev):=r.bind λq=>(XO x).bind λds=>(XO q.1).map λes=>(TJ ds es,q.2)
@[simp] theorem uU:iZip fa fb δ=qz (fa δ) fb:=rfl
@[simp] theorem qz_s:qz (b3 (x,δ)) fb=qzb x (fb δ):=rfl
@[simp] theorem rj:qzb x (b3 (y,δ))=(XO x).bind λds=>(XO y).map λes=>(TJ ds es,δ):=rfl
@[simp] theorem vM:XO (.tup ds)=b3 ds:=rfl
@[simp] theorem sL:XO (.lst ds)=b3 ds:=rfl
def qF(r:Option (List c6×Ev))(gg:VG)(g:VS):Option Ou:=r.bind λp=>WW gg g p.1 p.2
@[simp] theorem Zd{fi:VI}{gg:VG}:UT fi gg g δ=qF (fi δ) gg g:=rfl
@[simp] theorem qF_s{gg:VG}:qF (b3 (ds,δ)) gg g=WW gg g ds δ:=rfl
def qK(ix:List Nat)(nl:Nat)(r:Option (List c6×Ev))(gg:VG)(tb:VB)(fe:VF):Option (c6×Ev):=r.bind λp=>(ZW ix.length nl gg tb fe p.1 [] (aV ix p.2)).map λq=>(.lst q.1,Y1 ix q.2 p.2)
def qKb(ix:List Nat)(δ:Ev)(r:Option (List c6×Ev)):Option (c6×Ev):=r.map λq=>(.lst q.1,Y1 ix q.2 δ)
@[simp] theorem sF{ix:List Nat}{nl:Nat}{fi:VI}{gg:VG}:ZX ix nl fi gg tb fa δ=qK ix nl (fi δ) gg tb fa:=rfl
@[simp] theorem qK_s{ix:List Nat}{nl:Nat}{gg:VG}:qK ix nl (b3 (ds,δ)) gg tb fa=qKb ix δ (ZW ix.length nl gg tb fa ds [] (aV ix δ)):=rfl
@[simp] theorem ui{ix:List Nat}:qKb ix δ (b3 (ds,δ1))=b3 (.lst ds,Y1 ix δ1 δ):=rfl
variable{as:List AV}{fs:T9}{mF:List Nat}{F:bW}
noncomputable def qa(r:Option (c6×Ev))(fs:T9):Option (List AV×Ev):=r.bind λp=>(fs p.2).map λq=>(.d p.1::q.1,q.2)
noncomputable def qab(x:AV)(r:Option (List AV×Ev)):Option (List AV×Ev):=r.map λq=>(x::q.1,q.2)
@[simp] theorem jY:cE δ=b3 ([],δ):=rfl
@[simp] theorem GN:aE fa fs δ=qa (fa δ) fs:=rfl
@[simp] theorem qa_s:qa (b3 (x,δ)) fs=qab (.d x) (fs δ):=rfl
@[simp] theorem Vc{a:AV}:qab a (b3 (as,δ))=b3 (a::as,δ):=rfl
def qao(j:Nat)(r:Option c6)(δ:Ev)(fs:T9):Option (List AV×Ev):=r.bind λ_=>qab (.o j) (fs δ)
@[simp] theorem aO_e:aO j fs δ=qao j (slot δ j) δ fs:=rfl
@[simp] theorem fN:qao j (b3 d) δ fs=qab (.o j) (fs δ):=rfl
noncomputable def qsl:Option Sl->Option c6
 |some (.va d)=>b3 d
 |some (.ow d)=>b3 d
 |_=>b4
@[simp] theorem si:slot δ j=qsl δ[j]? :=by unfold slot qsl;split<;>simp_all
@[simp] theorem v8:qsl (b3 (.va d))=b3 d:=rfl
@[simp] theorem tS:qsl (b3 (.ow d))=b3 d:=rfl
@[simp] theorem vS:XH δ []=b3 []:=rfl
@[simp] theorem sg:XH δ (.d d::as)=(XH δ as).map λds=>d::ds:=rfl
@[simp] theorem uL:XH δ (.o j::as)=(slot δ j).bind λd=>(XH δ as).map λds=>d::ds:=rfl
def Wk(n:Nat)(mF:List Nat)(F:bW)(r:Option (List AV×Ev)):Option (c6×Ev):=r.bind λp=>(XH p.2 p.1).bind λds=>if ds.length=n/\VH mF p.1 p.2=ba then(F ds).bind λq=>if WK mF p.1 q.1 q.2=ba then b3 (q.1,WT p.1 mF q.2 p.2)else b4 else b4
def qCb(n:Nat)(mF:List Nat)(F:bW)(as:List AV)(δ:Ev)(r:Option (List c6)):Option (c6×Ev):=r.bind λds=>if ds.length=n/\VH mF as δ=ba then(F ds).bind λq=>if WK mF as q.1 q.2=ba then b3 (q.1,WT as mF q.2 δ)else b4 else b4
def qCc(mF:List Nat)(as:List AV)(δ:Ev)(r:Option (c6×List c6)):Option (c6×Ev):=r.bind λq=>if WK mF as q.1 q.2=ba then b3 (q.1,WT as mF q.2 δ)else b4
@[simp] theorem OP:cP n mF F fs δ=Wk n mF F (fs δ):=rfl
@[simp] theorem lF:Wk n mF F (b3 (as,δ))=qCb n mF F as δ (XH δ as):=rfl
@[simp] theorem nF:qCb n mF F as δ (b3 ds)=if ds.length=n/\VH mF as δ=ba then qCc mF as δ (F ds)else b4:=rfl
@[simp] theorem nE{os:List c6}:qCc mF as δ (b3 (d,os))=if WK mF as d os=ba then b3 (d,WT as mF os δ)else b4:=rfl
@[simp] theorem qR:DO δ as i=(match as[i]? with
 |some (.o j)=>match δ[j]? with
  |some (.ow _)=>ba
  |_=>bb
 |_=>bb):=rfl
@[simp] theorem uS:WX []=[]:=rfl
@[simp] theorem wn:WX (.d d::as)=WX as:=rfl
@[simp] theorem sY:WX (.o j::as)=j::WX as:=rfl
@[simp] theorem uC:VH mF as δ=(mF.all (DO δ as)&&decide (WX as).Nodup):=rfl
@[simp] theorem sj:YF mF [] i=ba:=rfl
@[simp] theorem vT:YF mF (.d d::as) i=YF mF as (i+1):=rfl
@[simp] theorem sQ:YF mF (.o j::as) i=(decide (i∈mF)&&YF mF as (i+1)):=rfl
@[simp] theorem uh{os:List c6}:WK mF as d os=((YF mF as 0 || d.hard)&&(YF mF as 0 || os.all UM)&&decide (mF.length=os.length)):=rfl
@[simp] theorem vy{os:List c6}:WT as [] os δ=δ:=by cases os<;>rfl
@[simp] theorem tY{os:List c6}{is:List Nat}:WT as (i::is) (d::os) δ=(match as[i]? with
  |some (.o j)=>WT as is os (δ.set j (.ow d))
  |_=>WT as is os δ):=rfl
noncomputable def qins(r:Option (c6×List c6)):Option (c6×List c6):=r.map λq=>(q.1,q.2.dropLast)
@[simp] theorem rW:insD i F ds=qins (F (ds.take i++ .dct [] []::ds.drop i)):=rfl
@[simp] theorem sE{os:List c6}:qins (b3 (d,os))=b3 (d,os.dropLast):=rfl
@[simp] theorem rM:pNo δ=b3 (b4,δ):=rfl
noncomputable def qpS:Option (c6×Ev)->Option (Option Int×Ev)
 |some (.int i,δ)=>b3 (b3 i,δ)
 |_=>b4
@[simp] theorem tG:DV fa δ=qpS (fa δ):=by
 unfold DV qpS;cases fa δ with
 |none=>rfl
 |some p=>
  obtain⟨d,e⟩:=p;cases d<;>rfl
@[simp] theorem sP{i:Int}:qpS (b3 (.int i,δ))=b3 (b3 i,δ):=rfl
def qSl(r:Option (c6×Ev))(a b:VP):Option (c6×Ev):=r.bind λp=>(a p.2).bind λl=>(b l.2).bind λu=>(oSl p.1 l.1 u.1).map λc=>(c,u.2)
def qSlb(x:c6)(r:Option (Option Int×Ev))(a:VP):Option (c6×Ev):=r.bind λl=>(a l.2).bind λu=>(oSl x l.1 u.1).map λc=>(c,u.2)
def qSlc(x:c6)(l:Option Int)(r:Option (Option Int×Ev)):Option (c6×Ev):=r.bind λu=>q0 (oSl x l u.1) u.2
@[simp] theorem uv{a b:VP}:DA fa a b δ=qSl (fa δ) a b:=rfl
@[simp] theorem vb{a b:VP}:qSl (b3 (x,δ)) a b=qSlb x (a δ) b:=rfl
@[simp] theorem sI{l:Option Int}{a:VP}:qSlb x (b3 (l,δ)) a=qSlc x l (a δ):=rfl
@[simp] theorem vF{l u:Option Int}:qSlc x l (b3 (u,δ))=q0 (oSl x l u) δ:=rfl
@[simp] theorem vd{l u:Option Int}:oSl (.tup ds) l u=b3 (.tup (V7 ds l u)):=rfl
@[simp] theorem sX{l u:Option Int}:oSl (.lst ds) l u=b3 (.lst (V7 ds l u)):=rfl
noncomputable def qSt(i j:Nat):Option (c6×Ev)->Option Ou
 |some (.tup (d::ds),δ)=>b3 (.nx ((δ.set i (.va d)).set j (.va (.lst ds))))
 |_=>b4
@[simp] theorem v7:IE i j fa δ=qSt i j (fa δ):=by
 unfold IE qSt;cases fa δ with
 |none=>rfl
 |some p=>
  obtain⟨d,e⟩:=p;cases d with
  |tup ds=>cases ds<;>rfl
  |_=>rfl
@[simp] theorem wl:qSt i j (b3 (.tup (d::ds),δ))=b3 (.nx ((δ.set i (.va d)).set j (.va (.lst ds)))):=rfl
def qDg(i:Nat)(r:Option (List aY×List c6))(δ:Ev)(fk fx:VF):Option (c6×Ev):=r.bind λ_=>(fk δ).bind λp=>(fx p.2).bind λq=>(V9 p.1).bind λk=>(XM q.2 i).map λz=>((bF z.1 z.2 k).getD q.1,q.2)
def qDgb(i:Nat)(r:Option (c6×Ev))(fx:VF):Option (c6×Ev):=r.bind λp=>(fx p.2).bind λq=>(V9 p.1).bind λk=>(XM q.2 i).map λz=>((bF z.1 z.2 k).getD q.1,q.2)
def qDgc(i:Nat)(x:c6)(r:Option (c6×Ev)):Option (c6×Ev):=r.bind λq=>(V9 x).bind λk=>(XM q.2 i).map λz=>((bF z.1 z.2 k).getD q.1,q.2)
@[simp] theorem vA:JQ i fa fb δ=qDg i (XM δ i) δ fa fb:=rfl
@[simp] theorem sG{z:List aY×List c6}:qDg i (b3 z) δ fa fb=qDgb i (fa δ) fb:=rfl
@[simp] theorem r6:qDgb i (b3 (x,δ)) fb=qDgc i x (fb δ):=rfl
@[simp] theorem uE:qDgc i x (b3 (y,δ))=(V9 x).bind λk=>(XM δ i).map λz=>((bF z.1 z.2 k).getD y,δ):=rfl
def qDp(i:Nat)(r:Option (c6×Ev))(fk:VF):Option Ou:=r.bind λp=>(XM p.2 i).bind λ_=>(fk p.2).bind λq=>(V9 q.1).bind λk=>(XM q.2 i).bind λz=>if z.1.length<16777216/\z.1.Nodup then b3 (.nx (q.2.set i (.ow (let r:=YL z.1 z.2 k p.1;.dct r.1 r.2))))else b4
def qDpb(i:Nat)(x:c6)(r:Option (List aY×List c6))(δ:Ev)(fk:VF):Option Ou:=r.bind λ_=>(fk δ).bind λq=>(V9 q.1).bind λk=>(XM q.2 i).bind λz=>if z.1.length<16777216/\z.1.Nodup then b3 (.nx (q.2.set i (.ow (let r:=YL z.1 z.2 k x;.dct r.1 r.2))))else b4
def qDpc(i:Nat)(x:c6)(r:Option (c6×Ev)):Option Ou:=r.bind λq=>(V9 q.1).bind λk=>(XM q.2 i).bind λz=>if z.1.length<16777216/\z.1.Nodup then b3 (.nx (q.2.set i (.ow (.dct (YL z.1 z.2 k x).1 (YL z.1 z.2 k x).2))))else b4
@[simp] theorem rq{fk fv:VF}:IC i fk fv δ=qDp i (fv δ) fk:=rfl
@[simp] theorem vh{fk:VF}:qDp i (b3 (x,δ)) fk=qDpb i x (XM δ i) δ fk:=rfl
@[simp] theorem vk{z:List aY×List c6}{fk:VF}:qDpb i x (b3 z) δ fk=qDpc i x (fk δ):=rfl
@[simp] theorem rT:qDpc i x (b3 (y,δ))=(V9 y).bind λk=>(XM δ i).bind λz=>if z.1.length<16777216/\z.1.Nodup then b3 (.nx (δ.set i (.ow (.dct (YL z.1 z.2 k x).1 (YL z.1 z.2 k x).2))))else b4:=rfl
@[simp] theorem ua{i:Int}:V9 (.int i)=b3 (.inl i):=rfl
@[simp] theorem uf{s:Ue}:V9 (.str s)=b3 (.inr s):=rfl
def B4(ml:List Nat):Option Ou->Option (c6×List c6)
 |some (.rt d δ)=>(US ml δ).map λos=>(d,os)
 |some (.nx δ)=>(US ml δ).map λos=>(.non,os)
 |_=>b4
def bK{ml:List Nat}:Z9 n ml g ds=B4 ml (g (bG ml n ds)):=by
 unfold Z9 B4;cases g (bG ml n ds)with
 |none=>rfl
 |some o=>cases o<;>rfl
@[simp] theorem sC{ml:List Nat}:B4 ml (b3 (.rt d δ))=(US ml δ).map λos=>(d,os):=rfl
@[simp] theorem uK{ml:List Nat}:B4 ml (b3 (.nx δ))=(US ml δ).map λos=>(.non,os):=rfl
def qow:Option Sl->Option c6
 |some (.ow d)=>b3 d
 |_=>b4
@[simp] theorem wc:US [] δ=b3 []:=rfl
@[simp] theorem uA{ml:List Nat}:US (i::ml) δ=(qow δ[i]?).bind λd=>(US ml δ).map λos=>d::os:=by
 unfold US;rw[Rv];cases h:(δ[i]? :Option Sl)with
 |none=>rfl
 | some s => cases s with
  |no=>rfl
  |va d=>rfl
  |ow d=>
   show(Option.bind _ λos=>b3 (d::os))=Option.map (λos=>d::os) _;cases (List.mapM _ ml:Option (List c6))<;>rfl
@[simp] theorem vE:qow (b3 (.ow d))=b3 d:=rfl
end
section
variable{i j:Int}{x y:Ue}{ds es:List c6}
@[simp] theorem oI_e{C:Int->Int->Bool}{g:Int->Int->c6}:oI C g (.int i) (.int j)=if C i j=ba then b3 (g i j)else b4:=rfl
@[simp] theorem uZ:aS (.int i) (.int j)=b3 (.int (i+j)):=rfl
@[simp] theorem tj:aS (.tup ds) (.tup es)=if ds.length+es.length<=16777216 then b3 (.tup (ds++es))else b4:=rfl
@[simp] theorem v5:aS (.lst ds) (.lst es)=if ds.length+es.length<=16777216 then b3 (.lst (ds++es))else b4:=rfl
@[simp] theorem tw{g:Int->Int->Int}:o2I g (.int i) (.int j)=b3 (.int (g i j)):=rfl
@[simp] theorem tV:Y8 (.tup ds)=b3 (.int ds.length):=rfl
@[simp] theorem w9:Y8 (.lst ds)=b3 (.int ds.length):=rfl
@[simp] theorem vB:HK (.tup ds)=b3 (.lst ds):=rfl
@[simp] theorem qN:HK (.lst ds)=b3 (.lst ds):=rfl
@[simp] theorem uP:VQ (.tup ds)=b3 (.tup ds):=rfl
@[simp] theorem ue:VQ (.lst ds)=b3 (.tup ds):=rfl
@[simp] theorem v6:bL (.tup ds) (.int i)=UA ds i:=rfl
@[simp] theorem uJ:bL (.lst ds) (.int i)=UA ds i:=rfl
@[simp] theorem ug{ks:List aY}:bL (.dct ks ds) (.int i)=bF ks ds (.inl i):=rfl
@[simp] theorem uj{ks:List aY}:bL (.dct ks ds) (.str x)=bF ks ds (.inr x):=rfl
@[simp] theorem wm:LS (.int i)=ba:=rfl
@[simp] theorem sS:LS .non=ba:=rfl
@[simp] theorem vN{b:Bool}:LS (.bl b)=ba:=rfl
@[simp] theorem vt:QA "int" "bool"=b3 bb:=by decide+kernel
@[simp] theorem rk:QA "int" "int"=b3 ba:=by decide+kernel
@[simp] theorem rC:QA "tuple" "tuple"=b3 ba:=by decide+kernel
@[simp] theorem sH:QA "str" "str"=b3 ba:=by decide+kernel
@[simp] theorem qL:QA "list" "list"=b3 ba:=by decide+kernel
@[simp] theorem sT{n:String}:TD (.int i) (.ty n)=(QA "int" n).map c6.bl:=rfl
@[simp] theorem tH{n:String}:TD (.tup ds) (.ty n)=(QA "tuple" n).map c6.bl:=rfl
@[simp] theorem rR{n:String}:TD (.lst ds) (.ty n)=(QA "list" n).map c6.bl:=rfl
@[simp] theorem uG{n:String}:TD (.str x) (.ty n)=(QA "str" n).map c6.bl:=rfl
@[simp] theorem uI:MV .non .non=b3 (.bl ba):=rfl
@[simp] theorem rn:MV (.int i) .non=b3 (.bl bb):=rfl
@[simp] theorem rJ:MV (.str x) .non=b3 (.bl bb):=rfl
@[simp] theorem vm:MV (.tup ds) .non=b3 (.bl bb):=rfl
@[simp] theorem uT:PQ .non .non=b3 (.bl bb):=rfl
@[simp] theorem sN:PQ (.int i) .non=b3 (.bl ba):=rfl
@[simp] theorem tJ:PQ (.str x) .non=b3 (.bl ba):=rfl
@[simp] theorem sy:PQ (.tup ds) .non=b3 (.bl ba):=rfl
end
section
variable{d x:c6}{δ δ1:Ev}{r acc:List c6}{gg:VG}{tb:VB}{fe:VF}{n nl:Nat}{g:VS}
def qk1(n nl:Nat)(gg:VG)(tb:VB)(fe:VF)(r acc:List c6)(o:Option Ev):Option (List c6×Ev):=o.bind λδ1=>(tb δ1).bind λp=>if p.1=ba then(fe p.2).bind λq=>if acc.length<16777216 then ZW n nl gg tb fe r (acc++[q.1]) (q.2.take n)else b4 else ZW n nl gg tb fe r acc (p.2.take n)
def qk2(n nl:Nat)(gg:VG)(tb:VB)(fe:VF)(r acc:List c6)(o:Option (Bool×Ev)):Option (List c6×Ev):=o.bind λp=>if p.1=ba then(fe p.2).bind λq=>if acc.length<16777216 then ZW n nl gg tb fe r (acc++[q.1]) (q.2.take n)else b4 else ZW n nl gg tb fe r acc (p.2.take n)
def qk3(n nl:Nat)(gg:VG)(tb:VB)(fe:VF)(r acc:List c6)(o:Option (c6×Ev)):Option (List c6×Ev):=o.bind λq=>if acc.length<16777216 then ZW n nl gg tb fe r (acc++[q.1]) (q.2.take n)else b4
@[simp] theorem sO:ZW n nl gg tb fe [] acc δ=b3 (acc,δ):=rfl
@[simp] theorem QW:ZW n nl gg tb fe (d::r) acc δ=qk1 n nl gg tb fe r acc (gg d (δ++GK nl)):=rfl
@[simp] theorem HX:qk1 n nl gg tb fe r acc (b3 δ)=qk2 n nl gg tb fe r acc (tb δ):=rfl
@[simp] theorem Vd:qk2 n nl gg tb fe r acc (b3 (ba,δ))=qk3 n nl gg tb fe r acc (fe δ):=rfl
@[simp] theorem Wm:qk2 n nl gg tb fe r acc (b3 (bb,δ))=ZW n nl gg tb fe r acc (δ.take n):=rfl
@[simp] theorem Va:qk3 n nl gg tb fe r acc (b3 (x,δ))=if acc.length<16777216 then ZW n nl gg tb fe r (acc++[x]) (δ.take n)else b4:=rfl
def qf1(gg:VG)(g:VS)(r:List c6)(o:Option Ev):Option Ou:=o.bind λδ1=>(g δ1).bind (YE (WW gg g r))
def qf2(gg:VG)(g:VS)(r:List c6)(o:Option Ou):Option Ou:=o.bind (YE (WW gg g r))
@[simp] theorem kY:WW gg g [] δ=b3 (.nx δ):=rfl
@[simp] theorem R0:WW gg g (d::r) δ=qf1 gg g r (gg d δ):=rfl
@[simp] theorem N2:qf1 gg g r (b3 δ)=qf2 gg g r (g δ):=rfl
@[simp] theorem N3:qf2 gg g r (b3 (.nx δ))=WW gg g r δ:=rfl
@[simp] theorem sJ:qf2 gg g r (b3 (.ct δ))=WW gg g r δ:=rfl
@[simp] theorem rV:qf2 gg g r (b3 (.bk δ))=b3 (.nx δ):=rfl
@[simp] theorem vL:qf2 gg g r (b3 (.rt d δ))=b3 (.rt d δ):=rfl
@[simp] theorem sf{ss:Ev}:Y1 [] ss δ=δ:=by cases ss<;>rfl
@[simp] theorem vX{i:Nat}{is:List Nat}{ss:Ev}:Y1 (i::is) (.ow d::ss) δ=Y1 is ss (δ.set i (.ow d)):=rfl
@[simp] theorem qZ{i:Nat}{is:List Nat}{ss:Ev}:Y1 (i::is) (.va d::ss) δ=Y1 is ss δ:=rfl
@[simp] theorem rN{i:Nat}{is:List Nat}{ss:Ev}:Y1 (i::is) (.no::ss) δ=Y1 is ss δ:=rfl
end
@[simp] theorem Ve:GK 1=[.no]:=rfl
@[simp] theorem Vv:GK 2=[.no,.no]:=rfl
@[simp] theorem rA:GK 3=[.no,.no,.no]:=rfl
@[simp] theorem tP{i:Int}:ZN i 0=[]:=rfl
@[simp] theorem vU:ZN 0 1=[.int 0]:=rfl
@[simp] theorem rD:ZN 0 2=[.int 0,.int 1]:=rfl
@[simp] theorem uH:ZN 0 3=[.int 0,.int 1,.int 2]:=rfl
@[simp] theorem tZ:ZN 0 4=[.int 0,.int 1,.int 2,.int 3]:=rfl
def UB{α:Type}{xs:List α}{i:Int}(a:0<=i)(h1:i<xs.length):UA xs i=xs[i.toNat]? :=by unfold UA BC;rw[if_pos a,if_pos h1];rfl
def E4{α:Type}{xs:List α}{i:Int}(a:0<=i)(h1:i<xs.length):∃x∈xs,UA xs i=b3 x:=by
 rw[UB a h1];have h:i.toNat<xs.length:=by lia
 exact⟨xs[i.toNat],Mc _,Cs h⟩
section
variable{F:bW}{fa fb fc:VF}{δ:Ev}{x y z d o:c6}{j:Nat}
noncomputable def B5(δ:Ev):Option (c6×List c6)->Option (c6×Ev)
 |some (d,[])=>b3 (d,δ)
 |_=>b4
@[simp] theorem ur:B5 δ (b3 (d,[]))=b3 (d,δ):=rfl
def E6{n:Nat}{ds:List c6}{as:List AV}(h:XH δ as=b3 ds)(a:ds.length=n)(b:WX as=[])(c:YF [] as 0=ba):qCb n [] F as δ (b3 ds)=B5 δ (F ds):=by
 have hc:VH [] as δ=ba:=by simp[b]
 rw[nF,if_pos ⟨a,hc⟩];cases F ds with
 |none=>rfl
 |some q=>
  obtain⟨r,os⟩:=q;rw[nE];cases os with
  |nil=>simp[c,B5]
  |cons o os=>simp[B5]
def qx1(F:bW)(r:Option (c6×Ev)):Option (c6×Ev):=r.bind λp=>B5 p.2 (F [p.1])
@[simp] theorem rL:qx1 F (b3 (x,δ))=B5 δ (F [x]):=rfl
@[simp high] theorem call1:cP 1 [] F (aE fa cE) δ=qx1 F (fa δ):=by
 rw[OP,GN];cases fa δ with
 |none=>rfl
 |some p=>exact E6 (as:=[.d p.1]) rfl rfl rfl rfl
def qx2(F:bW)(r:Option (c6×Ev))(fb:VF):Option (c6×Ev):=r.bind λp=>(fb p.2).bind λq=>B5 q.2 (F [p.1,q.1])
def qx2b(F:bW)(x:c6)(r:Option (c6×Ev)):Option (c6×Ev):=r.bind λq=>B5 q.2 (F [x,q.1])
@[simp] theorem iA:qx2 F (b3 (x,δ)) fb=qx2b F x (fb δ):=rfl
@[simp] theorem rQ:qx2b F x (b3 (y,δ))=B5 δ (F [x,y]):=rfl
@[simp high] theorem call2:cP 2 [] F (aE fa (aE fb cE)) δ=qx2 F (fa δ) fb:=by
 rw[OP,GN];cases fa δ with
 |none=>rfl
 |some p=>
  rw[qa_s,GN,iA];cases fb p.2 with
  |none=>rfl
  |some q=>exact E6 (as:=[.d p.1,.d q.1]) rfl rfl rfl rfl
def qx3(F:bW)(r:Option (c6×Ev))(fb fc:VF):Option (c6×Ev):=r.bind λp=>(fb p.2).bind λq=>(fc q.2).bind λs=>B5 s.2 (F [p.1,q.1,s.1])
def qx3b(F:bW)(x:c6)(r:Option (c6×Ev))(fc:VF):Option (c6×Ev):=r.bind λq=>(fc q.2).bind λs=>B5 s.2 (F [x,q.1,s.1])
def qx3c(F:bW)(x y:c6)(r:Option (c6×Ev)):Option (c6×Ev):=r.bind λs=>B5 s.2 (F [x,y,s.1])
@[simp] theorem gH:qx3 F (b3 (x,δ)) fb fc=qx3b F x (fb δ) fc:=rfl
@[simp] theorem lZ:qx3b F x (b3 (y,δ)) fc=qx3c F x y (fc δ):=rfl
@[simp] theorem tI:qx3c F x y (b3 (z,δ))=B5 δ (F [x,y,z]):=rfl
@[simp high] theorem call3:cP 3 [] F (aE fa (aE fb (aE fc cE))) δ=qx3 F (fa δ) fb fc:=by
 rw[OP,GN];cases fa δ with
 |none=>rfl
 |some p=>
  rw[qa_s,GN,gH];cases fb p.2 with
  |none=>rfl
  |some q=>
   rw[qa_s,GN,lZ];cases fc q.2 with
   |none=>rfl
   |some s=>exact E6 (as:=[.d p.1,.d q.1,.d s.1]) rfl rfl rfl rfl
noncomputable def qw3(j:Nat)(δ:Ev):Option (c6×List c6)->Option (c6×Ev)
 |some (r,[o])=>b3 (r,δ.set j (.ow o))
 |_=>b4
def qw2(F:bW)(j:Nat)(x y:c6)(δ:Ev):Option Sl->Option (c6×Ev)
 |some (.ow d)=>qw3 j δ (F [x,d,y])
 |_=>b4
def qwb(F:bW)(j:Nat)(x:c6)(r:Option (c6×Ev)):Option (c6×Ev):=r.bind λq=>qw2 F j x q.1 q.2 q.2[j]?
def qwa(F:bW)(j:Nat)(x:c6)(δ:Ev)(fb:VF)(s:Option c6):Option (c6×Ev):=s.bind λ_=>qwb F j x (fb δ)
def qw(F:bW)(j:Nat)(r:Option (c6×Ev))(fb:VF):Option (c6×Ev):=r.bind λp=>qwa F j p.1 p.2 fb (slot p.2 j)
@[simp] theorem w6:qw3 j δ (b3 (x,[o]))=b3 (x,δ.set j (.ow o)):=rfl
@[simp] theorem rp:qw2 F j x y δ (b3 (.ow d))=qw3 j δ (F [x,d,y]):=rfl
@[simp] theorem kK:qwb F j x (b3 (y,δ))=qw2 F j x y δ δ[j]? :=rfl
@[simp] theorem fA:qwa F j x δ fb (b3 d)=qwb F j x (fb δ):=rfl
@[simp] theorem qw_s:qw F j (b3 (x,δ)) fb=qwa F j x δ fb (slot δ j):=rfl
@[simp high] theorem callO:cP 3 [1] F (aE fa (aO j (aE fb cE))) δ=qw F j (fa δ) fb:=by
 rw[OP,GN];cases fa δ with
 |none=>rfl
 |some p=>
  obtain⟨x,δ1⟩:=p;rw[qa_s,aO_e,qw_s];cases h:slot δ1 j with
  |none=>rfl
  |some d0=>
   rw[fN,GN,fA];cases fb δ1 with
   |none=>rfl
   |some q=>
    obtain⟨y,δ2⟩:=q;rw[kK,qa_s,jY,Vc,Vc,Vc,lF];cases h2:δ2[j]? with
    |none=>simp[h2,qsl,qCb,qw2]
    |some s=>
     cases s with
     |no=>simp[h2,qsl,qCb,qw2]
     |va d=>simp[h2,qw2]
     |ow d=>
      simp[h2];cases F [x,d,y]with
      |none=>rfl
      |some r=>
       obtain⟨v,os⟩:=r;cases os with
       |nil=>simp[qw3]
       |cons o os=>
        cases os with
        |nil=>simp
        |cons a os=>simp[qw3]
end
section
variable{δ:Ev}{i j k l:Nat}{d e:c6}{ds es zs:List c6}{sh:List (Option Nat)}{fv fk:VF}{fs:RT}{fg:T9}{F:bW}{n m:Int}{as:List AV}
@[simp] theorem tQ:PB (b4::sh) (d::ds) 0=b3 d:=rfl
@[simp] theorem vw:NL (b3 k::sh) ds 0=b3 (ds.take k):=rfl
@[simp] theorem vZ:NL (b4::sh) (d::ds) 1=NL sh ds 0:=rfl
@[simp] theorem w5:PF (b4::sh) (e::ds) 0 d=d::ds:=rfl
@[simp] theorem rH:RE (b3 k::sh) ds 0 es=es++ds.drop k:=rfl
@[simp] theorem sx:RE (b4::sh) (e::ds) 1 es=e::RE sh ds 0 es:=rfl
def qNv(j:Nat)(δ:Ev):Option Sl->Option (c6×Ev)
 |some (.ow (.nst sh ds))=>(PB sh ds j).map λd=>(d,δ)
 |_=>b4
@[simp] theorem rl:fNv i j δ=qNv j δ δ[i]? :=rfl
@[simp] theorem vK:qNv j δ (b3 (.ow (.nst sh ds)))=(PB sh ds j).map λd=>(d,δ):=rfl
def qPt(k:Nat):Option Sl->Option c6
 |some (.ow (.nst sh ds))=>(NL sh ds k).map c6.lst
 |_=>b4
@[simp] theorem sU:part δ j k=qPt k δ[j]? :=rfl
@[simp] theorem sK:qPt k (b3 (.ow (.nst sh ds)))=(NL sh ds k).map c6.lst:=rfl
@[simp] theorem rP:fNl i j δ=(part δ i j).map λd=>(d,δ):=rfl
def qaP(i j:Nat)(r:Option c6)(δ:Ev)(fs:T9):Option (List AV×Ev):=r.bind λ_=>qab (.p i j) (fs δ)
@[simp] theorem aP_e:aP i j fg δ=qaP i j (part δ i j) δ fg:=rfl
@[simp] theorem ut:qaP i j (b3 d) δ fg=qab (.p i j) (fg δ):=rfl
@[simp] theorem wj:XH δ (.p j k::as)=(part δ j k).bind λd=>(XH δ as).map λds=>d::ds:=rfl
@[simp] theorem uM:WX (.p j k::as)=j::WX as:=rfl
def qNp(i j:Nat)(r:Option (c6×Ev)):Option Ou:=r.bind λp=>match p.1,p.2[i]? with
 |.int k,b3 (.ow (.nst sh ds))=>(PB sh ds j).map λ_=>.nx (p.2.set i (.ow (.nst sh (PF sh ds j (.int k)))))
 |_,_=>b4
def qNpb(i j:Nat)(n:Int)(δ:Ev):Option Sl->Option Ou
 |some (.ow (.nst sh ds))=>(PB sh ds j).map λ_=>.nx (δ.set i (.ow (.nst sh (PF sh ds j (.int n)))))
 |_=>b4
@[simp] theorem uq:EJ i j fv δ=qNp i j (fv δ):=rfl
@[simp] theorem vD:qNp i j (b3 (.int n,δ))=qNpb i j n δ δ[i]? :=by
 unfold qNp qNpb;simp only[Ar];generalize δ[i]?=r;cases r with
 |none=>rfl
 |some s=>
  cases s with
  |ow d=>cases d<;>rfl
  |_=>rfl
@[simp] theorem uR:qNpb i j n δ (b3 (.ow (.nst sh ds)))=(PB sh ds j).map λ_=>Ou.nx (δ.set i (.ow (.nst sh (PF sh ds j (.int n))))):=rfl
def qNa(i j:Nat)(r:Option (List c6×Ev)):Option Ou:=r.bind λr=>match r.1,r.2[i]? with
 |[d],b3 (.ow (.nst sh ds))=>(NL sh ds j).bind λzs=>if zs.length<16777216 then b3 (.nx (r.2.set i (.ow (.nst (sh.set j (b3 (zs.length+1))) (RE sh ds j (zs++[d]))))))else b4
 |_,_=>b4
def qNab(i j:Nat)(d:c6)(δ:Ev):Option Sl->Option Ou
 |some (.ow (.nst sh ds))=>(NL sh ds j).bind λzs=>if zs.length<16777216 then b3 (.nx (δ.set i (.ow (.nst (sh.set j (b3 (zs.length+1))) (RE sh ds j (zs++[d]))))))else b4
 |_=>b4
@[simp] theorem sw:EH i j fs δ=(part δ i j).bind λ_=>qNa i j (fs δ):=rfl
@[simp] theorem so:qNa i j (b3 ([d],δ))=qNab i j d δ δ[i]? :=by
 unfold qNa qNab;simp only[Ar];generalize δ[i]?=r;cases r with
 |none=>rfl
 |some s=>
  cases s with
  |ow d=>cases d<;>rfl
  |_=>rfl
@[simp] theorem tW:qNab i j d δ (b3 (.ow (.nst sh ds)))=(NL sh ds j).bind λzs=>if zs.length<16777216 then b3 (Ou.nx (δ.set i (.ow (.nst (sh.set j (b3 (zs.length+1))) (RE sh ds j (zs++[d]))))))else b4:=rfl
def qNq(i j k:Nat)(r:Option (List c6×Ev)):Option Ou:=r.bind λr=>match r.1,r.2[i]? with
 |[.int n,.int d],b3 (.ow (.nst sh ds))=>(PB sh ds j).bind λ_=>if k<r.2.length then b3 (.nx ((r.2.set i (.ow (.nst sh (PF sh ds j (.int n))))).set k (.va (.int d))))else b4
 |_,_=>b4
def qNqb(i j k:Nat)(n m:Int)(δ:Ev):Option Sl->Option Ou
 |some (.ow (.nst sh ds))=>(PB sh ds j).bind λ_=>if k<δ.length then b3 (.nx ((δ.set i (.ow (.nst sh (PF sh ds j (.int n))))).set k (.va (.int m))))else b4
 |_=>b4
@[simp] theorem we:EI i j k fs δ=qNq i j k (fs δ):=rfl
@[simp] theorem ub:qNq i j k (b3 ([.int n,.int m],δ))=qNqb i j k n m δ δ[i]? :=by
 unfold qNq qNqb;simp only[Ar];generalize δ[i]?=r;cases r with
 |none=>rfl
 |some s=>
  cases s with
  |ow d=>cases d<;>rfl
  |_=>rfl
@[simp] theorem vx:qNqb i j k n m δ (b3 (.ow (.nst sh ds)))=(PB sh ds j).bind λ_=>if k<δ.length then b3 (Ou.nx ((δ.set i (.ow (.nst sh (PF sh ds j (.int n))))).set k (.va (.int m))))else b4:=rfl
def qNc(i j:Nat)(r:Option (c6×Ev)):Option Ou:=r.bind λr=>match r.1,r.2[i]? with
  |.int k,b3 (.ow (.nst sh ds))=>(NL sh ds j).bind λzs=>if 0<=k/\k<=zs.length then b3 (.nx (r.2.set i (.ow (.nst (sh.set j (b3 k.toNat)) (RE sh ds j (zs.take k.toNat))))))else b4
  |_,_=>b4
def qNcb(i j:Nat)(k:Int)(δ:Ev):Option Sl->Option Ou
 |some (.ow (.nst sh ds))=>(NL sh ds j).bind λzs=>if 0<=k/\k<=zs.length then b3 (.nx (δ.set i (.ow (.nst (sh.set j (b3 k.toNat)) (RE sh ds j (zs.take k.toNat))))))else b4
 |_=>b4
def iY(h:fv δ=b3 (.lst [],δ)):L5 i j fv fk δ=(part δ i j).bind λ_=>qNc i j (fk δ):=by unfold L5;rw[h];rfl
@[simp] theorem tz:L5 i j (bC cR) fk δ=(part δ i j).bind λ_=>qNc i j (fk δ):=iY rfl
@[simp] theorem tD:qNc i j (b3 (.int n,δ))=qNcb i j n δ δ[i]? :=by
 unfold qNc qNcb;simp only[Ar];generalize δ[i]?=r;cases r with
 |none=>rfl
 |some s=>
  cases s with
  |ow d=>cases d<;>rfl
  |_=>rfl
@[simp] theorem vW:qNcb i j n δ (b3 (.ow (.nst sh ds)))=(NL sh ds j).bind λzs=>if 0<=n/\n<=zs.length then b3 (Ou.nx (δ.set i (.ow (.nst (sh.set j (b3 n.toNat)) (RE sh ds j (zs.take n.toNat))))))else b4:=rfl
@[simp] theorem ve:FG d i F ds=qins (F (ds.take i++d::ds.drop i)):=rfl
end
def XW:c6:=.int 999
def C5:c6:=.tup [.str "plus",.str "minus",.str "times",.str "least",.str "most",.str "less",.str "over"]
def UE:c6:=.int 64
def VE:c6:=.int 63
def QV:c6:=.tup [.str "row",.str "row"]
def SV:c6:=.dct [.inr "number",.inr "pick",.inr "load",.inr "take",.inr "store",.inr "put"] [.tup [.str "word"],.tup [.str "row",.str "row",.str "row"],.tup [.str "place"],.tup [.str "place",.str "row",.str "row"],.tup [.str "place",.str "row"],.tup [.str "place",.str "row",.str "row"]]
def K3:c6:=.tup [.str "store",.str "put"]
def VD:c6:=.int 64
def ZG:c6:=.int 20
def UD:c6:=.int 3
abbrev JC:List Ue:=["NoCells","NoTree"]
noncomputable abbrev U1:List Ue:=["NoBlock","NoCells","NoRow","NoLanes","NoPlan","NoProgram","NoTree","NoLoop","NoText","NoName","TooMany","TooLong","NotValid","Nothing"]
def R7:VS:=
   (cK (XU (OJ (fB (f2 TD (fV 0) (fC (.ty "bool")))) (S9 (fB (f2 TD (fV 0) (fC (.ty "int"))))))
   (bP (fC (.bl bb)))
   aC)
   (bP (f3 oLe oLe (fV 1) (fV 0) (fV 2))))
def bE:bW:=Z9 3 [] R7
def NH:VS:=
   (cK (XU (fB (f2 (Z2 bb) (fV 0) (fC C5)))
   (bP (fC QV))
   aC)
   (bP (f2 Yk (fC SV) (fV 0))))
def aA:bW:=Z9 1 [] NH
def Q1:VS:=
   (bP (f2 (Z2 ba) (f2 bL (fV 0) (fC (.int 0))) (fC K3)))
def YB:bW:=Z9 1 [] Q1
def SG:VS:=
   (bP (RZ (cP 3 [] bE (aE (fV 0) (aE (fC (.int 0)) (aE (f2 Q9 (f1 Y8 (fV 1)) (fC (.int 1))) cE)))) (f2 bL (fV 1) (fV 0))))
def ZJ:bW:=Z9 2 [] SG
def NF:VS:=
   (cK (XU (fB (f2 WM (fV 0) (fC (.str "word"))))
   (bP (cP 3 [] bE (aE (fV 1) (aE (fC (.int 0)) (aE (fC XW) cE)))))
   aC)
   (cK (XU (fB (f2 WM (fV 0) (fC (.str "place"))))
   (bP (cP 3 [] bE (aE (fV 1) (aE (fC (.int 0)) (aE (fC VE) cE)))))
   aC)
   (bP (cP 2 [] ZJ (aE (fV 1) (aE (fV 2) cE))))))
def WJ:bW:=Z9 3 [] NF
def NG:VS:=
   (cK (XU (OJ (S9 (fB (f2 TD (fV 0) (fC (.ty "tuple"))))) (fB (f2 WM (f1 Y8 (fV 0)) (fC (.int 0)))))
   (bP (fC (.bl bb)))
   aC)
   (cK (IE 2 3 (fV 0))
   (cK (a8 4 (xV (fIf (fB (f2 TD (fV 2) (fC (.ty "str")))) (cP 1 [] aA (aE (fV 2) cE)) (fC .non))))
   (cK (XU (OJ (fB (f2 MV (fV 4) (fC .non))) (fB (f2 RU (f1 Y8 (fV 4)) (f1 Y8 (fV 3)))))
   (bP (fC (.bl bb)))
   aC)
   (bP (f1 BP (ZX [1] 2 (iZip (fV 4) (fV 3)) (FE 2 (aL (gN 1) (aL (gN 2) V8))) U4 (cP 3 [] WJ (aE (fV 1) (aE (fV 2) (aE (fV 0) cE)))))))))))
def V5:bW:=Z9 5 [] NG
def R6:VS:=
   (cK (XU (OJ (S9 (fB (f2 TD (fV 0) (fC (.ty "list"))))) (S9 (fB (f3 oLe oLe (fV 1) (f1 Y8 (fV 0)) (fC VD)))))
   (bP (fC (.bl bb)))
   aC)
   (bP (f1 BP (ZX [] 1 (U5 (fV 0)) (gN 0) U4 (cP 3 [] bE (aE (fV 0) (aE (fC (.int 0)) (aE (fC XW) cE))))))))
def Z1:bW:=Z9 2 [] R6
def DC:VS:=
   (cK (XU (OJ (S9 (fB (f2 TD (fV 0) (fC (.ty "tuple"))))) (fB (f2 RU (f1 Y8 (fV 0)) (fC (.int 4)))))
   (bP (fC (.bl bb)))
   aC)
   (bP (RZ (f2 TD (f2 bL (fV 0) (fC (.int 0))) (fC (.ty "str"))) (f2 WM (f2 bL (fV 0) (fC (.int 0))) (fC (.str "if"))))))
def TK:bW:=Z9 1 [] DC
def Y6(R:bW):VS:=
   (cK (a8 5 (xV (cP 3 [] R (aE (fV 4) (aE (fV 3) (aE (f2 aS (fV 2) (fC (.int 1))) cE))))))
   (cK (XU (fB (f2 MV (fV 5) (fC .non)))
   (bP (fC .non))
   aC)
   (a8 3 (xV (f2 aS (fV 3) (f2 ZB (bC (c7 (fC (.bl bb)) cR)) (f2 Q9 (f1 Y8 (fV 5)) (f1 Y8 (fV 3)))))))))
def ZP(R:bW):VS:=
   (cK (XU (OJ (fB (f2 WM (fV 2) (fC UD))) (S9 (fB (cP 2 [] ZJ (aE (f2 bL (fV 0) (fC (.int 1))) (aE (fV 1) cE))))))
   (bP (fC .non))
   aC)
   (cK (a8 3 (xV (f2 aS (fV 1) (bC (c7 (fC (.bl bb)) cR)))))
   (cK (UT (U5 (DA (fV 0) (DV (fC (.int 2))) pNo)) (gN 4)
   (Y6 R))
   (bP (fV 3)))))
def Z5(R:bW):bW:=Z9 6 [] (ZP R)
def a6(R:bW):VS:=
   (cK (XU (fB (cP 1 [] TK (aE (fV 4) cE)))
   (a8 3 (xV (cP 3 [] (Z5 R) (aE (fV 4) (aE (fV 3) (aE (fV 2) cE))))))
   (XU (fB (cP 2 [] V5 (aE (fV 4) (aE (fV 3) cE))))
   (a8 3 (xV (f2 aS (fV 3) (bC (c7 (cP 1 [] YB (aE (fV 4) cE)) cR)))))
   (bP (fC .non))))
   (XU (OJ (fB (f2 MV (fV 3) (fC .non))) (fB (f2 oGt (f1 Y8 (fV 3)) (fC ZG))))
   (bP (fC .non))
   aC))
def ZK(R:bW):VS:=
   (cK (XU (S9 (fB (f2 TD (fV 0) (fC (.ty "tuple")))))
   (bP (fC .non))
   aC)
   (cK (a8 3 (xV (fV 1)))
   (cK (UT (U5 (fV 0)) (gN 4)
   (a6 R))
   (bP (fV 3)))))
def bM:Nat->bW:=recV λR=>Z9 5 [] (ZK R)
def P5:VS:=
   (cK (XU (OJ (S9 (fB (f2 TD (fV 0) (fC (.ty "tuple"))))) (fB (f2 RU (f1 Y8 (fV 0)) (fC (.int 2)))))
   (bP (fC (.bl bb)))
   aC)
   (bP (RZ (cP 3 [] bE (aE (f2 bL (fV 0) (fC (.int 0))) (aE (fC (.int 0)) (aE (fC UE) cE)))) (f2 PQ (cP 3 [] (bM 8) (aE (f2 bL (fV 0) (fC (.int 1))) (aE (bC cR) (aE (fC (.int 0)) cE)))) (fC .non)))))
def cI:bW:=Z9 1 [] P5
def SS:VZ:=
   (CU (zIf (S9 (fB (cP 1 [] cI (aE (fV 0) cE)))) (λδ=>b3 (("NoTree",b4),δ)) zNo)
   (zSeq (XU (S9 (fB (cP 1 [] cI (aE (fV 0) cE))))
   (λ_=>b4)
   aC)
   (zIf (S9 (fB (cP 2 [] Z1 (aE (fV 1) (aE (f2 bL (fV 0) (fC (.int 0))) cE))))) (λδ=>b3 (("NoCells",b4),δ)) zNo)))
def X2:List c6->Option Xw:=CA 4 SS
def PV:VZ:=
   (zIf (S9 (fB (cP 1 [] cI (aE (fV 0) cE)))) (λδ=>b3 (("NoTree",b4),δ)) zNo)
def WP:List c6->Option Xw:=CA 4 PV
def U6:VS:=
   (a8 2 (xV (f2 HJ (fV 2) (fC (.int 1000003)))))
def WL:VS:=
   (cK (XU (fB (f2 oLt (fV 1) (f1 Y8 (fV 0))))
   (bP (f2 bL (fV 0) (fV 1)))
   aC)
   (cK (XU (fB (f2 WM (fV 0) (bC cR)))
   (bP (fC (.int 0)))
   aC)
   (cK (a8 2 (xV (f2 bL (fV 0) (f2 J1 (fV 1) (f1 Y8 (fV 0))))))
   (cK (UT (FF (f2 oMin (f2 HJ (fV 1) (f1 Y8 (fV 0))) (fC (.int 60)))) (gN 3)
   U6)
   (bP (f2 aS (f2 aS (f2 NS (f2 bL (fV 0) (f2 J1 (fV 1) (f1 Y8 (fV 0)))) (fC (.int 31))) (fV 1)) (f2 NS (fV 2) (fC (.int 101)))))))))
def aF:bW:=Z9 4 [] WL
def UI:VS:=
   (cK (a8 3 (xV (f2 J1 (f2 aS (f2 aS (f2 NS (cP 2 [] aF (aE (fV 0) (aE (fV 1) cE))) (fC (.int 1103515245))) (f2 NS (fC (.int 7919)) (fV 1))) (fC (.int 12345))) (fC (.int 2147483647)))))
   (bP (f2 J1 (f2 J1 (f2 J1 (f2 oPow (fV 3) (fC (.int 5))) (fC (.int 2147483647))) (fC (.int 999983))) (fV 2))))
def YN:bW:=Z9 4 [] UI
def R8:VS:=
   (cK (W0 1 TC (c7 (fC (.int 0)) cR))
   (bP (cP 3 [] YN (aE (fV 0) (aE (f1 Y8 (fO 1)) (aE (fV 2) cE))))))
def cC:bW:=Z9 3 [1] R8
def SA:VS:=
   (bP (f2 bL (fV 2) (cP 3 [1] cC (aE (fV 0) (aO 1 (aE (f1 Y8 (fV 2)) cE))))))
def cF:bW:=Z9 3 [1] SA
def UJ:VS:=
   (cK (IC 2 (fV 3) (f2 J1 (f2 aS (JQ 2 (fV 3) (cP 3 [1] cC (aE (fV 0) (aO 1 (aE (fV 4) cE))))) (cP 3 [1] cF (aE (fV 0) (aO 1 (aE (bC (c7 (fC (.int 1)) (c7 (fC (.int 1)) (c7 (fC (.int 1)) (c7 (fC (.int 0)) (c7 (fC (.int 3)) cR)))))) cE))))) (fV 4)))
   (bP (f2 bL (fO 2) (fV 3))))
def aU:bW:=Z9 5 [1,2] UJ
def P8:VS:=
   (cK (a8 5 (xV (cP 3 [1] cC (aE (fV 0) (aO 1 (aE (fC (.int 13)) cE))))))
   (cK (XU (OJ (fB (f2 WM (fV 2) (bC cR))) (fB (f2 WM (fV 5) (fC (.int 0)))))
   (cK (XU (fB (f2 WM (cP 3 [1] cC (aE (fV 0) (aO 1 (aE (fC (.int 2)) cE)))) (fC (.int 0))))
   (bP (cJ (c7 (fC (.str "number")) (c7 (cP 3 [1] cF (aE (fV 0) (aO 1 (aE (bC (c7 (fC (.int 0)) (c7 (fC (.int 1)) (c7 (fC (.int 2)) (c7 (fC (.int 5)) (c7 (fC (.int 999)) (c7 (cP 3 [1] cC (aE (fV 0) (aO 1 (aE (fC (.int 1000)) cE)))) cR))))))) cE)))) cR))))
   aC)
   (bP (cJ (c7 (fC (.str "load")) (c7 (cP 5 [1,2] aU (aE (fV 0) (aO 1 (aO 3 (aE (fC (.str "load")) (aE (fV 4) cE)))))) cR)))))
   aC)
   (cK (CB (ZX [0,1,2] 1 (FF (fC (.int 3))) (gN 3) U4 (f2 bL (fV 2) (f2 oMax (fC (.int 0)) (f2 Q9 (f2 Q9 (f1 Y8 (fV 2)) (fC (.int 1))) (cP 3 [1] cC (aE (fV 0) (aO 1 (aE (fC (.int 6)) cE)))))))) (FE 3 (aL (gN 6) (aL (gN 7) (aL (gN 8) V8)))))
   (cK (XU (fB (f2 (Z2 bb) (fV 5) (cJ (c7 (fC (.int 1)) (c7 (fC (.int 2)) cR)))))
   (bP (cJ (c7 (fC (.str "load")) (c7 (cP 5 [1,2] aU (aE (fV 0) (aO 1 (aO 3 (aE (fC (.str "load")) (aE (fV 4) cE)))))) cR))))
   aC)
   (cK (XU (fB (f2 WM (fV 5) (fC (.int 3))))
   (bP (cJ (c7 (fC (.str "take")) (c7 (cP 5 [1,2] aU (aE (fV 0) (aO 1 (aO 3 (aE (fC (.str "take")) (aE (fV 4) cE)))))) (c7 (fV 8) (c7 (fV 6) cR))))))
   aC)
   (cK (XU (fB (f2 (Z2 bb) (fV 5) (cJ (c7 (fC (.int 4)) (c7 (fC (.int 5)) cR)))))
   (bP (cJ (c7 (fC (.str "store")) (c7 (cP 5 [1,2] aU (aE (fV 0) (aO 1 (aO 3 (aE (fC (.str "store")) (aE (fV 4) cE)))))) (c7 (fV 6) cR)))))
   aC)
   (cK (XU (fB (f2 WM (fV 5) (fC (.int 6))))
   (bP (cJ (c7 (fC (.str "put")) (c7 (cP 5 [1,2] aU (aE (fV 0) (aO 1 (aO 3 (aE (fC (.str "put")) (aE (fV 4) cE)))))) (c7 (fV 6) (c7 (fV 8) cR))))))
   aC)
   (cK (XU (fB (f2 WM (fV 5) (fC (.int 7))))
   (bP (cJ (c7 (fC (.str "pick")) (c7 (fV 8) (c7 (fV 6) (c7 (fV 7) cR))))))
   aC)
   (bP (cJ (c7 (f2 bL (bC (c7 (fC (.str "over")) (c7 (fC (.str "plus")) (c7 (fC (.str "minus")) (c7 (fC (.str "times")) (c7 (fC (.str "least")) (c7 (fC (.str "most")) (c7 (fC (.str "less")) cR)))))))) (cP 3 [1] cC (aE (fV 0) (aO 1 (aE (fC (.int 7)) cE))))) (c7 (fV 6) (c7 (fV 7) cR)))))))))))))
def YO:bW:=Z9 9 [1,3] P8
def ZD:VS:=
   (cK (a8 10 (xV (f2 aS (f2 FO (fV 3) (fV 9)) (cP 3 [1] cF (aE (fV 0) (aO 1 (aE (bC (c7 (fC (.int 1)) (c7 (fC (.int 1)) (c7 (fC (.int 1)) (c7 (fC (.int 1)) (c7 (f1 J2 (fC (.int 1))) (c7 (fC (.int 0)) (c7 (fC (.int 2)) cR)))))))) cE)))))))
   (W0 8 TC (c7 (fIf (UC (fB (f3 oLe oLt (fC (.int 0)) (fV 10) (f1 Y8 (fV 3)))) (fB (f2 RU (f2 bL (fV 3) (fV 10)) (f2 Q9 (f1 Y8 (fV 2)) (fC (.int 1)))))) (f2 bL (fV 3) (fV 10)) (fV 9)) cR)))
def VM:VS:=
   (cK (a8 6 (xV (f2 bL (fV 2) (f1 J2 (fC (.int 1))))))
   (cK (a8 7 (xV (fIf (fB (f2 (Z2 bb) (f2 bL (fV 6) (fC (.int 0))) (cJ (c7 (fC (.str "load")) (c7 (fC (.str "take")) (c7 (fC (.str "store")) (c7 (fC (.str "put")) cR))))))) (fC (.int 2)) (fC (.int 1)))))
   (cK (a8 8 (xO (bC cR)))
   (cK (UT (U5 (DA (fV 6) (DV (fV 7)) pNo)) (gN 9)
   ZD)
   (cK (XU (fB (f2 WM (fV 7) (fC (.int 1))))
   (bP (f2 aS (DA (fV 6) pNo (DV (fC (.int 1)))) (f1 VQ (fO 8))))
   aC)
   (cK (IC 4 (f2 bL (fV 6) (fC (.int 0))) (f2 J1 (f2 aS (f2 bL (fV 6) (fC (.int 1))) (fC (.int 1))) (fV 5)))
   (bP (f2 aS (cJ (c7 (f2 bL (fV 6) (fC (.int 0))) (c7 (f2 bL (fO 4) (f2 bL (fV 6) (fC (.int 0)))) cR))) (f1 VQ (fO 8))))))))))
def ZU:bW:=Z9 11 [1,4] VM
def ZF:VS:=
   (XU (UC (fB (f2 oLt (f1 Y8 (fO 4)) (fV 2))) (fB (f2 RU (f2 bL (f2 bL (fO 4) (f1 J2 (fC (.int 1)))) (fC (.int 0))) (fC (.str "number")))))
   (cK (W0 4 TC (c7 (cP 6 [1,4] ZU (aE (fV 0) (aO 1 (aO 4 (aO 5 (aO 6 (aE (fV 3) cE))))))) cR))
   (XU (fB (f2 (Z2 ba) (f2 bL (f2 bL (fO 4) (f1 J2 (fC (.int 1)))) (fC (.int 0))) (cJ (c7 (fC (.str "store")) (c7 (fC (.str "put")) cR)))))
   (W0 5 TC (c7 (f2 Q9 (f1 Y8 (fO 4)) (fC (.int 1))) cR))
   aC))
   aC)
def XB:VS:=
   (cK (W0 4 TC (c7 (cP 5 [1,3] YO (aE (fV 0) (aO 1 (aO 5 (aO 6 (aE (fV 3) cE)))))) cR))
   (cK (XU (fB (f2 (Z2 ba) (f2 bL (f2 bL (fO 4) (f1 J2 (fC (.int 1)))) (fC (.int 0))) (cJ (c7 (fC (.str "store")) (c7 (fC (.str "put")) cR)))))
   (W0 5 TC (c7 (f2 Q9 (f1 Y8 (fO 4)) (fC (.int 1))) cR))
   aC)
   (UT (FF (cP 3 [1] cF (aE (fV 0) (aO 1 (aE (bC (c7 (fC (.int 0)) (c7 (fC (.int 1)) (c7 (fC (.int 1)) (c7 (fC (.int 2)) (c7 (fC (.int 3)) cR)))))) cE))))) (gN 7)
   ZF)))
def SD:VS:=
   (cK (N7 4 5 6 (xO (bC cR)) (xO (bC cR)) (xO (fC (.dct [] []))))
   (cK (UU (fB (f2 oLt (f1 Y8 (fO 4)) (fV 2)))
   XB)
   (bP (f1 VQ (fO 4)))))
def X0:bW:=Z9 8 [1] SD
def PL:VS:=
   (cK (XU (fB (f2 WM (f2 bL (fV 0) (fC (.int 0))) (fC (.str "number"))))
   (bP (bC cR))
   aC)
   (bP (fIf (fB (f2 (Z2 bb) (f2 bL (fV 0) (fC (.int 0))) (cJ (c7 (fC (.str "load")) (c7 (fC (.str "take")) (c7 (fC (.str "store")) (c7 (fC (.str "put")) cR))))))) (f1 HK (DA (fV 0) (DV (fC (.int 2))) pNo)) (f1 HK (DA (fV 0) (DV (fC (.int 1))) pNo)))))
def aT:bW:=Z9 1 [] PL
def P7:VS:=
   (cK (a8 2 (xV (f2 bL (f2 bL (fV 0) (fC (.int 1))) (fV 1))))
   (cK (XU (fB (f2 (Z2 bb) (f2 bL (fV 2) (fC (.int 0))) (cJ (c7 (fC (.str "load")) (c7 (fC (.str "take")) (c7 (fC (.str "store")) (c7 (fC (.str "put")) cR)))))))
   (bP (f2 oGe (f2 bL (fV 2) (fC (.int 1))) (f2 bL (fV 0) (fC (.int 0)))))
   aC)
   (bP (RZ (f2 WM (f2 bL (fV 2) (fC (.int 0))) (fC (.str "over"))) (f2 (Z2 ba) (DA (f2 bL (f2 bL (fV 0) (fC (.int 1))) (f2 bL (fV 2) (fC (.int 2)))) pNo (DV (fC (.int 2)))) (ZX [] 1 (iR2 (fC (.int 1)) (fC (.int 1000))) (gN 0) U4 (cJ (c7 (fC (.str "number")) (c7 (fV 0) cR)))))))))
def ZC:bW:=Z9 3 [] P7
def W8:VS:=
   (cK (a8 7 (xV (ZX [] 1 (U5 (cJ (c7 (fV 6) (c7 (fV 4) cR)))) (gN 0) (fB (f2 (Z2 bb) (f2 bL (fV 0) (fC (.int 0))) (cJ (c7 (fC (.str "store")) (c7 (fC (.str "put")) cR))))) (fV 0))))
   (cK (a8 8 (xO (bC (c7 (f2 (Z2 bb) (fV 5) (cP 1 [] aT (aE (fV 4) cE))) (c7 (RZ (cP 2 [] ZC (aE (fV 0) (aE (fV 5) cE))) (cP 2 [] ZC (aE (fV 0) (aE (fV 3) cE)))) cR)))))
   (cK (W0 8 TC (c7 (RZ (f2 (Z2 bb) (f2 bL (fV 6) (fC (.int 0))) (fV 2)) (RZ (f2 (Z2 bb) (f2 bL (fV 4) (fC (.int 0))) (fV 2)) (RZ (f2 WM (f2 bL (fV 6) (fC (.int 1))) (f2 bL (fV 4) (fC (.int 1)))) (f2 RU (fV 7) (bC cR))))) cR))
   (cK (W0 8 TC (c7 (RZ (cP 2 [] ZC (aE (fV 0) (aE (fV 5) cE))) (f2 (Z2 bb) (f2 bL (fV 4) (fC (.int 0))) (cJ (c7 (fC (.str "store")) (c7 (fC (.str "put")) cR))))) cR))
   (cK (W0 8 TC (c7 (RZ (cP 2 [] ZC (aE (fV 0) (aE (fV 3) cE))) (f2 (Z2 bb) (f2 bL (fV 6) (fC (.int 0))) (cJ (c7 (fC (.str "store")) (c7 (fC (.str "put")) cR))))) cR))
   (XU (fB (f2 (Z2 bb) (fC (.bl ba)) (fO 8)))
   (W0 1 TC (c7 (cJ (c7 (fV 5) (c7 (fV 3) cR))) cR))
   aC))))))
def W9:VS:=
   (UT (NI (DA (f2 bL (fV 0) (fC (.int 1))) pNo (DV (fV 3)))) (FE 2 (aL (gN 5) (aL (gN 6) V8)))
   W8)
def R9:VS:=
   (cK (PR 1 2 (xO (bC cR)) (xV (cJ (c7 (fC (.str "load")) (c7 (fC (.str "take")) (c7 (fC (.str "store")) (c7 (fC (.str "put")) cR)))))))
   (cK (UT (NI (f2 bL (fV 0) (fC (.int 1)))) (FE 2 (aL (gN 3) (aL (gN 4) V8)))
   W9)
   (bP (f1 FP (fO 1)))))
def XZ:bW:=Z9 9 [] R9
def ZZ:VS:=
   (cK (a8 6 (xV (ZX [3,4] 1 (U5 (fO 4)) (gN 2) (fB (f2 WM (ZX [1,2] 2 (U5 (fV 0)) (FE 2 (aL (gN 2) (aL (gN 3) V8))) (UC (fB (f2 WM (fV 3) (fV 1))) (fB (f2 (Z2 bb) (fV 2) (fO 0)))) (fC (.int 1))) (bC cR))) (fV 2))))
   (cK (W0 5 TC (c7 (cP 3 [1] cF (aE (fV 0) (aO 1 (aE (fV 6) cE)))) cR))
   (W0 4 mRem (c7 (f2 bL (fO 5) (f1 J2 (fC (.int 1)))) cR))))
def YH:VS:=
   (cK (N7 3 4 5 (xV (cP 1 [] XZ (aE (fV 2) cE))) (xO (TY (f1 Y8 (f2 bL (fV 2) (fC (.int 1)))))) (xO (bC cR)))
   (cK (UU (fB (f2 RU (fO 4) (bC cR)))
   ZZ)
   (bP (fO 5))))
def aM:bW:=Z9 7 [1] YH
def aW:VS:=
   (cK (XU (fB (f2 WM (f2 bL (fV 0) (fC (.int 0))) (fC (.str "number"))))
   (bP (fV 0))
   aC)
   (cK (a8 2 (xV (fIf (fB (f2 (Z2 bb) (f2 bL (fV 0) (fC (.int 0))) (cJ (c7 (fC (.str "load")) (c7 (fC (.str "take")) (c7 (fC (.str "store")) (c7 (fC (.str "put")) cR))))))) (fC (.int 2)) (fC (.int 1)))))
   (bP (f2 aS (DA (fV 0) pNo (DV (fV 2))) (f1 VQ (ZX [1] 1 (U5 (DA (fV 0) (DV (fV 2)) pNo)) (gN 1) U4 (f2 bL (fV 0) (fV 1))))))))
def b5:bW:=Z9 3 [] aW
def WQ:VS:=
   (cK (a8 3 (xV (cP 3 [1] cF (aE (fV 0) (aO 1 (aE (bC (c7 (fC (.int 3)) (c7 (fC (.int 6)) (c7 (fC (.int 9)) (c7 (fC (.int 64)) cR))))) cE))))))
   (cK (a8 4 (xV (cP 3 [1] cF (aE (fV 0) (aO 1 (aE (bC (c7 (fC (.int 0)) (c7 (fV 3) (c7 (fV 3) (c7 (cP 3 [1] cC (aE (fV 0) (aO 1 (aE (f2 aS (fV 3) (fC (.int 1))) cE)))) cR))))) cE))))))
   (cK (a8 5 (xV (cJ (c7 (fV 4) (c7 (cP 4 [1] X0 (aE (fV 0) (aO 1 (aE (cP 3 [1] cC (aE (fV 0) (aO 1 (aE (f2 aS (fV 2) (fC (.int 1))) cE)))) (aE (fV 3) cE))))) cR)))))
   (cK (XU (fB (f2 oGt (cP 3 [1] cC (aE (fV 0) (aO 1 (aE (fC (.int 3)) cE)))) (fC (.int 0))))
   (bP (fV 5))
   aC)
   (cK (a8 6 (xV (cP 3 [1] aM (aE (fV 0) (aO 1 (aE (fV 5) cE))))))
   (cK (a8 7 (xV (f1 DP (ZX [] 2 (NI (fV 6)) (FE 2 (aL (gN 0) (aL (gN 1) V8))) U4 (cJ (c7 (fV 1) (c7 (fV 0) cR)))))))
   (bP (cJ (c7 (fV 4) (c7 (f1 VQ (ZX [5,7] 1 (U5 (fV 6)) (gN 2) U4 (cP 2 [] b5 (aE (f2 bL (f2 bL (fV 0) (fC (.int 1))) (fV 2)) (aE (fV 1) cE))))) cR))))))))))
def Z4:bW:=Z9 8 [1] WQ
def PM:VS:=
   (cK (a8 1 (xO (bC (c7 (f2 (UP JC U1) (fV 0) (fC (.fn "NoBlock"))) (c7 (f2 (UP JC U1) (fV 0) (fC (.fn "NoCells"))) (c7 (f2 (UP JC U1) (fV 0) (fC (.fn "NoRow"))) (c7 (f2 (UP JC U1) (fV 0) (fC (.fn "NoLanes"))) cR)))))))
   (cK (W0 1 HB (c7 (bC (c7 (f2 (UP JC U1) (fV 0) (fC (.fn "NoPlan"))) (c7 (f2 (UP JC U1) (fV 0) (fC (.fn "NoProgram"))) (c7 (f2 (UP JC U1) (fV 0) (fC (.fn "NoTree"))) (c7 (f2 (UP JC U1) (fV 0) (fC (.fn "NoLoop"))) cR))))) cR))
   (cK (W0 1 HB (c7 (bC (c7 (f2 (UP JC U1) (fV 0) (fC (.fn "NoText"))) (c7 (f2 (UP JC U1) (fV 0) (fC (.fn "NoName"))) (c7 (f2 (UP JC U1) (fV 0) (fC (.fn "TooMany"))) (c7 (f2 (UP JC U1) (fV 0) (fC (.fn "TooLong"))) cR))))) cR))
   (cK (W0 1 HB (c7 (bC (c7 (f2 (UP JC U1) (fV 0) (fC (.fn "NotValid"))) (c7 (f2 (UP JC U1) (fV 0) (fC (.fn "Nothing"))) cR))) cR))
   (cK (XU (OJ (fB (f2 RU (f2 JY (fO 1) (fC (.bl ba))) (fC (.int 1)))) (S9 (fB (f2 (UP JC U1) (fV 0) (fC (.ty "ValueError"))))))
   (bP (cJ (c7 (fC (.str "refused")) (c7 (f1 J2 (fC (.int 1))) cR))))
   aC)
   (bP (cJ (c7 (fC (.str "refused")) (c7 (f2 J0 (fO 1) (fC (.bl ba))) cR)))))))))
def XV:bW:=Z9 2 [] PM
def aN(R:bW):VS:=
   (XU (UC (fB (f2 RU (fNl 4 1) (bC cR))) (UC (fB (f2 oLt (fV 3) (fC (.int 3)))) (UC (fB (f2 oGt (fV 2) (fC (.int 1)))) (fB (f2 WM (cP 3 [1] cC (aE (fV 0) (aO 1 (aE (fC (.int 4)) cE)))) (fC (.int 0)))))))
   (cK (PR 8 9 (xV (cP 3 [1] cF (aE (fV 0) (aO 1 (aP 4 1 cE))))) (xV (cP 3 [1] cC (aE (fV 0) (aO 1 (aE (fV 2) cE))))))
   (cK (EI 4 0 10 (c7 (f2 aS (fNv 4 0) (fC (.int 1))) (c7 (f2 HJ (fV 9) (fC (.int 2))) cR)))
   (cK (a8 11 (xV (cP 6 [1,4] R (aE (fV 0) (aO 1 (aE (f2 Q9 (fV 9) (fV 10)) (aE (f2 aS (fV 3) (fC (.int 1))) (aO 4 (aE (fV 5) cE)))))))))
   (cK (a8 12 (xV (cP 6 [1,4] R (aE (fV 0) (aO 1 (aE (fV 10) (aE (f2 aS (fV 3) (fC (.int 1))) (aO 4 (aE (fV 5) cE)))))))))
   (cK (W0 6 TC (c7 (cJ (c7 (fC (.str "if")) (c7 (fV 8) (c7 (fV 11) (c7 (fV 12) cR))))) cR))
   (a8 2 (xV (f2 Q9 (f2 Q9 (fV 2) (fC (.int 1))) (fV 9)))))))))
   (cK (a8 13 (xV (cP 4 [1] (insD 3 YO) (aE (fV 0) (aO 1 (aP 4 1 (aE (fV 5) cE)))))))
   (cK (XU (fB (f2 (Z2 ba) (f2 bL (fV 13) (fC (.int 0))) (cJ (c7 (fC (.str "store")) (c7 (fC (.str "put")) cR)))))
   (EH 4 1 (c7 (fNv 4 0) cR))
   aC)
   (cK (EJ 4 0 (f2 aS (fNv 4 0) (fC (.int 1))))
   (cK (W0 6 TC (c7 (fV 13) cR))
   (a8 2 (xV (f2 Q9 (fV 2) (fC (.int 1))))))))))
def ZQ(R:bW):VS:=
   (cK (PR 6 7 (xO (bC cR)) (xV (f1 Y8 (fNl 4 1))))
   (cK (UU (fB (f2 oGt (fV 2) (fC (.int 0))))
   (aN R))
   (cK (XU (fB (f2 oGt (fV 3) (fC (.int 0))))
   (L5 4 1 (bC cR) (fV 7))
   aC)
   (bP (f1 VQ (fO 6))))))
def bB:Nat->bW:=recV λR=>Z9 14 [1,4] (ZQ R)
def SF:VS:=
   (cK (a8 3 (xV (cP 3 [1] cF (aE (fV 0) (aO 1 (aE (bC (c7 (fC (.int 3)) (c7 (fC (.int 6)) (c7 (fC (.int 64)) cR)))) cE))))))
   (cK (a8 4 (xV (cP 5 [1] (FG (.nst [b4,b3 0] [.int 0]) 4 (bB 8)) (aE (fV 0) (aO 1 (aE (cP 3 [1] cC (aE (fV 0) (aO 1 (aE (f2 aS (fV 2) (fC (.int 1))) cE)))) (aE (fC (.int 0)) (aE (fV 3) cE))))))))
   (bP (cJ (c7 (cP 3 [1] cF (aE (fV 0) (aO 1 (aE (bC (c7 (fC (.int 0)) (c7 (fV 3) (c7 (cP 3 [1] cC (aE (fV 0) (aO 1 (aE (f2 aS (fV 3) (fC (.int 1))) cE)))) cR)))) cE)))) (c7 (fV 4) cR))))))
def ZI:bW:=Z9 5 [1] SF
def P6:VS:=
   (sTry (bP (fIf (fB (f2 WM (fV 0) (fC (.int 0)))) (λ_=>b4) (λ_=>b4)))
   (zIf (fB (f2 WM (fV 0) (fC (.int 0)))) (MK 1 WP (aE (fV 1) cE)) (MK 2 X2 (aE (fV 1) (aE (fV 2) cE))))
   3 (bP (cP 1 [] XV (aE (fV 3) cE))))
def bD:bW:=Z9 4 [] P6
def U7:VS:=
   (cK (a8 1 (xO (bC (c7 (cJ (c7 (fV 0) (c7 (cJ (c7 (fC (.str "if")) (c7 (fC (.int 0)) (c7 (cJ (c7 (fV 0) cR)) (c7 (cJ cR) cR))))) (c7 (cJ (c7 (fC (.str "plus")) (c7 (fC (.int 0)) (c7 (fC (.int 2)) cR)))) cR)))) (c7 (cJ (c7 (fV 0) (c7 (cJ (c7 (fC (.str "if")) (c7 (fC (.int 0)) (c7 (cJ (c7 (fV 0) cR)) (c7 (fC (.tup [.tup [.str "plus",.int 0,.int 2]])) cR))))) cR))) cR)))))
   (cK (W0 1 HB (c7 (bC (c7 (fC (.tup [.tup [.str "if",.int 0,.tup [],.tup []]])) (c7 (cJ (c7 (fV 0) (c7 (fC (.tup [.str "if",.int 1,.tup [],.tup []])) cR))) (c7 (cJ (c7 (fV 0) (c7 (fC (.tup [.str "if",.int 0,.tup []])) cR))) (c7 (cJ (c7 (fV 0) (c7 (fC (.tup [.str "if",.int 0,.lst [],.tup []])) cR))) cR))))) cR))
   (cK (W0 1 HB (c7 (bC (c7 (cJ (c7 (fV 0) (c7 (fC (.tup [.str "if",.str "0",.tup [],.tup []])) cR))) (c7 (f2 ZB (cJ (c7 (fV 0) cR)) (fC (.int 21))) (c7 (cJ (c7 (fV 0) (c7 (cJ (c7 (fC (.str "if")) (c7 (fC (.int 0)) (c7 (f2 ZB (cJ (c7 (fV 0) cR)) (fC (.int 10))) (c7 (f2 ZB (cJ (c7 (fV 0) cR)) (fC (.int 9))) cR))))) cR))) cR)))) cR))
   (cK (W0 1 HB (c7 (bC (c7 (cJ (c7 (fV 0) (c7 (cJ (c7 (fC (.str "if")) (c7 (fC (.int 0)) (c7 (cJ (c7 (fV 0) cR)) (c7 (cJ cR) cR))))) (c7 (fC (.tup [.str "if",.int 2,.tup [],.tup []])) cR)))) (c7 (cJ (c7 (fV 0) (c7 (cJ (c7 (fC (.str "store")) (c7 (fC (.int 0)) (c7 (fC (.int 0)) cR)))) (c7 (fC (.tup [.str "if",.int 1,.tup [],.tup []])) cR)))) cR))) cR))
   (bP (f2 aS (fO 1) (bC (c7 (cJ (c7 (fV 0) (c7 (fC (.tup [.str "if",.int 0,.tup [],.tup []])) (c7 (cJ (c7 (fC (.str "plus")) (c7 (fC (.int 0)) (c7 (fC (.int 1)) cR)))) cR)))) (c7 (bC (c7 (fV 0) cR)) (c7 (cJ (c7 (fV 0) (c7 (fC (.int 5)) cR))) (c7 (fC .non) (c7 (cJ (c7 (fV 0) (c7 (fC (.tup [.str "if",.bl ba,.tup [],.tup []])) cR))) cR))))))))))))
def aJ:bW:=Z9 2 [] U7
def TQ:VS:=
   (XU (fB (f2 RU (cP 3 [] bD (aE (fC (.int 1)) (aE (fV 2) (aE (fV 10) cE)))) (cJ (c7 (fC (.str "refused")) (c7 (fC (.int 1)) cR)))))
   (bP (fC (.bl bb)))
   aC)
def C2:VS:=
   (a8 7 (xV (cJ (c7 (cJ (c7 (fC (.str "if")) (c7 (fC (.int 0)) (c7 (cJ (c7 (fV 4) cR)) (c7 (fV 7) cR))))) cR))))
def C3:VS:=
   (a8 5 (xV (cJ (c7 (cJ (c7 (fC (.str "if")) (c7 (fC (.int 0)) (c7 (fV 5) (c7 (cJ (c7 (fV 4) cR)) cR))))) cR))))
def Vb:VS:=
   (cK (a8 1 (xO (bC cR)))
   (cK (PR 2 3 (xV (cP 3 [1] ZI (aE (fV 0) (aO 1 (aE (fC (.int 12)) cE))))) (xV (cP 3 [1] Z4 (aE (fV 0) (aO 1 (aE (fC (.int 20)) cE))))))
   (cK (XU (OJ (fB (f2 YQ (cP 1 [] cI (aE (fV 2) cE)) (fC (.bl ba)))) (fB (f2 YQ (cP 1 [] cI (aE (fV 3) cE)) (fC (.bl ba)))))
   (bP (fC (.bl bb)))
   aC)
   (cK (CB (fC (.tup [.tup [.str "load",.int 0],.tup []])) (FE 2 (aL (gN 4) (aL (gN 5) V8))))
   (cK (UT (FF (fC (.int 3))) (gN 6)
   C3)
   (cK (XU (OJ (fB (f2 YQ (cP 1 [] cI (aE (cJ (c7 (fC (.int 1)) (c7 (f2 aS (cJ (c7 (fV 4) cR)) (fV 5)) cR))) cE)) (fC (.bl ba)))) (fB (f2 YQ (cP 1 [] cI (aE (cJ (c7 (fC (.int 1)) (c7 (cJ (c7 (fV 4) (c7 (cJ (c7 (fC (.str "if")) (c7 (fC (.int 0)) (c7 (fV 5) (c7 (cJ cR) cR))))) cR))) cR))) cE)) (fC (.bl bb)))))
   (bP (fC (.bl bb)))
   aC)
   (cK (a8 7 (xV (cJ cR)))
   (cK (UT (FF (fC (.int 3))) (gN 6)
   C2)
   (cK (XU (OJ (fB (f2 YQ (cP 1 [] cI (aE (cJ (c7 (fC (.int 1)) (c7 (f2 aS (cJ (c7 (fV 4) cR)) (fV 7)) cR))) cE)) (fC (.bl ba)))) (fB (f2 YQ (cP 1 [] cI (aE (cJ (c7 (fC (.int 1)) (c7 (cJ (c7 (fV 4) (c7 (cJ (c7 (fC (.str "if")) (c7 (fC (.int 0)) (c7 (cJ cR) (c7 (fV 7) cR))))) cR))) cR))) cE)) (fC (.bl bb)))))
   (bP (fC (.bl bb)))
   aC)
   (cK (a8 8 (xV (cP 3 [1] cF (aE (fV 0) (aO 1 (aE (cP 1 [] aJ (aE (fV 4) cE)) cE))))))
   (cK (XU (OJ (fB (f2 YQ (cP 1 [] cI (aE (cJ (c7 (fC (.int 1)) (c7 (fV 8) cR))) cE)) (fC (.bl bb)))) (fB (f2 RU (ZX [8] 1 (FF (fC (.int 2))) (gN 1) U4 (cP 3 [] bD (aE (fV 1) (aE (cJ (c7 (fC (.int 1)) (c7 (fV 0) cR))) (aE (fC .non) cE))))) (f2 ZB (fC (.lst [.tup [.str "refused",.int 6]])) (fC (.int 2))))))
   (bP (fC (.bl bb)))
   aC)
   (cK (a8 9 (xV (cP 3 [1] cF (aE (fV 0) (aO 1 (aE (fC (.lst [.non,.int 5,.tup [],.tup [.int 0],.lst [.int 0,.tup []],.tup [.int 65,.tup []],.tup [.bl ba,.tup []],.tup [.int 0,.tup [],.tup []],.str "tree"])) cE))))))
   (cK (XU (OJ (fB (f2 YQ (cP 1 [] cI (aE (fV 9) cE)) (fC (.bl bb)))) (fB (f2 RU (ZX [9] 1 (FF (fC (.int 2))) (gN 1) U4 (cP 3 [] bD (aE (fV 1) (aE (fV 0) (aE (fC .non) cE))))) (f2 ZB (fC (.lst [.tup [.str "refused",.int 6]])) (fC (.int 2))))))
   (bP (fC (.bl bb)))
   aC)
   (cK (UT (U5 (bC (c7 (fC .non) (c7 (cJ (c7 (fC (.int 0)) cR)) (c7 (f2 ZB (bC (c7 (fC (.int 0)) cR)) (fC (.int 65))) (c7 (f2 ZB (bC (c7 (fC (.int 1000)) cR)) (fC (.int 64))) (c7 (f2 ZB (bC (c7 (fC (.str "0")) cR)) (fC (.int 64))) cR))))))) (gN 10)
   TQ)
   (cK (a8 11 (xV (cJ (c7 (fV 4) (c7 (cJ (c7 (fC (.str "plus")) (c7 (fC (.int 4)) (c7 (fC (.int 0)) cR)))) (c7 (fC (.tup [.str "if",.int 5,.tup [.tup [.str "store",.int 3,.int 5]],.tup []])) cR))))))
   (cK (a8 12 (xV (cJ (c7 (fV 4) (c7 (cJ (c7 (fC (.str "if")) (c7 (fC (.int 0)) (c7 (cJ (c7 (fV 4) (c7 (cJ (c7 (fC (.str "plus")) (c7 (fC (.int 0)) (c7 (fC (.int 2)) cR)))) cR))) (c7 (fV 11) cR))))) (c7 (cJ (c7 (fC (.str "plus")) (c7 (fC (.int 0)) (c7 (fC (.int 0)) cR)))) cR))))))
   (bP (RZ (f2 BQ (cP 1 [] cI (aE (cJ (c7 (fC (.int 0)) (c7 (fV 12) cR))) cE)) (fC (.bl ba))) (f2 BQ (cP 1 [] cI (aE (cJ (c7 (fC (.int 1)) (c7 (cJ (c7 (fV 4) (c7 (cJ (c7 (fC (.str "if")) (c7 (fC (.int 0)) (c7 (f2 ZB (cJ (c7 (fV 4) cR)) (fC (.int 9))) (c7 (f2 ZB (cJ (c7 (fV 4) cR)) (fC (.int 9))) cR))))) cR))) cR))) cE)) (fC (.bl ba)))))))))))))))))))))
def KP:bW:=Z9 13 [] Vb
end L2
namespace RR
open PySem L2
structure Txt(K:Ah)(mg:Ue->Option Ua):Prop where
 fnm:∀x a,Gr K Ug x=b3 (b3 (.ref a))->mg x=b3 (.ref a)
 n_len:mg "len"=b4
 n_range:mg "range"=b4
 n_min:mg "min"=b4
 n_max:mg "max"=b4
 SK:mg "list"=b4
 n_tuple:mg "tuple"=b4
 n_sorted:mg "sorted"=b4
 n_isinstance:mg "isinstance"=b4
 n_bool:mg "bool"=b4
 n_int:mg "int"=b4
 n_str:mg "str"=b4
 n_enumerate:mg "enumerate"=b4
 n_zip:mg "zip"=b4
 n_all:mg "all"=b4
 n_dict:mg "dict"=b4
 n_ValueError:mg "ValueError"=b4
 v_DEEDS:∃u v,mg "DEEDS"=b3 u/\b7 v u/\∀N H M,bV K N H M v C5
 v_DEED_PARTS:∃u v,mg "DEED_PARTS"=b3 u/\b7 v u/\∀N H M,bV K N H M v QV
 v_MOST_CELLS:∃u v,mg "MOST_CELLS"=b3 u/\b7 v u/\∀N H M,bV K N H M v VD
 v_MOST_DEEP:∃u v,mg "MOST_DEEP"=b3 u/\b7 v u/\∀N H M,bV K N H M v UD
 v_MOST_PLACE:∃u v,mg "MOST_PLACE"=b3 u/\b7 v u/\∀N H M,bV K N H M v VE
 v_MOST_SURE:∃u v,mg "MOST_SURE"=b3 u/\b7 v u/\∀N H M,bV K N H M v UE
 v_MOST_TREE_ROWS:∃u v,mg "MOST_TREE_ROWS"=b3 u/\b7 v u/\∀N H M,bV K N H M v ZG
 v_MOST_WORD:∃u v,mg "MOST_WORD"=b3 u/\b7 v u/\∀N H M,bV K N H M v XW
 v_OTHER_PARTS:∃u v,mg "OTHER_PARTS"=b3 u/\b7 v u/\∀N H M,bV K N H M v SV
 v_WRITERS:∃u v,mg "WRITERS"=b3 u/\b7 v u/\∀N H M,bV K N H M v K3
 v_Nothing:∃u v,mg "Nothing"=b3 u/\b7 v u/\∀N H M,bV K N H M v (.fn "Nothing")
 v_NotValid:∃u v,mg "NotValid"=b3 u/\b7 v u/\∀N H M,bV K N H M v (.fn "NotValid")
 v_TooLong:∃u v,mg "TooLong"=b3 u/\b7 v u/\∀N H M,bV K N H M v (.fn "TooLong")
 v_TooMany:∃u v,mg "TooMany"=b3 u/\b7 v u/\∀N H M,bV K N H M v (.fn "TooMany")
 v_NoName:∃u v,mg "NoName"=b3 u/\b7 v u/\∀N H M,bV K N H M v (.fn "NoName")
 v_NoText:∃u v,mg "NoText"=b3 u/\b7 v u/\∀N H M,bV K N H M v (.fn "NoText")
 v_NoLoop:∃u v,mg "NoLoop"=b3 u/\b7 v u/\∀N H M,bV K N H M v (.fn "NoLoop")
 v_NoTree:∃u v,mg "NoTree"=b3 u/\b7 v u/\∀N H M,bV K N H M v (.fn "NoTree")
 v_NoProgram:∃u v,mg "NoProgram"=b3 u/\b7 v u/\∀N H M,bV K N H M v (.fn "NoProgram")
 v_NoPlan:∃u v,mg "NoPlan"=b3 u/\b7 v u/\∀N H M,bV K N H M v (.fn "NoPlan")
 v_NoLanes:∃u v,mg "NoLanes"=b3 u/\b7 v u/\∀N H M,bV K N H M v (.fn "NoLanes")
 v_NoRow:∃u v,mg "NoRow"=b3 u/\b7 v u/\∀N H M,bV K N H M v (.fn "NoRow")
 v_NoCells:∃u v,mg "NoCells"=b3 u/\b7 v u/\∀N H M,bV K N H M v (.fn "NoCells")
 v_NoBlock:∃u v,mg "NoBlock"=b3 u/\b7 v u/\∀N H M,bV K N H M v (.fn "NoBlock")
 x_NoCells:∃C,XE K "NoCells" C/\mg "NoCells"=b3 (.ref C)
 x_NoTree:∃C,XE K "NoTree" C/\mg "NoTree"=b3 (.ref C)
 xi:XI K JC U1
section
variable{P:Aw}{w:Uj}{K:Ah}{mg:Ue->Option Ua}{base:Uk}{f:Ub}{fd:Dw}
noncomputable abbrev Nx0:List Ue:=["thing","low","high"]
abbrev Qx0:List Ue:=["thing","low","high"]
def oX:cD Nx0 Qx0 (cV (top 19)):=Y7
def kL(F:X1 K "is_whole" "is_whole" (top 19) f fd)(T:Txt K mg):aI P w K mg base CX0 1 f fd Qx0 (spV K [] 3 bE):=
 RV P w K mg base Nx0 Qx0 0 R7 [] F oX λ_ _ _ _ _ _ c b a=>by
  refine cZ ?_ ?_
  ·exact(bJ (V3 (W4 (ZA (KO T.n_isinstance (vv 0) (vty T.n_bool qC))) (YW (X7 (ZA (KO T.n_isinstance (vv 0) (vty T.n_int gQ)))))))
   (cU (cL Z0))
   cA)
  exact cU (cL (gB HM HM s_le s_le (vv 1) (vv 0) (vv 2)))
abbrev Nx1:List Ue:=["deed"]
abbrev Qx1:List Ue:=["deed"]
def fW:cD Nx1 Qx1 (cV (top 38)):=Y7
def jC(F:X1 K "parts_of" "parts_of" (top 38) f fd)(T:Txt K mg):aI P w K mg base CX0 1 f fd Qx1 (spV K [] 1 aA):=
 RV P w K mg base Nx1 Qx1 0 NH [] F fW λ_ _ _ _ _ _ c b a=>by
  refine cZ ?_ ?_
  ·exact (bJ (bZ (SH b) (YR (neg := bb)) (vv 0) (bN (by rfl) T.v_DEEDS) (by with_unfolding_all rfl))
   (cU (cL (bN (by rfl) T.v_DEED_PARTS)))
   cA)
  exact cU (cL (oP rfl a (bN (by rfl) T.v_OTHER_PARTS) (vv 0) ⟨rfl,rfl,rfl,rfl⟩))
abbrev Nx2:List Ue:=["row"]
abbrev Qx2:List Ue:=["row"]
def hU:cD Nx2 Qx2 (cV (top 39)):=Y7
def lA(F:X1 K "makes_word" "makes_word" (top 39) f fd)(T:Txt K mg):aI P w K mg base CX0 1 f fd Qx2 (spV K [] 1 YB):=
 RV P w K mg base Nx2 Qx2 0 Q1 [] F hU λ_ _ _ _ _ _ c b a=>by exact(cU (cL (X5 (Q4 b) (YR (neg:=ba)) (YA a (vv 0) c5) (bN (by rfl) T.v_WRITERS) (by with_unfolding_all rfl))))
abbrev Nx3:List Ue:=["thing","able"]
abbrev Qx3:List Ue:=["thing","able"]
def nM:cD Nx3 Qx3 (cV (top 43)):=Y7
def fF(F:X1 K "may_name" "may_name" (top 43) f fd)(T:Txt K mg)(c:bQ P w K mg base "is_whole" 1 Qx0 [] bE f_x0):aI P w K mg base CX0 2 f fd Qx3 (spV K [] 2 ZJ):=
 RV P w K mg base Nx3 Qx3 1 SG [] F nM λ_ _ _ _ _ _ b d a=>by exact(cU (cL (W3 (bR c b (cX (vv 0) (cX c5 (cX (cT (ZO WY UW (XS T.n_len (vv 1)) c5)) cS)))) (V0 (YA a (vv 1) (vv 0))))))
abbrev Nx4:List Ue:=["part","thing","able"]
abbrev Qx4:List Ue:=["part","thing","able"]
def lK:cD Nx4 Qx4 (cV (top 44)):=Y7
def Zg(F:X1 K "fits" "fits" (top 44) f fd)(T:Txt K mg)(c:bQ P w K mg base "is_whole" 1 Qx0 [] bE f_x0)(e:bQ P w K mg base "may_name" 2 Qx3 [] ZJ f_x3):aI P w K mg base CX0 3 f fd Qx4 (spV K [] 3 WJ):=
 RV P w K mg base Nx4 Qx4 2 NF [] F lK λ_ _ _ _ _ _ a b d=>by
  refine cZ ?_ ?_
  ·exact(bJ (V4 b (vv 0) cN)
   (cU (cL (bR c a (cX (vv 1) (cX c5 (cX (cT (bN (by rfl) T.v_MOST_WORD)) cS))))))
   cA)
  refine cZ ?_ ?_
  ·exact(bJ (V4 b (vv 0) cN)
   (cU (cL (bR c a (cX (vv 1) (cX c5 (cX (cT (bN (by rfl) T.v_MOST_PLACE)) cS))))))
   cA)
  exact cU (cL (bR e a (cX (vv 1) (cX (vv 2) cS))))
noncomputable abbrev Nx5:List Ue:=["thing","able","deed","rest","parts"]
abbrev Qx5:List Ue:=["thing","able"]
def zAS:cD Nx5 Qx5 (cV (top 45)):=Y7
def jF(F:X1 K "is_row" "is_row" (top 45) f fd)(T:Txt K mg)(d:bQ P w K mg base "parts_of" 1 Qx1 [] aA f_x1)(e:bQ P w K mg base "fits" 3 Qx4 [] WJ f_x4):aI P w K mg base CX0 4 f fd Qx5 (spV K [] 2 V5):=
 RV P w K mg base Nx5 Qx5 3 NG [] F zAS λ_ _ _ _ _ _ b a g=>by
  refine cZ ?_ ?_
  ·exact(bJ (V3 (W4 (X7 (ZA (KO T.n_isinstance (vv 0) (vty T.n_tuple Y2)))) (YW (V4 a (XS T.n_len (vv 0)) c5))))
   (cU (cL Z0))
   cA)
  refine cZ ?_ ?_
  ·exact(lR (i:=2) (j:=3) rfl rfl zAS.nd rfl rfl (by decide) (Cf rfl) (Cf rfl) (vv 0))
  refine cZ ?_ ?_
  ·exact(bT zAS.nd (bI (cT (MI (ZA (KO T.n_isinstance (vv 2) (vty T.n_str Xq))) (bR d b (cX (vv 2) cS)) YV))))
  refine cZ ?_ ?_
  ·exact(bJ (V3 (W4 (bZ FR Vm (vv 4) YV) (YW (bZ (PC a) PJ (XS T.n_len (vv 4)) (XS T.n_len (vv 3))))))
   (cU (cL Z0))
   cA)
  exact cU (cL (Uz (kAll rfl) Wb (by rfl) T.n_all Wr (b9 (Y5 ["able","part","given"] [1] 2 (lV rfl (by rfl) T.n_zip (vv 4) (vv 3)) (λc _ _ _ _=>⟨(SQ (K:=K) rfl rfl (aB (bU c) (aB (bU c) V1))),VY,(cT (bR e b (cX (vv 1) (cX (vv 2) (cX (vv 0) cS)))))⟩)))))
abbrev Nx6:List Ue:=["thing","sure"]
abbrev Qx6:List Ue:=["thing","sure"]
def qr:cD Nx6 Qx6 (cV (top 48)):=Y7
def mK(F:X1 K "is_cells" "is_cells" (top 48) f fd)(T:Txt K mg)(d:bQ P w K mg base "is_whole" 1 Qx0 [] bE f_x0):aI P w K mg base CX0 2 f fd Qx6 (spV K [] 2 Z1):=
 RV P w K mg base Nx6 Qx6 1 R6 [] F qr λ_ _ _ _ _ _ b e a=>by
  refine cZ ?_ ?_
  ·exact (bJ (V3 (W4 (X7 (ZA (KO T.n_isinstance (vv 0) (vty T.SK OK)))) (YW (X7 (JA HM HM s_le s_le (vv 1) (XS T.n_len (vv 0)) (bN (by rfl) T.v_MOST_CELLS))))))
   (cU (cL Z0))
   cA)
  exact cU (cL (Uz (kAll rfl) Wb (by rfl) T.n_all Wr (b9 (Y5 ["word"] [] 1 (V2 rfl (vv 0)) (λc _ _ _ _=>⟨(bU c),VY,(cT (bR d b (cX (vv 0) (cX c5 (cX (cT (bN (by rfl) T.v_MOST_WORD)) cS)))))⟩)))))
abbrev Nx7:List Ue:=["thing"]
abbrev Qx7:List Ue:=["thing"]
def mV:cD Nx7 Qx7 (cV (top 57)):=Y7
def dQ(F:X1 K "is_if" "is_if" (top 57) f fd)(T:Txt K mg):aI P w K mg base CX0 1 f fd Qx7 (spV K [] 1 TK):=
 RV P w K mg base Nx7 Qx7 0 DC [] F mV λ_ _ _ _ _ _ c b a=>by
  refine cZ ?_ ?_
  ·exact(bJ (V3 (W4 (X7 (ZA (KO T.n_isinstance (vv 0) (vty T.n_tuple Y2)))) (YW (bZ (PC b) PJ (XS T.n_len (vv 0)) c5))))
   (cU (cL Z0))
   cA)
  exact cU (cL (W3 (KO T.n_isinstance (YA a (vv 0) c5) (vty T.n_str Xq)) (V0 (veq b (YA a (vv 0) c5) cN))))
noncomputable abbrev Nx8:List Ue:=["thing","able","deep","sight","side","within"]
abbrev Qx8:List Ue:=["thing","able","deep"]
def IF:cD Nx8 Qx8 (cV (top 58)):=Y7
noncomputable abbrev Nx9:List Ue:=["things","able","deep","sight","thing"]
abbrev Qx9:List Ue:=["things","able","deep"]
def IG:cD Nx9 Qx9 (cV (top 59)):=Y7
def mY{R:bW}{a:Nat}(h:4<=a)(F:X1 K "sight_behind_if" "sight_behind_if" (top 58) f fd)(T:Txt K mg)(e:bQ P w K mg base "may_name" 2 Qx3 [] ZJ f_x3)(g:bQ P w K mg base "sight_behind" a Qx9 [] R f_x9):aI P w K mg base CX0 (a+1) f fd Qx8 (spV K [] 3 (Z9 6 [] (ZP R))):=
 RV P w K mg base Nx8 Qx8 (a+0) (ZP R) [] F IF λ_ _ _ _ _ _ c d b=>by
  refine cZ ?_ ?_
  ·exact (bJ (V3 (W4 (V4 d (vv 2) (bN (by rfl) T.v_MOST_DEEP)) (YW (X7 (ZA (bR (hk := by lia) e c (cX (cT (YA b (vv 0) c5)) (cX (vv 1) cS))))))))
   (cU (cL YV))
   cA)
  refine cZ ?_ ?_
  ·exact(bT IF.nd (bI (cT (bS ZR aK (vv 1) (b9 (bY (cO (c8 Z0 cY))))))))
  refine cZ ?_ ?_
  ·exact(WN Cz rfl (V2 rfl (cT (RL rfl (vv 0) (RO c5) RM))) (bU IF.nd)
   (cZ (bT IF.nd (bI (cT (bR (hk:=by lia) g c (cX (vv 4) (cX (vv 3) (cX (cT (bS ZR aK (vv 2) c5)) cS)))))))
   (cZ (bJ (bZ FR Vm (vv 5) YV)
   (cU (cL YV))
   cA)
   (cU (bT IF.nd (bI (cT (bS ZR aK (vv 3) (bS NN UF (b9 (bY (cO (c8 Z0 cY)))) (ZO WY UW (XS T.n_len (vv 5)) (XS T.n_len (vv 3))))))))))))
  exact cU (cL (vv 3))
def gE{R:bW}{a:Nat}(j:4<=a)(F:X1 K "sight_behind" "sight_behind" (top 59) f fd)(T:Txt K mg)(c:bQ P w K mg base "makes_word" 1 Qx2 [] YB f_x2)(d:bQ P w K mg base "is_row" 4 Qx5 [] V5 f_x5)(e:bQ P w K mg base "is_if" 1 Qx7 [] TK f_x7)(g:bQ P w K mg base "sight_behind_if" (a+1) Qx8 [] (Z5 R) f_x8):aI P w K mg base CX0 (a+2) f fd Qx9 (spV K [] 3 (Z9 5 [] (ZK R))):=
 RV P w K mg base Nx9 Qx9 (a+1) (ZK R) [] F IG λ_ _ _ _ _ _ b i h=>by
  refine cZ ?_ ?_
  ·exact(bJ (X7 (ZA (KO T.n_isinstance (vv 0) (vty T.n_tuple Y2))))
   (cU (cL YV))
   cA)
  refine cZ ?_ ?_
  ·exact(bT IG.nd (bI (vv 1)))
  refine cZ ?_ ?_
  ·exact(WN Cz rfl (V2 rfl (vv 0)) (bU IG.nd)
   (cZ (bJ (ZA (bR (hk:=by lia) e b (cX (vv 4) cS)))
   (cU (bT IG.nd (bI (cT (bR (hk:=by lia) g b (cX (vv 4) (cX (vv 3) (cX (vv 2) cS))))))))
   (cU (bJ (ZA (bR (hk:=by lia) d b (cX (vv 4) (cX (vv 3) cS))))
   (cU (bT IG.nd (bI (cT (bS ZR aK (vv 3) (b9 (bY (cO (c8 (bR (hk:=by lia) c b (cX (vv 4) cS)) cY)))))))))
   (cU (cL YV)))))
   (cU (bJ (V3 (W4 (bZ FR Vm (vv 3) YV) (YW (bZ HL s_gt (XS T.n_len (vv 3)) (bN (by rfl) T.v_MOST_TREE_ROWS)))))
   (cU (cL YV))
   cA))))
  exact cU (cL (vv 3))
abbrev Nx10:List Ue:=["thing"]
abbrev E1:List Ue:=["thing"]
def gG:cD Nx10 E1 (cV (top 60)):=Y7
def kR(F:X1 K "is_tree" "is_tree" (top 60) f fd)(T:Txt K mg)(e:bQ P w K mg base "is_whole" 1 Qx0 [] bE f_x0)(d:bQ P w K mg base "sight_behind" 20 Qx9 [] (bM 8) f_x9):aI P w K mg base CX0 21 f fd E1 (spV K [] 1 cI):=
 RV P w K mg base Nx10 E1 20 P5 [] F gG λ_ _ _ _ _ _ b c a=>by
  refine cZ ?_ ?_
  ·exact(bJ (V3 (W4 (X7 (ZA (KO T.n_isinstance (vv 0) (vty T.n_tuple Y2)))) (YW (bZ (PC c) PJ (XS T.n_len (vv 0)) c5))))
   (cU (cL Z0))
   cA)
  exact cU (cL (W3 (bR e b (cX (cT (YA a (vv 0) c5)) (cX c5 (cX (cT (bN (by rfl) T.v_MOST_SURE)) cS)))) (V0 (X5 jS nT (bR d b (cX (cT (YA a (vv 0) c5)) (cX (b9 (bY (cO cY))) (cX c5 cS)))) YV))))
noncomputable abbrev Nx11:List Ue:=["tree","cells","then","fault"]
abbrev Qx11:List Ue:=["tree","cells"]
def eD:cD Nx11 Qx11 (cV (top 63)):=Y7
def mB(F:X1 K "run_tree" "run_tree" (top 63) f fd)(T:Txt K mg)(d:bQ P w K mg base "is_cells" 2 Qx6 [] Z1 f_x6)(c:bQ P w K mg base "is_tree" 21 E1 [] cI f_x10):aI P w K mg base (CXv P w) 22 f fd Qx11 (spX K 2 X2):=
 okZ P w K mg base Nx11 Qx11 21 SS F eD λ_ _ _ _ _ _ b e a=>by
  exact(jO (W5 (Ux (X7 (ZA (bR c b (cX (vv 0) cS)))) (W5 (OG rfl KH rfl (by rfl) T.x_NoTree)) GI))
   (lX (bJ (X7 (ZA (bR c b (cX (vv 0) cS))))
   (cU iF)
   cA)
   (W5 (Ux (X7 (ZA (bR d b (cX (vv 1) (cX (cT (YA a (vv 0) c5)) cS))))) (W5 (OG rfl KH rfl (by rfl) T.x_NoCells)) GI))))
noncomputable abbrev Nx12:List Ue:=["tree","sure","rows","flat"]
abbrev Qx12:List Ue:=["tree"]
def oJ:cD Nx12 Qx12 (cV (top 65)):=Y7
def pP(F:X1 K "flattened" "flattened" (top 65) f fd)(T:Txt K mg)(c:bQ P w K mg base "is_tree" 21 E1 [] cI f_x10):aI P w K mg base (CXv P w) 22 f fd Qx12 (spX K 1 WP):=
 okZ P w K mg base Nx12 Qx12 21 PV F oJ λ_ _ _ _ _ _ b d a=>by exact(W5 (Ux (X7 (ZA (bR c b (cX (vv 0) cS)))) (W5 (OG rfl KH rfl (by rfl) T.x_NoTree)) GI))
noncomputable abbrev Nx13:List Ue:=["_law_script","_law_k","_law_rest","_law_again"]
abbrev Qx13:List Ue:=["_law_script","_law_k"]
def KI:cD Nx13 Qx13 (cV (top 67)):=Y7
def Yv(F:X1 K "_law_cell_at" "_law_cell_at" (top 67) f fd)(T:Txt K mg):aI P w K mg base CX0 1 f fd Qx13 (spV K [] 2 aF):=
 RV P w K mg base Nx13 Qx13 0 WL [] F KI λ_ _ _ _ _ _ c b a=>by
  refine cZ ?_ ?_
  ·exact(bJ (bZ HN s_lt (vv 1) (XS T.n_len (vv 0)))
   (cU (cL (YA a (vv 0) (vv 1))))
   cA)
  refine cZ ?_ ?_
  ·exact(bJ (V4 b (vv 0) (b9 (bY (cO cY))))
   (cU (cL c5))
   cA)
  refine cZ ?_ ?_
  ·exact(bT KI.nd (bI (cT (YA a (vv 0) (ZO UR PU (vv 1) (XS T.n_len (vv 0)))))))
  refine cZ ?_ ?_
  ·exact (WN Cz rfl (X6 (by rfl) T.n_range (X8 (AR rfl) iH (by rfl) T.n_min eV (ZO J4 F5 (vv 1) (XS T.n_len (vv 0))) c5)) (bU KI.nd)
   (cU (bT KI.nd (bI (cT (ZO J4 F5 (vv 2) c5))))))
  exact cU (cL (bS ZR aK (bS ZR aK (bS JV OL (YA a (vv 0) (ZO UR PU (vv 1) (XS T.n_len (vv 0)))) c5) (vv 1)) (bS JV OL (vv 2) c5)))
noncomputable abbrev Nx14:List Ue:=["_law_script","_law_k","_law_bound","_law_drawn"]
abbrev Qx14:List Ue:=["_law_script","_law_k","_law_bound"]
def zAY:cD Nx14 Qx14 (cV (top 68)):=Y7
def pW(F:X1 K "_law_mixed" "_law_mixed" (top 68) f fd)(T:Txt K mg)(a:bQ P w K mg base "_law_cell_at" 1 Qx13 [] aF f_x13):aI P w K mg base CX0 2 f fd Qx14 (spV K [] 3 YN):=
 RV P w K mg base Nx14 Qx14 1 UI [] F zAY λ_ _ _ _ _ _ c d b=>by
  refine cZ ?_ ?_
  ·exact(bT zAY.nd (bI (cT (ZO UR PU (bS ZR aK (bS ZR aK (bS JV OL (bR a c (cX (vv 0) (cX (vv 1) cS))) c5) (bS JV OL c5 (vv 1))) c5) c5))))
  exact cU (cL (ZO UR PU (ZO UR PU (ZO UR PU (ZO jU fX (vv 3) c5) c5) c5) (vv 2)))
abbrev Nx15:List Ue:=["_law_script","_law_town","_law_bound"]
abbrev MM:List Ue:=["_law_script","_law_town","_law_bound"]
def eL:cD Nx15 MM (cV (top 69)):=Y7
def dN(F:X1 K "_law_draw" "_law_draw" (top 69) f fd)(T:Txt K mg)(a:bQ P w K mg base "_law_mixed" 2 Qx14 [] YN f_x14):aI P w K mg base CX0 3 f fd MM (spV K [1] 3 cC):=
 RV P w K mg base Nx15 MM 2 R8 [1] F eL λ_ _ _ _ _ _ c d b=>by
  refine cZ ?_ ?_
  ·exact(ZY Bi Bj aR X3 (pv 1) (cO (c8 c5 cY)))
  exact cU (cL (bR a c (cX (vv 0) (cX (cT (XS T.n_len (vo 1))) (cX (vv 2) cS)))))
abbrev Nx16:List Ue:=["_law_script","_law_town","_law_some"]
abbrev PY:List Ue:=["_law_script","_law_town","_law_some"]
def jH:cD Nx16 PY (cV (top 70)):=Y7
def gD(F:X1 K "_law_pick" "_law_pick" (top 70) f fd)(T:Txt K mg)(c:bQ P w K mg base "_law_draw" 3 MM [1] cC f_x15):aI P w K mg base CX0 4 f fd PY (spV K [1] 3 cF):=
 RV P w K mg base Nx16 PY 3 SA [1] F jH λ_ _ _ _ _ _ b d a=>by exact(cU (cL (YA a (vv 2) (bR c b (cX (vv 0) (bO (pv 1) (cX (cT (XS T.n_len (vv 2))) cS)))))))
noncomputable abbrev Nx17:List Ue:=["_law_script","_law_town","_law_seen","_law_deed","_law_room"]
abbrev Qx17:List Ue:=["_law_script","_law_town","_law_seen","_law_deed","_law_room"]
def Zz:cD Nx17 Qx17 (cV (top 71)):=Y7
def jP(F:X1 K "_law_place" "_law_place" (top 71) f fd)(T:Txt K mg)(c:bQ P w K mg base "_law_draw" 3 MM [1] cC f_x15)(d:bQ P w K mg base "_law_pick" 4 PY [1] cF f_x16):aI P w K mg base CX0 5 f fd Qx17 (spV K [1,2] 5 aU):=
 RV P w K mg base Nx17 Qx17 4 UJ [1,2] F Zz λ_ _ _ _ _ _ b e a=>by
  refine cZ ?_ ?_
  ·exact(EW a (pv 2) (vv 3) (cT (ZO UR PU (bS ZR aK (lC a (pv 2) (vv 3) (cT (bR c b (cX (vv 0) (bO (pv 1) (cX (vv 4) cS))))) ⟨rfl,rfl,rfl,rfl⟩) (bR d b (cX (vv 0) (bO (pv 1) (cX (b9 (bY (cO (c8 c5 (c8 c5 (c8 c5 (c8 c5 (c8 c5 cY)))))))) cS))))) (vv 4))) rfl)
  exact cU (cL (YA a (vo 2) (vv 3)))
noncomputable abbrev Nx18:List Ue:=["_law_script","_law_town","_law_made","_law_seen","_law_room","_law_kind","_law_a","_law_b","_law_c"]
abbrev AD:List Ue:=["_law_script","_law_town","_law_made","_law_seen","_law_room"]
def N8:cD Nx18 AD (cV (top 72)):=Y7
def iZ(F:X1 K "_law_row" "_law_row" (top 72) f fd)(T:Txt K mg)(e:bQ P w K mg base "_law_draw" 3 MM [1] cC f_x15)(h:bQ P w K mg base "_law_pick" 4 PY [1] cF f_x16)(d:bQ P w K mg base "_law_place" 5 Qx17 [1,2] aU f_x17):aI P w K mg base CX0 6 f fd AD (spV K [1,3] 5 YO):=
 RV P w K mg base Nx18 AD 5 P8 [1,3] F N8 λ_ _ _ _ _ _ a b c=>by
  refine cZ ?_ ?_
  ·exact(bT N8.nd (bI (cT (bR e a (cX (vv 0) (bO (pv 1) (cX c5 cS)))))))
  refine cZ ?_ ?_
  ·exact(bJ (V3 (W4 (V4 b (vv 2) (b9 (bY (cO cY)))) (YW (V4 b (vv 5) c5))))
   (cZ (bJ (V4 b (bR e a (cX (vv 0) (bO (pv 1) (cX c5 cS)))) c5)
   (cU (cL (cQ (c8 cN (c8 (bR h a (cX (vv 0) (bO (pv 1) (cX (b9 (bY (cO (c8 c5 (c8 c5 (c8 c5 (c8 c5 (c8 c5 (c8 (bR e a (cX (vv 0) (bO (pv 1) (cX c5 cS)))) cY))))))))) cS)))) cY)))))
   cA)
   (cU (cL (cQ (c8 cN (c8 (bR d a (cX (vv 0) (bO (pv 1) (bO (pv 3) (cX cN (cX (vv 4) cS)))))) cY))))))
   cA)
  refine cZ ?_ ?_
  ·exact(Wo (b9 (Y5 ["_law_script","_law_town","_law_made","_law_k"] [0,1,2] 1 (X6 (by rfl) T.n_range c5) (λg _ _ _ _=>⟨(bU g),VY,(cT (YA c (vv 2) (X8 (AQ rfl) iP (by rfl) T.n_max pA c5 (ZO WY UW (ZO WY UW (XS T.n_len (vv 2)) c5) (bR e a (cX (vv 0) (bO (pv 1) (cX c5 cS))))))))⟩))) (SQ (K:=K) rfl rfl (aB (bU N8.nd) (aB (bU N8.nd) (aB (bU N8.nd) V1)))))
  refine cZ ?_ ?_
  ·exact (bJ (bZ (SH b) (YR (neg := bb)) (vv 5) (cQ (c8 c5 (c8 c5 cY))) (by with_unfolding_all rfl))
   (cU (cL (cQ (c8 cN (c8 (bR d a (cX (vv 0) (bO (pv 1) (bO (pv 3) (cX cN (cX (vv 4) cS)))))) cY)))))
   cA)
  refine cZ ?_ ?_
  ·exact(bJ (V4 b (vv 5) c5)
   (cU (cL (cQ (c8 cN (c8 (bR d a (cX (vv 0) (bO (pv 1) (bO (pv 3) (cX cN (cX (vv 4) cS)))))) (c8 (vv 8) (c8 (vv 6) cY)))))))
   cA)
  refine cZ ?_ ?_
  ·exact (bJ (bZ (SH b) (YR (neg := bb)) (vv 5) (cQ (c8 c5 (c8 c5 cY))) (by with_unfolding_all rfl))
   (cU (cL (cQ (c8 cN (c8 (bR d a (cX (vv 0) (bO (pv 1) (bO (pv 3) (cX cN (cX (vv 4) cS)))))) (c8 (vv 6) cY))))))
   cA)
  refine cZ ?_ ?_
  ·exact(bJ (V4 b (vv 5) c5)
   (cU (cL (cQ (c8 cN (c8 (bR d a (cX (vv 0) (bO (pv 1) (bO (pv 3) (cX cN (cX (vv 4) cS)))))) (c8 (vv 6) (c8 (vv 8) cY)))))))
   cA)
  refine cZ ?_ ?_
  ·exact(bJ (V4 b (vv 5) c5)
   (cU (cL (cQ (c8 cN (c8 (vv 8) (c8 (vv 6) (c8 (vv 7) cY)))))))
   cA)
  exact cU (cL (cQ (c8 (YA c (b9 (bY (cO (c8 cN (c8 cN (c8 cN (c8 cN (c8 cN (c8 cN (c8 cN cY)))))))))) (bR e a (cX (vv 0) (bO (pv 1) (cX c5 cS))))) (c8 (vv 6) (c8 (vv 7) cY)))))
noncomputable abbrev Nx20:List Ue:=["_law_script","_law_town","_law_rows_here","_law_made","_law_seen","_law_room","_law_last","_law_first","_law_names_here","_law_name","_law_at"]
abbrev Qx20:List Ue:=["_law_script","_law_town","_law_rows_here","_law_made","_law_seen","_law_room"]
def QK:cD Nx20 Qx20 (cV (top 74)):=Y7
def kF(F:X1 K "_law_next" "_law_next" (top 74) f fd)(T:Txt K mg)(d:bQ P w K mg base "_law_pick" 4 PY [1] cF f_x16):aI P w K mg base CX0 5 f fd Qx20 (spV K [1,4] 6 ZU):=
 RV P w K mg base Nx20 Qx20 4 VM [1,4] F QK λ_ _ _ _ _ _ c b a=>by
  refine cZ ?_ ?_
  ·exact(bT QK.nd (bI (cT (YA a (vv 2) (UZ c5)))))
  refine cZ ?_ ?_
  ·exact(bT QK.nd (bI (cT (MI (bZ (SH b) (YR (neg:=bb)) (YA a (vv 6) c5) (cQ (c8 cN (c8 cN (c8 cN (c8 cN cY))))) (by with_unfolding_all rfl)) c5 c5))))
  refine cZ ?_ ?_
  ·exact(bT QK.nd (VC (bY (cO cY))))
  refine cZ ?_ ?_
  ·exact(WN Cz rfl (V2 rfl (cT (RL rfl (vv 6) (RO (vv 7)) RM))) (bU QK.nd)
   (cZ (bT QK.nd (bI (cT (bS ZR aK (Zh rfl (vv 3) (vv 9)) (bR d c (cX (vv 0) (bO (pv 1) (cX (b9 (bY (cO (c8 c5 (c8 c5 (c8 c5 (c8 c5 (c8 (UZ c5) (c8 c5 (c8 c5 cY)))))))))) cS))))))))
   (cU (ZY Bi Bj aR X3 (pv 8) (cO (c8 (MI (V3 (QO (JA HM HN s_le s_lt c5 (vv 10) (XS T.n_len (vv 3))) (O0 (bZ (PC b) PJ (YA a (vv 3) (vv 10)) (ZO WY UW (XS T.n_len (vv 2)) c5))))) (YA a (vv 3) (vv 10)) (vv 9)) cY))))))
  refine cZ ?_ ?_
  ·exact(bJ (V4 b (vv 7) c5)
   (cU (cL (bS ZR aK (RL rfl (vv 6) RM (RO c5)) (MH T1 TU (by rfl) T.n_tuple Y2 (vo 8)))))
   cA)
  refine cZ ?_ ?_
  ·exact(EW a (pv 4) (YA a (vv 6) c5) (cT (ZO UR PU (bS ZR aK (YA a (vv 6) c5) c5) (vv 5))) rfl)
  exact cU (cL (bS ZR aK (cQ (c8 (YA a (vv 6) c5) (c8 (YA a (vo 4) (YA a (vv 6) c5)) cY))) (MH T1 TU (by rfl) T.n_tuple Y2 (vo 8))))
noncomputable abbrev Nx19:List Ue:=["_law_script","_law_town","_law_many","_law_room","_law_rows_here","_law_made","_law_seen","_law_again"]
abbrev Qx19:List Ue:=["_law_script","_law_town","_law_many","_law_room"]
def F6:cD Nx19 Qx19 (cV (top 73)):=Y7
def gR(F:X1 K "_law_rows" "_law_rows" (top 73) f fd)(T:Txt K mg)(g:bQ P w K mg base "_law_pick" 4 PY [1] cF f_x16)(e:bQ P w K mg base "_law_row" 6 AD [1,3] YO f_x18)(d:bQ P w K mg base "_law_next" 5 Qx20 [1,4] ZU f_x20):aI P w K mg base CX0 7 f fd Qx19 (spV K [1] 4 X0):=
 RV P w K mg base Nx19 Qx19 6 SD [1] F F6 λ_ _ _ _ _ _ c b a=>by
  refine cZ ?_ ?_
  ·exact(oF (i:=4) (j:=5) (k:=6) rfl F6.nd rfl rfl rfl (by decide) (by decide) (by decide) rfl rfl rfl (VC (bY (cO cY))) (VC (bY (cO cY))) (VC eE) rfl)
  refine cZ ?_ ?_
  ·exact(OF Cz (bZ HN s_lt (XS T.n_len (vo 4)) (vv 2))
   (cZ (ZY Bi Bj aR X3 (pv 4) (cO (c8 (bR e c (cX (vv 0) (bO (pv 1) (bO (pv 5) (bO (pv 6) (cX (vv 3) cS)))))) cY)))
   (cZ (bJ (bZ (Q4 b) (YR (neg:=ba)) (YA a (YA a (vo 4) (UZ c5)) c5) (cQ (c8 cN (c8 cN cY))) (by with_unfolding_all rfl))
   (cU (ZY Bi Bj aR X3 (pv 5) (cO (c8 (ZO WY UW (XS T.n_len (vo 4)) c5) cY))))
   cA)
   (cU (WN Cz rfl (X6 (by rfl) T.n_range (bR g c (cX (vv 0) (bO (pv 1) (cX (b9 (bY (cO (c8 c5 (c8 c5 (c8 c5 (c8 c5 (c8 c5 cY)))))))) cS))))) (bU F6.nd)
   (cU (bJ (V3 (QO (bZ HN s_lt (XS T.n_len (vo 4)) (vv 2)) (O0 (bZ (PC b) PJ (YA a (YA a (vo 4) (UZ c5)) c5) cN))))
   (cZ (ZY Bi Bj aR X3 (pv 4) (cO (c8 (bR d c (cX (vv 0) (bO (pv 1) (bO (pv 4) (bO (pv 5) (bO (pv 6) (cX (vv 3) cS))))))) cY)))
   (cU (bJ (bZ (Q4 b) (YR (neg:=ba)) (YA a (YA a (vo 4) (UZ c5)) c5) (cQ (c8 cN (c8 cN cY))) (by with_unfolding_all rfl))
   (cU (ZY Bi Bj aR X3 (pv 5) (cO (c8 (ZO WY UW (XS T.n_len (vo 4)) c5) cY))))
   cA)))
   cA)))))))
  exact cU (cL (MH T1 TU (by rfl) T.n_tuple Y2 (vo 4)))
abbrev Nx22:List Ue:=["_law_row_here"]
abbrev Qx22:List Ue:=["_law_row_here"]
def dH:cD Nx22 Qx22 (cV (top 76)):=Y7
def qq(F:X1 K "_law_names" "_law_names" (top 76) f fd)(T:Txt K mg):aI P w K mg base CX0 1 f fd Qx22 (spV K [] 1 aT):=
 RV P w K mg base Nx22 Qx22 0 PL [] F dH λ_ _ _ _ _ _ c b a=>by
  refine cZ ?_ ?_
  ·exact(bJ (V4 b (YA a (vv 0) c5) cN)
   (cU (cL (b9 (bY (cO cY)))))
   cA)
  exact cU (cL (MI (bZ (SH b) (YR (neg:=bb)) (YA a (vv 0) c5) (cQ (c8 cN (c8 cN (c8 cN (c8 cN cY))))) (by with_unfolding_all rfl)) (b9 (Xo Yg SK (by rfl) T.SK OK (Vk (RL rfl (vv 0) (RO c5) RM)))) (b9 (Xo Yg SK (by rfl) T.SK OK (Vk (RL rfl (vv 0) (RO c5) RM))))))
noncomputable abbrev Nx23:List Ue:=["_law_block_here","_law_row_here","_law_here"]
abbrev Qx23:List Ue:=["_law_block_here","_law_row_here"]
def zAX:cD Nx23 Qx23 (cV (top 77)):=Y7
def eM(F:X1 K "_law_may" "_law_may" (top 77) f fd)(T:Txt K mg):aI P w K mg base CX0 1 f fd Qx23 (spV K [] 2 ZC):=
 RV P w K mg base Nx23 Qx23 0 P7 [] F zAX λ_ _ _ _ _ _ d b a=>by
  refine cZ ?_ ?_
  ·exact(bT zAX.nd (bI (cT (YA a (YA a (vv 0) c5) (vv 1)))))
  refine cZ ?_ ?_
  ·exact (bJ (bZ (SH b) (YR (neg := bb)) (YA a (vv 2) c5) (cQ (c8 cN (c8 cN (c8 cN (c8 cN cY))))) (by with_unfolding_all rfl))
   (cU (cL (X5 iX s_ge (YA a (vv 2) c5) (YA a (vv 0) c5))))
   cA)
  exact cU (cL (W3 (veq b (YA a (vv 2) c5) cN) (V0 (X5 (Q4 b) (YR (neg:=ba)) (RL rfl (YA a (YA a (vv 0) c5) (YA a (vv 2) c5)) RM (RO c5)) (b9 (Y5 ["_law_k"] [] 1 (CQ (by rfl) T.n_range c5 c5) (λc _ _ _ _=>⟨(bU c),VY,(cT (cQ (c8 cN (c8 (vv 0) cY))))⟩))) (by with_unfolding_all rfl)))))
noncomputable abbrev Nx24:List Ue:=["_law_block_here","_law_made","_law_cells","_law_two","_law_there","_law_one","_law_here","_law_writes","_law_reasons"]
abbrev Qx24:List Ue:=["_law_block_here"]
def UX:cD Nx24 Qx24 (cV (top 78)):=Y7
def jM(F:X1 K "_law_must" "_law_must" (top 78) f fd)(T:Txt K mg)(e:bQ P w K mg base "_law_names" 1 Qx22 [] aT f_x22)(d:bQ P w K mg base "_law_may" 1 Qx23 [] ZC f_x23):aI P w K mg base CX0 2 f fd Qx24 (spV K [] 1 XZ):=
 RV P w K mg base Nx24 Qx24 1 R9 [] F UX λ_ _ _ _ _ _ c b a=>by
  refine cZ ?_ ?_
  ·exact(OZ (i:=1) (j:=2) rfl UX.nd rfl rfl (by decide) rfl rfl (VC (bY (cO cY))) (bI (cT (cQ (c8 cN (c8 cN (c8 cN (c8 cN cY))))))) rfl)
  refine cZ ?_ ?_
  ·exact (WN Cz rfl (KN rfl (by rfl) T.n_enumerate (cT (YA a (vv 0) c5))) (SQ (K := K) rfl rfl (aB (bU UX.nd) (aB (bU UX.nd) V1)))
   (cU (WN Cz rfl (KN rfl (by rfl) T.n_enumerate (cT (RL rfl (YA a (vv 0) c5) RM (RO (vv 3))))) (SQ (K:=K) rfl rfl (aB (bU UX.nd) (aB (bU UX.nd) V1)))
   (cZ (jJ bb UX.nd ["_law_row_here"] [] 1 (V2 rfl (cT (cQ (c8 (vv 6) (c8 (vv 4) cY))))) (λg _ _ _ _=>⟨(bU g),(GG (bZ (SH b) (YR (neg:=bb)) (YA a (vv 0) c5) (cQ (c8 cN (c8 cN cY))) (by with_unfolding_all rfl))),(vv 0)⟩))
   (cZ (bT UX.nd (VC (bY (cO (c8 (X5 (SH b) (YR (neg:=bb)) (vv 5) (bR e c (cX (vv 4) cS)) (by with_unfolding_all rfl)) (c8 (W3 (bR d c (cX (vv 0) (cX (vv 5) cS))) (V0 (bR d c (cX (vv 0) (cX (vv 3) cS))))) cY))))))
   (cZ (ZY Bi Bj aR X3 (pv 8) (cO (c8 (W3 (X5 (SH b) (YR (neg:=bb)) (YA a (vv 6) c5) (vv 2) (by with_unfolding_all rfl)) (W3 (X5 (SH b) (YR (neg:=bb)) (YA a (vv 4) c5) (vv 2) (by with_unfolding_all rfl)) (W3 (veq b (YA a (vv 6) c5) (YA a (vv 4) c5)) (V0 (X5 (PC b) PJ (vv 7) (b9 (bY (cO cY)))))))) cY)))
   (cZ (ZY Bi Bj aR X3 (pv 8) (cO (c8 (W3 (bR d c (cX (vv 0) (cX (vv 5) cS))) (V0 (X5 (SH b) (YR (neg:=bb)) (YA a (vv 4) c5) (cQ (c8 cN (c8 cN cY))) (by with_unfolding_all rfl)))) cY)))
   (cZ (ZY Bi Bj aR X3 (pv 8) (cO (c8 (W3 (bR d c (cX (vv 0) (cX (vv 3) cS))) (V0 (X5 (SH b) (YR (neg:=bb)) (YA a (vv 6) c5) (cQ (c8 cN (c8 cN cY))) (by with_unfolding_all rfl)))) cY)))
   (cU (bJ (bZ (SH b) (YR (neg:=bb)) Z0 (vo 8) (by with_unfolding_all rfl))
   (cU (ZY Bi Bj aR X3 (pv 1) (cO (c8 (cQ (c8 (vv 5) (c8 (vv 3) cY))) cY))))
   cA))))))))))
  exact cU (cL (b9 (Zj mQ Zo (by rfl) T.n_sorted AM (Vk (vo 1)))))
noncomputable abbrev Nx26:List Ue:=["_law_script","_law_town","_law_block_here","_law_pairs","_law_left","_law_made","_law_ready"]
abbrev Qx26:List Ue:=["_law_script","_law_town","_law_block_here"]
def F7:cD Nx26 Qx26 (cV (top 80)):=Y7
def Zy(F:X1 K "_law_mixed_order" "_law_mixed_order" (top 80) f fd)(T:Txt K mg)(g:bQ P w K mg base "_law_pick" 4 PY [1] cF f_x16)(e:bQ P w K mg base "_law_must" 2 Qx24 [] XZ f_x24):aI P w K mg base CX0 5 f fd Qx26 (spV K [1] 3 aM):=
 RV P w K mg base Nx26 Qx26 4 YH [1] F F7 λ_ _ _ _ _ _ d b a=>by
  refine cZ ?_ ?_
  ·exact(iO (i:=3) (j:=4) (k:=5) rfl rfl F7.nd rfl rfl rfl (by decide) (by decide) (by decide) (Bk rfl) (Bk rfl) (Cf rfl) (bI (cT (bR e d (cX (vv 2) cS)))) (VC (CT rfl (by rfl) T.SK OK (by rfl) T.n_range oU (XS T.n_len (YA a (vv 2) c5)))) (VC (bY (cO cY))))
  refine cZ ?_ ?_
  ·exact(OF Cz (bZ (PC b) PJ (vo 4) (b9 (bY (cO cY))))
   (cZ (eB bb F7.nd ["_law_pairs","_law_left","_law_row_here"] [3,4] 1 (iN rfl (vo 4)) (λc _ _ _ _=>⟨(bU c),(GG (V4 b (b9 (Y5 ["_law_left","_law_row_here","_law_one","_law_two"] [1,2] 2 (V2 rfl (vv 0)) (λc _ _ _ _=>⟨(SQ (K:=K) rfl rfl (aB (bU c) (aB (bU c) V1))),(GG (V3 (QO (V4 b (vv 3) (vv 1)) (O0 (bZ (SH b) (YR (neg:=bb)) (vv 2) (vo 0) (by with_unfolding_all rfl)))))),c5⟩))) (b9 (bY (cO cY))))),(vv 2)⟩))
   (cZ (ZY Bi Bj aR X3 (pv 5) (cO (c8 (bR g d (cX (vv 0) (bO (pv 1) (cX (vv 6) cS)))) cY)))
   (cU (ZY PySem.F.slot_list_remove PySem.F.type_list_remove BN mT (pv 4) (cO (c8 (YA a (vo 5) (UZ c5)) cY)))))))
  exact cU (fZ (pv 5))
abbrev Nx27:List Ue:=["_law_row_here","_law_names_here","_law_first"]
abbrev Qx27:List Ue:=["_law_row_here","_law_names_here"]
def zAV:cD Nx27 Qx27 (cV (top 81)):=Y7
def lT(F:X1 K "_law_renamed" "_law_renamed" (top 81) f fd)(T:Txt K mg):aI P w K mg base CX0 1 f fd Qx27 (spV K [] 2 b5):=
 RV P w K mg base Nx27 Qx27 0 aW [] F zAV λ_ _ _ _ _ _ d b a=>by
  refine cZ ?_ ?_
  ·exact(bJ (V4 b (YA a (vv 0) c5) cN)
   (cU (cL (vv 0)))
   cA)
  refine cZ ?_ ?_
  ·exact(bT zAV.nd (bI (cT (MI (bZ (SH b) (YR (neg:=bb)) (YA a (vv 0) c5) (cQ (c8 cN (c8 cN (c8 cN (c8 cN cY))))) (by with_unfolding_all rfl)) c5 c5))))
  exact cU (cL (bS ZR aK (RL rfl (vv 0) RM (RO (vv 2))) (MH T1 TU (by rfl) T.n_tuple Y2 (b9 (Y5 ["_law_names_here","_law_name"] [1] 1 (V2 rfl (cT (RL rfl (vv 0) (RO (vv 2)) RM))) (λc _ _ _ _=>⟨(bU c),VY,(cT (YA a (vv 0) (vv 1)))⟩))))))
noncomputable abbrev Nx21:List Ue:=["_law_script","_law_town","_law_most","_law_room","_law_sure","_law_block_here","_law_order_there","_law_names_here"]
abbrev Qx21:List Ue:=["_law_script","_law_town","_law_most"]
def QL:cD Nx21 Qx21 (cV (top 75)):=Y7
def qo(F:X1 K "_law_block" "_law_block" (top 75) f fd)(T:Txt K mg)(d:bQ P w K mg base "_law_draw" 3 MM [1] cC f_x15)(e:bQ P w K mg base "_law_pick" 4 PY [1] cF f_x16)(g:bQ P w K mg base "_law_rows" 7 Qx19 [1] X0 f_x19)(h:bQ P w K mg base "_law_mixed_order" 5 Qx26 [1] aM f_x26)(i:bQ P w K mg base "_law_renamed" 1 Qx27 [] b5 f_x27):aI P w K mg base CX0 8 f fd Qx21 (spV K [1] 3 Z4):=
 RV P w K mg base Nx21 Qx21 7 WQ [1] F QL λ_ _ _ _ _ _ a j b=>by
  refine cZ ?_ ?_
  ·exact(bT QL.nd (bI (cT (bR e a (cX (vv 0) (bO (pv 1) (cX (b9 (bY (cO (c8 c5 (c8 c5 (c8 c5 (c8 c5 cY))))))) cS)))))))
  refine cZ ?_ ?_
  ·exact(bT QL.nd (bI (cT (bR e a (cX (vv 0) (bO (pv 1) (cX (b9 (bY (cO (c8 c5 (c8 (vv 3) (c8 (vv 3) (c8 (bR d a (cX (vv 0) (bO (pv 1) (cX (cT (bS ZR aK (vv 3) c5)) cS)))) cY))))))) cS)))))))
  refine cZ ?_ ?_
  ·exact(bT QL.nd (bI (cT (cQ (c8 (vv 4) (c8 (bR g a (cX (vv 0) (bO (pv 1) (cX (cT (bR d a (cX (vv 0) (bO (pv 1) (cX (cT (bS ZR aK (vv 2) c5)) cS))))) (cX (vv 3) cS))))) cY))))))
  refine cZ ?_ ?_
  ·exact(bJ (bZ HL s_gt (bR d a (cX (vv 0) (bO (pv 1) (cX c5 cS)))) c5)
   (cU (cL (vv 5)))
   cA)
  refine cZ ?_ ?_
  ·exact(bT QL.nd (bI (cT (bR h a (cX (vv 0) (bO (pv 1) (cX (vv 5) cS)))))))
  refine cZ ?_ ?_
  ·exact(bT QL.nd (bI (b9 (CS rfl rfl (by rfl) T.n_dict kZ (b9 (Y5 ["_law_number","_law_row_here"] [] 2 (KN rfl (by rfl) T.n_enumerate (vv 6)) (λc _ _ _ _=>⟨(SQ (K:=K) rfl rfl (aB (bU c) (aB (bU c) V1))),VY,(cT (cQ (c8 (vv 1) (c8 (vv 0) cY))))⟩)))))))
  exact cU (cL (cQ (c8 (vv 4) (c8 (MH T1 TU (by rfl) T.n_tuple Y2 (b9 (Y5 ["_law_block_here","_law_names_here","_law_row_here"] [5,7] 1 (V2 rfl (vv 6)) (λc _ _ _ _=>⟨(bU c),VY,(cT (bR i a (cX (cT (YA b (YA b (vv 0) c5) (vv 2))) (cX (vv 1) cS))))⟩)))) cY))))
abbrev Nx25:List Ue:=["_law_e","_law_own"]
abbrev Qx25:List Ue:=["_law_e"]
def zAW:cD Nx25 Qx25 (cV (top 79)):=Y7
def nZ(F:X1 K "_law_which" "_law_which" (top 79) f fd)(T:Txt K mg):FnH P w K mg base 1 f fd Qx25 (spV K [] 1 XV):=
 okWH P w K mg base Nx25 Qx25 0 PM [] F zAW λ_ _ _ _ _ c b a=>by
  refine cZ ?_ ?_
  ·exact(bT zAW.nd (VC (bY (cO (c8 (X8 SI (W1 T.xi) (by rfl) T.n_isinstance b6 (vv 0) (bN (by rfl) T.v_NoBlock)) (c8 (X8 SI (W1 T.xi) (by rfl) T.n_isinstance b6 (vv 0) (bN (by rfl) T.v_NoCells)) (c8 (X8 SI (W1 T.xi) (by rfl) T.n_isinstance b6 (vv 0) (bN (by rfl) T.v_NoRow)) (c8 (X8 SI (W1 T.xi) (by rfl) T.n_isinstance b6 (vv 0) (bN (by rfl) T.v_NoLanes)) cY))))))))
  refine cZ ?_ ?_
  ·exact(ZY Ef Eg (LK (K:=K) rfl) QD (pv 1) (cO (c8 (b9 (bY (cO (c8 (X8 SI (W1 T.xi) (by rfl) T.n_isinstance b6 (vv 0) (bN (by rfl) T.v_NoPlan)) (c8 (X8 SI (W1 T.xi) (by rfl) T.n_isinstance b6 (vv 0) (bN (by rfl) T.v_NoProgram)) (c8 (X8 SI (W1 T.xi) (by rfl) T.n_isinstance b6 (vv 0) (bN (by rfl) T.v_NoTree)) (c8 (X8 SI (W1 T.xi) (by rfl) T.n_isinstance b6 (vv 0) (bN (by rfl) T.v_NoLoop)) cY))))))) cY)))
  refine cZ ?_ ?_
  ·exact(ZY Ef Eg (LK (K:=K) rfl) QD (pv 1) (cO (c8 (b9 (bY (cO (c8 (X8 SI (W1 T.xi) (by rfl) T.n_isinstance b6 (vv 0) (bN (by rfl) T.v_NoText)) (c8 (X8 SI (W1 T.xi) (by rfl) T.n_isinstance b6 (vv 0) (bN (by rfl) T.v_NoName)) (c8 (X8 SI (W1 T.xi) (by rfl) T.n_isinstance b6 (vv 0) (bN (by rfl) T.v_TooMany)) (c8 (X8 SI (W1 T.xi) (by rfl) T.n_isinstance b6 (vv 0) (bN (by rfl) T.v_TooLong)) cY))))))) cY)))
  refine cZ ?_ ?_
  ·exact(ZY Ef Eg (LK (K:=K) rfl) QD (pv 1) (cO (c8 (b9 (bY (cO (c8 (X8 SI (W1 T.xi) (by rfl) T.n_isinstance b6 (vv 0) (bN (by rfl) T.v_NotValid)) (c8 (X8 SI (W1 T.xi) (by rfl) T.n_isinstance b6 (vv 0) (bN (by rfl) T.v_Nothing)) cY))))) cY)))
  refine cZ ?_ ?_
  ·exact (bJ (V3 (W4 (bZ (PC b) PJ (Xz rfl PySem.F.slot_list_count PySem.F.type_list_count dJ eQ (vo 1) Z0) c5) (YW (X7 (ZA (X8 SI (W1 T.xi) (by rfl) T.n_isinstance b6 (vv 0) (vty T.n_ValueError MO)))))))
   (cU (cL (cQ (c8 cN (c8 (UZ c5) cY)))))
   cA)
  exact cU (cL (cQ (c8 cN (c8 (Xz rfl Lq Lr oA oO (vo 1) Z0) cY))))
noncomputable abbrev Nx28:List Ue:=["_law_script","_law_town","_law_many","_law_deep","_law_seen","_law_room","_law_rows_here","_law_first","_law_c","_law_inner","_law_left","_law_one","_law_two","_law_row_here"]
abbrev AE:List Ue:=["_law_script","_law_town","_law_many","_law_deep","_law_seen","_law_room"]
def VW:cD Nx28 AE (cV (top 82)):=Y7
def Yx{R:bW}{b:Nat}(m:6<=b)(F:X1 K "_law_tree_rows" "_law_tree_rows" (top 82) f fd)(T:Txt K mg)(g:bQ P w K mg base "_law_draw" 3 MM [1] cC f_x15)(l:bQ P w K mg base "_law_pick" 4 PY [1] cF f_x16)(h:bQ P w K mg base "_law_row" 6 AD [1,3] YO f_x18)(e:bQ P w K mg base "_law_tree_rows" b AE [1,4] R f_x28):aI P w K mg base CX0 (b+1) f fd AE (spV K [1,4] 6 (Z9 14 [1,4] (ZQ R))):=
 RV P w K mg base Nx28 AE (b+0) (ZQ R) [1,4] F VW λ_ _ _ _ _ _ a d c=>by
  refine cZ ?_ ?_
  ·exact(OZ (i:=6) (j:=7) rfl VW.nd rfl rfl (by decide) rfl rfl (VC (bY (cO cY))) (bI (cT (XS T.n_len (Yr (pv 4) (j:=1) X4)))) rfl)
  refine cZ ?_ ?_
  ·exact(OF Cz (bZ HL s_gt (vv 2) c5)
   (cU (bJ (V3 (QO (bZ (PC d) PJ (Yr (pv 4) (j:=1) X4) (b9 (bY (cO cY)))) (QO (bZ HN s_lt (vv 3) c5) (QO (bZ HL s_gt (vv 2) c5) (O0 (V4 d (bR (hk:=by lia) g a (cX (vv 0) (bO (pv 1) (cX c5 cS)))) c5))))))
   (cZ (OZ (i:=8) (j:=9) rfl VW.nd rfl rfl (by decide) rfl rfl (bI (cT (bR (hk:=by lia) l a (cX (vv 0) (bO (pv 1) (oE (pv 4) (j:=1) X4 cS)))))) (bI (cT (bR (hk:=by lia) g a (cX (vv 0) (bO (pv 1) (cX (vv 2) cS)))))) rfl)
   (cZ (jG (k:=10) rfl VW.nd rfl rfl (pv 4) (j:=0) X4 (cO (c8 (bS ZR aK (Vl (pv 4) (j:=0) X4) c5) (c8 (ZO J4 F5 (vv 9) c5) cY))))
   (cZ (bT VW.nd (bI (cT (bR (hk:=by lia) e a (cX (vv 0) (bO (pv 1) (cX (cT (ZO WY UW (vv 9) (vv 10))) (cX (cT (bS ZR aK (vv 3) c5)) (bO (pv 4) (cX (vv 5) cS))))))))))
   (cZ (bT VW.nd (bI (cT (bR (hk:=by lia) e a (cX (vv 0) (bO (pv 1) (cX (vv 10) (cX (cT (bS ZR aK (vv 3) c5)) (bO (pv 4) (cX (vv 5) cS))))))))))
   (cZ (ZY Bi Bj aR X3 (pv 6) (cO (c8 (cQ (c8 cN (c8 (vv 8) (c8 (vv 11) (c8 (vv 12) cY))))) cY)))
   (cU (bT VW.nd (bI (cT (ZO WY UW (ZO WY UW (vv 2) c5) (vv 9)))))))))))
   (cZ (bT VW.nd (bI (cT (nN (K:=K) (i:=3) (mF:=[1]) rfl h (by decide) a (by lia) (by rfl) (EV (vv 0) (Wj (pv 1) (gM (pv 4) (j:=1) X4 (Zs (pv 5)))))))))
   (cZ (bJ (bZ (Q4 d) (YR (neg:=ba)) (YA c (vv 13) c5) (cQ (c8 cN (c8 cN cY))) (by with_unfolding_all rfl))
   (cU (lE (pv 4) (j:=1) X4 (cO (c8 (Vl (pv 4) (j:=0) X4) cY))))
   cA)
   (cZ (qf (pv 4) (j:=0) X4 (cT (bS ZR aK (Vl (pv 4) (j:=0) X4) c5)))
   (cZ (ZY Bi Bj aR X3 (pv 6) (cO (c8 (vv 13) cY)))
   (cU (bT VW.nd (bI (cT (ZO WY UW (vv 2) c5))))))))))))
  refine cZ ?_ ?_
  ·exact(bJ (bZ HL s_gt (vv 3) c5)
   (cU (mP (pv 4) (j:=1) X4 (vv 7) (bY (cO cY))))
   cA)
  exact cU (cL (MH T1 TU (by rfl) T.n_tuple Y2 (vo 6)))
noncomputable abbrev Nx29:List Ue:=["_law_script","_law_town","_law_most","_law_room","_law_rows_here"]
abbrev Qx29:List Ue:=["_law_script","_law_town","_law_most"]
def F8:cD Nx29 Qx29 (cV (top 83)):=Y7
def pH(F:X1 K "_law_tree" "_law_tree" (top 83) f fd)(T:Txt K mg)(b:bQ P w K mg base "_law_draw" 3 MM [1] cC f_x15)(c:bQ P w K mg base "_law_pick" 4 PY [1] cF f_x16)(e:bQ P w K mg base "_law_tree_rows" 14 AE [1,4] (bB 8) f_x28):aI P w K mg base CX0 15 f fd Qx29 (spV K [1] 3 ZI):=
 RV P w K mg base Nx29 Qx29 14 SF [1] F F8 λ_ _ _ _ _ _ a g d=>by
  refine cZ ?_ ?_
  ·exact(bT F8.nd (bI (cT (bR c a (cX (vv 0) (bO (pv 1) (cX (b9 (bY (cO (c8 c5 (c8 c5 (c8 c5 cY)))))) cS)))))))
  refine cZ ?_ ?_
  ·exact(bT F8.nd (bI (cT (mS (i:=4) (mF:=[1]) e a (EV (vv 0) (Wj (pv 1) (EV (cT (bR b a (cX (vv 0) (bO (pv 1) (cX (cT (bS ZR aK (vv 2) c5)) cS))))) (EV c5 (fY (n:=0) X4 (pv 3))))))))))
  exact cU (cL (cQ (c8 (bR c a (cX (vv 0) (bO (pv 1) (cX (b9 (bY (cO (c8 c5 (c8 (vv 3) (c8 (bR b a (cX (vv 0) (bO (pv 1) (cX (cT (bS ZR aK (vv 3) c5)) cS)))) cY)))))) cS)))) (c8 (vv 4) cY))))
noncomputable abbrev Nx30:List Ue:=["_law_what","_law_thing","_law_cells","_law_e"]
abbrev Qx30:List Ue:=["_law_what","_law_thing","_law_cells"]
def zAU:cD Nx30 Qx30 (cV (top 84)):=Y7
def fE(F:X1 K "_law_ask" "_law_ask" (top 84) f fd)(T:Txt K mg)(d:DefH P w K mg base "_law_which" 1 Qx25 (spV K [] 1 XV) f_x25)(e:DefX P w K mg base "run_tree" 22 Qx11 X2 f_x11)(g:DefX P w K mg base "flattened" 22 Qx12 WP f_x12):aI P w K mg base CX0 23 f fd Qx30 (spV K [] 3 bD):=
 RV P w K mg base Nx30 Qx30 22 P6 [] F zAU λ_ _ _ _ _ _ a b c=>by
  exact(cU (kI (i:=3) rfl rfl rfl zAU.nd rfl rfl (by decide) (by rfl) (λ_=>T.fnm _ _)
   (cU (cL (MI (V4 b (vv 0) c5) IZ IZ)))
   (λ_ _ _ hz=>(W5 (oB (dL (V4 b (vv 0) c5) (EX hz rfl g a (by decide) (by rfl) rfl (cX (vv 1) cS)) (EX hz rfl e a (by decide) (by rfl) rfl (cX (vv 1) (cX (vv 2) cS)))))))
   λ_=>(cU (cL (pG d (a.h.mark _) (cX (vv 3) cS))))))
abbrev Nx31:List Ue:=["_law_load","_law_some"]
abbrev Qx31:List Ue:=["_law_load"]
def zAT:cD Nx31 Qx31 (cV (top 85)):=Y7
def oH(F:X1 K "_law_bad_trees" "_law_bad_trees" (top 85) f fd)(T:Txt K mg):aI P w K mg base CX0 1 f fd Qx31 (spV K [] 1 aJ):=
 RV P w K mg base Nx31 Qx31 0 U7 [] F zAT λ_ _ _ _ _ _ c b a=>by
  refine cZ ?_ ?_
  ·exact(@bT _ _ _ _ _ _ _ _ _ zAT.nd (@VC _ _ _ _ _ _ (@bY _ _ _ _ _ _ _ (@cO _ _ _ _ _ _ _ (@c8 _ _ _ _ _ _ _ _ _ _ _ _ (@cQ _ _ _ _ _ _ _ _ _ (@c8 _ _ _ _ _ _ _ _ _ _ _ _ (@vv _ _ _ _ _ 0 rfl (by first|exact Cf rfl|exact Bk (Cf rfl)|exact Bk (Bk rfl)) (by decide) (by decide)) (@c8 _ _ _ _ _ _ _ _ _ _ _ _ (@cQ _ _ _ _ _ _ _ _ _ (@c8 _ _ _ _ _ _ _ _ _ _ _ _ cN (@c8 _ _ _ _ _ _ _ _ _ _ _ _ c5 (@c8 _ _ _ _ _ _ _ _ _ _ _ _ (@cQ _ _ _ _ _ _ _ _ _ (@c8 _ _ _ _ _ _ _ _ _ _ _ _ (@vv _ _ _ _ _ 0 rfl (by first|exact Cf rfl|exact Bk (Cf rfl)|exact Bk (Bk rfl)) (by decide) (by decide)) cY rfl rfl rfl)) (@c8 _ _ _ _ _ _ _ _ _ _ _ _ (@cQ _ _ _ _ _ _ _ _ _ cY) cY rfl rfl rfl) rfl rfl rfl) rfl rfl rfl) rfl rfl rfl)) (@c8 _ _ _ _ _ _ _ _ _ _ _ _ (@cQ _ _ _ _ _ _ _ _ _ (@c8 _ _ _ _ _ _ _ _ _ _ _ _ cN (@c8 _ _ _ _ _ _ _ _ _ _ _ _ c5 (@c8 _ _ _ _ _ _ _ _ _ _ _ _ c5 cY rfl rfl rfl) rfl rfl rfl) rfl rfl rfl)) cY rfl rfl rfl) rfl rfl rfl) rfl rfl rfl)) (@c8 _ _ _ _ _ _ _ _ _ _ _ _ (@cQ _ _ _ _ _ _ _ _ _ (@c8 _ _ _ _ _ _ _ _ _ _ _ _ (@vv _ _ _ _ _ 0 rfl (by first|exact Cf rfl|exact Bk (Cf rfl)|exact Bk (Bk rfl)) (by decide) (by decide)) (@c8 _ _ _ _ _ _ _ _ _ _ _ _ (@cQ _ _ _ _ _ _ _ _ _ (@c8 _ _ _ _ _ _ _ _ _ _ _ _ cN (@c8 _ _ _ _ _ _ _ _ _ _ _ _ c5 (@c8 _ _ _ _ _ _ _ _ _ _ _ _ (@cQ _ _ _ _ _ _ _ _ _ (@c8 _ _ _ _ _ _ _ _ _ _ _ _ (@vv _ _ _ _ _ 0 rfl (by first|exact Cf rfl|exact Bk (Cf rfl)|exact Bk (Bk rfl)) (by decide) (by decide)) cY rfl rfl rfl)) (@c8 _ _ _ _ _ _ _ _ _ _ _ _ (@XR _ _ _ 2 _ _ rfl) cY rfl rfl rfl) rfl rfl rfl) rfl rfl rfl) rfl rfl rfl)) cY rfl rfl rfl) rfl rfl rfl)) cY rfl rfl rfl) rfl rfl rfl) rfl))) rfl (by first|exact .inl rfl|exact .inr rfl) (by decide) rfl (by first|exact .inl rfl|exact .inr rfl|assumption))
  refine cZ ?_ ?_
  ·exact(@ZY _ _ _ _ _ _ _ _ _ _ _ _ _ _ _ _ _ Ef Eg (LK (K:=K) rfl) QD (pv 1) (@cO _ _ _ _ _ _ _ (@c8 _ _ _ _ _ _ _ _ _ _ _ _ (@b9 _ _ _ _ _ _ (@bY _ _ _ _ _ _ _ (@cO _ _ _ _ _ _ _ (@c8 _ _ _ _ _ _ _ _ _ _ _ _ (@XR _ _ _ 3 _ _ rfl) (@c8 _ _ _ _ _ _ _ _ _ _ _ _ (@cQ _ _ _ _ _ _ _ _ _ (@c8 _ _ _ _ _ _ _ _ _ _ _ _ (@vv _ _ _ _ _ 0 rfl (by first|exact Cf rfl|exact Bk (Cf rfl)|exact Bk (Bk rfl)) (by decide) (by decide)) (@c8 _ _ _ _ _ _ _ _ _ _ _ _ (@XR _ _ _ 2 _ _ rfl) cY rfl rfl rfl) rfl rfl rfl)) (@c8 _ _ _ _ _ _ _ _ _ _ _ _ (@cQ _ _ _ _ _ _ _ _ _ (@c8 _ _ _ _ _ _ _ _ _ _ _ _ (@vv _ _ _ _ _ 0 rfl (by first|exact Cf rfl|exact Bk (Cf rfl)|exact Bk (Bk rfl)) (by decide) (by decide)) (@c8 _ _ _ _ _ _ _ _ _ _ _ _ (@XR _ _ _ 2 _ _ rfl) cY rfl rfl rfl) rfl rfl rfl)) (@c8 _ _ _ _ _ _ _ _ _ _ _ _ (@cQ _ _ _ _ _ _ _ _ _ (@c8 _ _ _ _ _ _ _ _ _ _ _ _ (@vv _ _ _ _ _ 0 rfl (by first|exact Cf rfl|exact Bk (Cf rfl)|exact Bk (Bk rfl)) (by decide) (by decide)) (@c8 _ _ _ _ _ _ _ _ _ _ _ _ (@XR _ _ _ 2 _ _ rfl) cY rfl rfl rfl) rfl rfl rfl)) cY rfl rfl rfl) rfl rfl rfl) rfl rfl rfl) rfl rfl rfl) rfl))) cY rfl rfl rfl) rfl) rfl rfl rfl rfl rfl rfl rfl)
  refine cZ ?_ ?_
  ·exact(@ZY _ _ _ _ _ _ _ _ _ _ _ _ _ _ _ _ _ Ef Eg (LK (K:=K) rfl) QD (pv 1) (@cO _ _ _ _ _ _ _ (@c8 _ _ _ _ _ _ _ _ _ _ _ _ (@b9 _ _ _ _ _ _ (@bY _ _ _ _ _ _ _ (@cO _ _ _ _ _ _ _ (@c8 _ _ _ _ _ _ _ _ _ _ _ _ (@cQ _ _ _ _ _ _ _ _ _ (@c8 _ _ _ _ _ _ _ _ _ _ _ _ (@vv _ _ _ _ _ 0 rfl (by first|exact Cf rfl|exact Bk (Cf rfl)|exact Bk (Bk rfl)) (by decide) (by decide)) (@c8 _ _ _ _ _ _ _ _ _ _ _ _ (@XR _ _ _ 2 _ _ rfl) cY rfl rfl rfl) rfl rfl rfl)) (@c8 _ _ _ _ _ _ _ _ _ _ _ _ (@bS _ _ _ _ _ _ _ _ _ _ _ _ _ _ _ _ _ NN UF (@cQ _ _ _ _ _ _ _ _ _ (@c8 _ _ _ _ _ _ _ _ _ _ _ _ (@vv _ _ _ _ _ 0 rfl (by first|exact Cf rfl|exact Bk (Cf rfl)|exact Bk (Bk rfl)) (by decide) (by decide)) cY rfl rfl rfl)) c5 rfl) (@c8 _ _ _ _ _ _ _ _ _ _ _ _ (@cQ _ _ _ _ _ _ _ _ _ (@c8 _ _ _ _ _ _ _ _ _ _ _ _ (@vv _ _ _ _ _ 0 rfl (by first|exact Cf rfl|exact Bk (Cf rfl)|exact Bk (Bk rfl)) (by decide) (by decide)) (@c8 _ _ _ _ _ _ _ _ _ _ _ _ (@cQ _ _ _ _ _ _ _ _ _ (@c8 _ _ _ _ _ _ _ _ _ _ _ _ cN (@c8 _ _ _ _ _ _ _ _ _ _ _ _ c5 (@c8 _ _ _ _ _ _ _ _ _ _ _ _ (@bS _ _ _ _ _ _ _ _ _ _ _ _ _ _ _ _ _ NN UF (@cQ _ _ _ _ _ _ _ _ _ (@c8 _ _ _ _ _ _ _ _ _ _ _ _ (@vv _ _ _ _ _ 0 rfl (by first|exact Cf rfl|exact Bk (Cf rfl)|exact Bk (Bk rfl)) (by decide) (by decide)) cY rfl rfl rfl)) c5 rfl) (@c8 _ _ _ _ _ _ _ _ _ _ _ _ (@bS _ _ _ _ _ _ _ _ _ _ _ _ _ _ _ _ _ NN UF (@cQ _ _ _ _ _ _ _ _ _ (@c8 _ _ _ _ _ _ _ _ _ _ _ _ (@vv _ _ _ _ _ 0 rfl (by first|exact Cf rfl|exact Bk (Cf rfl)|exact Bk (Bk rfl)) (by decide) (by decide)) cY rfl rfl rfl)) c5 rfl) cY rfl rfl rfl) rfl rfl rfl) rfl rfl rfl) rfl rfl rfl)) cY rfl rfl rfl) rfl rfl rfl)) cY rfl rfl rfl) rfl rfl rfl) rfl rfl rfl) rfl))) cY rfl rfl rfl) rfl) rfl rfl rfl rfl rfl rfl rfl)
  refine cZ ?_ ?_
  ·exact(@ZY _ _ _ _ _ _ _ _ _ _ _ _ _ _ _ _ _ Ef Eg (LK (K:=K) rfl) QD (pv 1) (@cO _ _ _ _ _ _ _ (@c8 _ _ _ _ _ _ _ _ _ _ _ _ (@b9 _ _ _ _ _ _ (@bY _ _ _ _ _ _ _ (@cO _ _ _ _ _ _ _ (@c8 _ _ _ _ _ _ _ _ _ _ _ _ (@cQ _ _ _ _ _ _ _ _ _ (@c8 _ _ _ _ _ _ _ _ _ _ _ _ (@vv _ _ _ _ _ 0 rfl (by first|exact Cf rfl|exact Bk (Cf rfl)|exact Bk (Bk rfl)) (by decide) (by decide)) (@c8 _ _ _ _ _ _ _ _ _ _ _ _ (@cQ _ _ _ _ _ _ _ _ _ (@c8 _ _ _ _ _ _ _ _ _ _ _ _ cN (@c8 _ _ _ _ _ _ _ _ _ _ _ _ c5 (@c8 _ _ _ _ _ _ _ _ _ _ _ _ (@cQ _ _ _ _ _ _ _ _ _ (@c8 _ _ _ _ _ _ _ _ _ _ _ _ (@vv _ _ _ _ _ 0 rfl (by first|exact Cf rfl|exact Bk (Cf rfl)|exact Bk (Bk rfl)) (by decide) (by decide)) cY rfl rfl rfl)) (@c8 _ _ _ _ _ _ _ _ _ _ _ _ (@cQ _ _ _ _ _ _ _ _ _ cY) cY rfl rfl rfl) rfl rfl rfl) rfl rfl rfl) rfl rfl rfl)) (@c8 _ _ _ _ _ _ _ _ _ _ _ _ (@XR _ _ _ 2 _ _ rfl) cY rfl rfl rfl) rfl rfl rfl) rfl rfl rfl)) (@c8 _ _ _ _ _ _ _ _ _ _ _ _ (@cQ _ _ _ _ _ _ _ _ _ (@c8 _ _ _ _ _ _ _ _ _ _ _ _ (@vv _ _ _ _ _ 0 rfl (by first|exact Cf rfl|exact Bk (Cf rfl)|exact Bk (Bk rfl)) (by decide) (by decide)) (@c8 _ _ _ _ _ _ _ _ _ _ _ _ (@cQ _ _ _ _ _ _ _ _ _ (@c8 _ _ _ _ _ _ _ _ _ _ _ _ cN (@c8 _ _ _ _ _ _ _ _ _ _ _ _ c5 (@c8 _ _ _ _ _ _ _ _ _ _ _ _ c5 cY rfl rfl rfl) rfl rfl rfl) rfl rfl rfl)) (@c8 _ _ _ _ _ _ _ _ _ _ _ _ (@XR _ _ _ 2 _ _ rfl) cY rfl rfl rfl) rfl rfl rfl) rfl rfl rfl)) cY rfl rfl rfl) rfl rfl rfl) rfl))) cY rfl rfl rfl) rfl) rfl rfl rfl rfl rfl rfl rfl)
  exact cU (@cL _ _ _ _ _ _ _ _ _ (@bS _ _ _ _ _ _ _ _ _ _ _ _ _ _ _ _ _ ZR aK (@vo _ _ _ _ _ 1 rfl (by first|exact Cf rfl|exact Bk (Cf rfl)|exact Bk (Bk rfl)) (by decide) (by decide)) (@b9 _ _ _ _ _ _ (@bY _ _ _ _ _ _ _ (@cO _ _ _ _ _ _ _ (@c8 _ _ _ _ _ _ _ _ _ _ _ _ (@cQ _ _ _ _ _ _ _ _ _ (@c8 _ _ _ _ _ _ _ _ _ _ _ _ (@vv _ _ _ _ _ 0 rfl (by first|exact Cf rfl|exact Bk (Cf rfl)|exact Bk (Bk rfl)) (by decide) (by decide)) (@c8 _ _ _ _ _ _ _ _ _ _ _ _ (@XR _ _ _ 2 _ _ rfl) (@c8 _ _ _ _ _ _ _ _ _ _ _ _ (@cQ _ _ _ _ _ _ _ _ _ (@c8 _ _ _ _ _ _ _ _ _ _ _ _ cN (@c8 _ _ _ _ _ _ _ _ _ _ _ _ c5 (@c8 _ _ _ _ _ _ _ _ _ _ _ _ c5 cY rfl rfl rfl) rfl rfl rfl) rfl rfl rfl)) cY rfl rfl rfl) rfl rfl rfl) rfl rfl rfl)) (@c8 _ _ _ _ _ _ _ _ _ _ _ _ (@b9 _ _ _ _ _ _ (@bY _ _ _ _ _ _ _ (@cO _ _ _ _ _ _ _ (@c8 _ _ _ _ _ _ _ _ _ _ _ _ (@vv _ _ _ _ _ 0 rfl (by first|exact Cf rfl|exact Bk (Cf rfl)|exact Bk (Bk rfl)) (by decide) (by decide)) cY rfl rfl rfl) rfl))) (@c8 _ _ _ _ _ _ _ _ _ _ _ _ (@cQ _ _ _ _ _ _ _ _ _ (@c8 _ _ _ _ _ _ _ _ _ _ _ _ (@vv _ _ _ _ _ 0 rfl (by first|exact Cf rfl|exact Bk (Cf rfl)|exact Bk (Bk rfl)) (by decide) (by decide)) (@c8 _ _ _ _ _ _ _ _ _ _ _ _ c5 cY rfl rfl rfl) rfl rfl rfl)) (@c8 _ _ _ _ _ _ _ _ _ _ _ _ YV (@c8 _ _ _ _ _ _ _ _ _ _ _ _ (@cQ _ _ _ _ _ _ _ _ _ (@c8 _ _ _ _ _ _ _ _ _ _ _ _ (@vv _ _ _ _ _ 0 rfl (by first|exact Cf rfl|exact Bk (Cf rfl)|exact Bk (Bk rfl)) (by decide) (by decide)) (@c8 _ _ _ _ _ _ _ _ _ _ _ _ (@XR _ _ _ 2 _ _ rfl) cY rfl rfl rfl) rfl rfl rfl)) cY rfl rfl rfl) rfl rfl rfl) rfl rfl rfl) rfl rfl rfl) rfl rfl rfl) rfl))) rfl) rfl)
noncomputable abbrev Nx32:List Ue:=["_law_script","_law_town","_law_tree_here","_law_block_here","_law_load","_law_deep","_law_again","_law_last","_law_bad","_law_odd","_law_cells","_law_inner","_law_good"]
abbrev Qx32:List Ue:=["_law_script"]
def YU:cD Nx32 Qx32 (cV (top 86)):=Y7
def mL(F:X1 K "law" "law" (top 86) f fd)(T:Txt K mg)(b:bQ P w K mg base "is_tree" 21 E1 [] cI f_x10)(g:bQ P w K mg base "_law_pick" 4 PY [1] cF f_x16)(h:bQ P w K mg base "_law_block" 8 Qx21 [1] Z4 f_x21)(k:bQ P w K mg base "_law_tree" 15 Qx29 [1] ZI f_x29)(e:bQ P w K mg base "_law_ask" 23 Qx30 [] bD f_x30)(l:bQ P w K mg base "_law_bad_trees" 1 Qx31 [] aJ f_x31):aI P w K mg base CX0 24 f fd Qx32 (spV K [] 1 KP):=
 RV P w K mg base Nx32 Qx32 23 Vb [] F YU λ_ _ _ _ _ _ a c m=>by
  refine cZ ?_ ?_
  ·exact(bT YU.nd (VC (bY (cO cY))))
  refine cZ ?_ ?_
  ·exact(OZ (i:=2) (j:=3) rfl YU.nd rfl rfl (by decide) rfl rfl (bI (cT (bR k a (cX (vv 0) (bO (pv 1) (cX c5 cS)))))) (bI (cT (bR h a (cX (vv 0) (bO (pv 1) (cX c5 cS)))))) rfl)
  refine cZ ?_ ?_
  ·exact(bJ (V3 (W4 (bZ WR UV (bR b a (cX (vv 2) cS)) Z0) (YW (bZ WR UV (bR b a (cX (vv 3) cS)) Z0))))
   (cU (cL Z0))
   cA)
  refine cZ ?_ ?_
  ·exact(@Wo _ _ _ _ _ _ _ _ _ (@cT _ _ _ _ _ _ _ _ (@XR _ _ _ 2 _ _ rfl) rfl) (@SQ _ _ _ _ _ _ _ _ rfl rfl (@aB _ _ _ _ _ _ _ (@bU _ _ _ _ _ _ YU.nd rfl (by first|exact .inl rfl|exact .inr rfl) (by decide) (by first|exact .inl rfl|exact .inr rfl|assumption)) (@aB _ _ _ _ _ _ _ (@bU _ _ _ _ _ _ YU.nd rfl (by first|exact .inl rfl|exact .inr rfl) (by decide) (by first|exact .inl rfl|exact .inr rfl|assumption)) V1 rfl) rfl) rfl rfl) rfl rfl rfl)
  refine cZ ?_ ?_
  ·exact (WN Cz rfl (X6 (by rfl) T.n_range c5) (bU YU.nd)
   (cU (bT YU.nd (bI (cT (cQ (c8 (cQ (c8 cN (c8 c5 (c8 (vv 5) (c8 (cQ (c8 (vv 4) cY)) cY))))) cY)))))))
  refine cZ ?_ ?_
  ·exact(bJ (V3 (W4 (bZ WR UV (bR b a (cX (cT (cQ (c8 c5 (c8 (bS ZR aK (cQ (c8 (vv 4) cY)) (vv 5)) cY)))) cS)) Z0) (YW (bZ WR UV (bR b a (cX (cT (cQ (c8 c5 (c8 (cQ (c8 (vv 4) (c8 (cQ (c8 cN (c8 c5 (c8 (vv 5) (c8 (cQ cY) cY))))) cY))) cY)))) cS)) Z0))))
   (cU (cL Z0))
   cA)
  refine cZ ?_ ?_
  ·exact(bT YU.nd (bI (cT (cQ cY))))
  refine cZ ?_ ?_
  ·exact (WN Cz rfl (X6 (by rfl) T.n_range c5) (bU YU.nd)
   (cU (bT YU.nd (bI (cT (cQ (c8 (cQ (c8 cN (c8 c5 (c8 (cQ (c8 (vv 4) cY)) (c8 (vv 7) cY))))) cY)))))))
  refine cZ ?_ ?_
  ·exact(bJ (V3 (W4 (bZ WR UV (bR b a (cX (cT (cQ (c8 c5 (c8 (bS ZR aK (cQ (c8 (vv 4) cY)) (vv 7)) cY)))) cS)) Z0) (YW (bZ WR UV (bR b a (cX (cT (cQ (c8 c5 (c8 (cQ (c8 (vv 4) (c8 (cQ (c8 cN (c8 c5 (c8 (cQ cY) (c8 (vv 7) cY))))) cY))) cY)))) cS)) Z0))))
   (cU (cL Z0))
   cA)
  refine cZ ?_ ?_
  ·exact(bT YU.nd (bI (cT (bR g a (cX (vv 0) (bO (pv 1) (cX (cT (bR l a (cX (vv 4) cS))) cS)))))))
  refine cZ ?_ ?_
  ·exact(@bJ _ _ _ _ _ _ _ _ _ _ _ (@V3 _ _ _ _ _ _ (@W4 _ _ _ _ _ _ _ _ _ _ _ (@bZ _ _ _ _ _ _ _ _ _ _ _ _ _ _ _ _ _ WR UV (@bR _ _ _ _ _ _ _ _ _ _ _ _ _ _ _ _ _ b a (@cX _ _ _ _ _ _ _ _ _ (@cT _ _ _ _ _ _ _ _ (@cQ _ _ _ _ _ _ _ _ _ (@c8 _ _ _ _ _ _ _ _ _ _ _ _ c5 (@c8 _ _ _ _ _ _ _ _ _ _ _ _ (@vv _ _ _ _ _ 8 rfl (by first|exact Cf rfl|exact Bk (Cf rfl)|exact Bk (Bk rfl)) (by decide) (by decide)) cY rfl rfl rfl) rfl rfl rfl)) rfl) cS rfl) rfl (by decide) rfl (by decide) rfl rfl) Z0 (UO _) rfl) (@YW _ _ _ _ _ _ _ (@bZ _ _ _ _ _ _ _ _ _ _ _ _ _ _ _ _ _ (PC c) PJ (@b9 _ _ _ _ _ _ (Y5 ["_law_bad","_law_what"] [8] 1 (@X6 _ _ _ _ _ _ _ _ _ _ _ (by rfl) T.n_range c5 rfl rfl) (λd _ _ _ _=>⟨(@bU _ _ _ _ _ _ d rfl (by first|exact .inl rfl|exact .inr rfl) (by decide) (by first|exact .inl rfl|exact .inr rfl|assumption)),VY,(@cT _ _ _ _ _ _ _ _ (@bR _ _ _ _ _ _ _ _ _ _ _ _ _ _ _ _ _ e a (@cX _ _ _ _ _ _ _ _ _ (@vv _ _ _ _ _ 1 rfl (by first|exact Cf rfl|exact Bk (Cf rfl)|exact Bk (Bk rfl)) (by decide) (by decide)) (@cX _ _ _ _ _ _ _ _ _ (@cT _ _ _ _ _ _ _ _ (@cQ _ _ _ _ _ _ _ _ _ (@c8 _ _ _ _ _ _ _ _ _ _ _ _ c5 (@c8 _ _ _ _ _ _ _ _ _ _ _ _ (@vv _ _ _ _ _ 0 rfl (by first|exact Cf rfl|exact Bk (Cf rfl)|exact Bk (Bk rfl)) (by decide) (by decide)) cY rfl rfl rfl) rfl rfl rfl)) rfl) (@cX _ _ _ _ _ _ _ _ _ YV cS rfl) rfl) rfl) rfl (by decide) rfl (by decide) rfl rfl) rfl)⟩))) (@bS _ _ _ _ _ _ _ _ _ _ _ _ _ _ _ _ _ NN UF (@b9 _ _ _ _ _ _ (@GH _ _ _ 1 _ _ _ rfl (by decide))) c5 rfl) (UO _) rfl)))) (@cU _ _ _ _ _ (@cL _ _ _ _ _ _ _ _ _ Z0 rfl)) cA)
  refine cZ ?_ ?_
  ·exact(@bT _ _ _ _ _ _ _ _ _ YU.nd (@bI _ _ _ _ _ _ (@cT _ _ _ _ _ _ _ _ (@bR _ _ _ _ _ _ _ _ _ _ _ _ _ _ _ _ _ g a (@cX _ _ _ _ _ _ _ _ _ (@vv _ _ _ _ _ 0 rfl (by first|exact Cf rfl|exact Bk (Cf rfl)|exact Bk (Bk rfl)) (by decide) (by decide)) (@bO _ _ _ _ _ _ _ _ (pv 1) (@cX _ _ _ _ _ _ _ _ _ (@b9 _ _ _ _ _ _ (@GH _ _ _ 2 _ _ _ rfl (by decide))) cS rfl) rfl) rfl) rfl (by decide) rfl (by decide) rfl rfl) rfl)) rfl (by first|exact .inl rfl|exact .inr rfl) (by decide) rfl (by first|exact .inl rfl|exact .inr rfl|assumption))
  refine cZ ?_ ?_
  ·exact(@bJ _ _ _ _ _ _ _ _ _ _ _ (@V3 _ _ _ _ _ _ (@W4 _ _ _ _ _ _ _ _ _ _ _ (@bZ _ _ _ _ _ _ _ _ _ _ _ _ _ _ _ _ _ WR UV (@bR _ _ _ _ _ _ _ _ _ _ _ _ _ _ _ _ _ b a (@cX _ _ _ _ _ _ _ _ _ (@vv _ _ _ _ _ 9 rfl (by first|exact Cf rfl|exact Bk (Cf rfl)|exact Bk (Bk rfl)) (by decide) (by decide)) cS rfl) rfl (by decide) rfl (by decide) rfl rfl) Z0 (UO _) rfl) (@YW _ _ _ _ _ _ _ (@bZ _ _ _ _ _ _ _ _ _ _ _ _ _ _ _ _ _ (PC c) PJ (@b9 _ _ _ _ _ _ (Y5 ["_law_odd","_law_what"] [9] 1 (@X6 _ _ _ _ _ _ _ _ _ _ _ (by rfl) T.n_range c5 rfl rfl) (λd _ _ _ _=>⟨(@bU _ _ _ _ _ _ d rfl (by first|exact .inl rfl|exact .inr rfl) (by decide) (by first|exact .inl rfl|exact .inr rfl|assumption)),VY,(@cT _ _ _ _ _ _ _ _ (@bR _ _ _ _ _ _ _ _ _ _ _ _ _ _ _ _ _ e a (@cX _ _ _ _ _ _ _ _ _ (@vv _ _ _ _ _ 1 rfl (by first|exact Cf rfl|exact Bk (Cf rfl)|exact Bk (Bk rfl)) (by decide) (by decide)) (@cX _ _ _ _ _ _ _ _ _ (@vv _ _ _ _ _ 0 rfl (by first|exact Cf rfl|exact Bk (Cf rfl)|exact Bk (Bk rfl)) (by decide) (by decide)) (@cX _ _ _ _ _ _ _ _ _ YV cS rfl) rfl) rfl) rfl (by decide) rfl (by decide) rfl rfl) rfl)⟩))) (@bS _ _ _ _ _ _ _ _ _ _ _ _ _ _ _ _ _ NN UF (@b9 _ _ _ _ _ _ (@GH _ _ _ 1 _ _ _ rfl (by decide))) c5 rfl) (UO _) rfl)))) (@cU _ _ _ _ _ (@cL _ _ _ _ _ _ _ _ _ Z0 rfl)) cA)
  refine cZ ?_ ?_
  ·exact(WN Cz rfl (V2 rfl (b9 (bY (cO (c8 YV (c8 (cQ (c8 c5 cY)) (c8 (bS NN UF (b9 (bY (cO (c8 c5 cY)))) c5) (c8 (bS NN UF (b9 (bY (cO (c8 c5 cY)))) c5) (c8 (bS NN UF (b9 (bY (cO (c8 cN cY)))) c5) cY))))))))) (bU YU.nd)
   (cU (bJ (bZ (PC c) PJ (bR e a (cX c5 (cX (vv 2) (cX (vv 10) cS)))) (cQ (c8 cN (c8 c5 cY))))
   (cU (cL Z0))
   cA)))
  refine cZ ?_ ?_
  ·exact(@bT _ _ _ _ _ _ _ _ _ YU.nd (@bI _ _ _ _ _ _ (@cT _ _ _ _ _ _ _ _ (@cQ _ _ _ _ _ _ _ _ _ (@c8 _ _ _ _ _ _ _ _ _ _ _ _ (@vv _ _ _ _ _ 4 rfl (by first|exact Cf rfl|exact Bk (Cf rfl)|exact Bk (Bk rfl)) (by decide) (by decide)) (@c8 _ _ _ _ _ _ _ _ _ _ _ _ (@cQ _ _ _ _ _ _ _ _ _ (@c8 _ _ _ _ _ _ _ _ _ _ _ _ cN (@c8 _ _ _ _ _ _ _ _ _ _ _ _ c5 (@c8 _ _ _ _ _ _ _ _ _ _ _ _ c5 cY rfl rfl rfl) rfl rfl rfl) rfl rfl rfl)) (@c8 _ _ _ _ _ _ _ _ _ _ _ _ (@XR _ _ _ 3 _ _ rfl) cY rfl rfl rfl) rfl rfl rfl) rfl rfl rfl)) rfl)) rfl (by first|exact .inl rfl|exact .inr rfl) (by decide) rfl (by first|exact .inl rfl|exact .inr rfl|assumption))
  refine cZ ?_ ?_
  ·exact(bT YU.nd (bI (cT (cQ (c8 (vv 4) (c8 (cQ (c8 cN (c8 c5 (c8 (cQ (c8 (vv 4) (c8 (cQ (c8 cN (c8 c5 (c8 c5 cY)))) cY))) (c8 (vv 11) cY))))) (c8 (cQ (c8 cN (c8 c5 (c8 c5 cY)))) cY)))))))
  exact cU (cL (W3 (X5 Xc Wv (bR b a (cX (cT (cQ (c8 c5 (c8 (vv 12) cY)))) cS)) Z0) (V0 (X5 Xc Wv (bR b a (cX (cT (cQ (c8 c5 (c8 (cQ (c8 (vv 4) (c8 (cQ (c8 cN (c8 c5 (c8 (bS NN UF (cQ (c8 (vv 4) cY)) c5) (c8 (bS NN UF (cQ (c8 (vv 4) cY)) c5) cY))))) cY))) cY)))) cS)) Z0))))
end
end RR
namespace L2
open PySem
def VN(a b:String):Be a=Be b↔a=b:=by
 refine⟨λh=>?_,λh=>by rw[h]⟩;rw[Hw,Hw]at h;injection h with h;have h2:a.toList.map Px=b.toList.map Px:=by simpa using h
 have f:a.toList=b.toList:=by
  have inj:∀(l m:List Char),l.map Px=m.map Px->l=m:=by
   intro l;induction l with
   |nil=>intro m h;cases m with
    |nil=>rfl
    |cons=>cases h
   | cons c l d => intro m h;cases m with
    |nil=>cases h
    |cons e m=>
     simp only[Ba,Ka]at h;rw[d m h.2,Char.toNat_inj.mp h.1]
  exact inj _ _ h2
 exact String.toList_inj.mp f
def CH(a:String):Tp (Be a)=ba:=by
 unfold Tp;rw[Hw];simp only[List.all_toArray,Tn,Dn,Sx,decide_eq_true_eq];intro c _;have:=c.valid
 rcases this with h|⟨_,h⟩
 ·show c.val.toNat<1114112
  have:c.val.toNat<55296:=h
  lia
 ·exact h
def QH(k:Nat)(d:c6):Prop:=d.isD=ba/\d.pd.canLay0=ba/\d.pd.depth<=k
def YI{k:Nat}{i:Int}:QH k (.int i):=⟨rfl,rfl,Ep _⟩
def Xd{k:Nat}{i:Bool}:QH k (.bl i):=⟨rfl,rfl,Ep _⟩
def YY{k:Nat}{a:String}:QH k (.str (Be a)):=⟨rfl,by simp[c6.pd,Gm,CH],Ep _⟩
theorem J3{k:Nat}:∀{ds:List c6},(∀d∈ds,QH k d)->G1 ds=ba/\Ii (pds ds)=ba/\Fl (pds ds)<=k
 |[],_=>⟨rfl,rfl,Ep _⟩
 |d::ds,h=>by obtain⟨g,f,j⟩:=h d Au;obtain⟨c,b,i⟩:=J3 λe a=>h e (Am _ a);refine⟨by simp[G1,g,c],by simp[pds,Ii,f,b],?_⟩;simp only[pds,Fl];lia
def OW{k:Nat}{ds:List c6}(h:∀d∈ds,QH k d):QH (k+1) (.tup ds):=by obtain⟨a,b,c⟩:=J3 h;exact⟨by simpa[c6.isD]using a,by simpa[c6.pd,Gm]using b,by simp only[c6.pd,Ip];lia⟩
def YJ{k:Nat}{ds:List c6}(h:∀d∈ds,QH k d):QH (k+1) (.lst ds):=by obtain⟨a,b,c⟩:=J3 h;exact⟨by simpa[c6.isD]using a,by simpa[c6.pd,Gm]using b,by simp only[c6.pd,Ip];lia⟩
def QH.ok{k:Nat}{d:c6}(h:QH k d)(hk:k<=64:=by decide):LS d=ba:=by
 unfold LS Fb;simp only[h.1,h.2.1,Tg,Af,decide_eq_true_eq];have:=h.2.2
 lia
@[simp] theorem uB{a:String}:LS (.str (Be a))=ba:=(YY (k:=0)).ok
def YK{k:Nat}:∀d∈([]:List c6),QH k d:=λ_ h=>nomatch h
def Z7{k:Nat}{d:c6}{ds:List c6}(h:QH k d)(t:∀d∈ds,QH k d):∀e∈d::ds,QH k e:=λe a=>by
 rcases Ak.mp a with z|z
 ·rw[z];exact h
 ·exact t e z
@[simp] theorem jL{i j:Int}:eqD (.int i) (.int j)=decide (i=j):=by show(i==j)=_;rw[Mv]
@[simp] theorem vQ{a b:String}:eqD (.str (Be a)) (.str (Be b))=decide (a=b):=by show(Be a==Be b)=_;rw[Mv];simp only[VN]
@[simp] theorem sA{i j:Int}:WM (.int i) (.int j)=b3 (.bl (decide (i=j))):=by unfold WM;simp
@[simp] theorem uF{i j:Int}:RU (.int i) (.int j)=b3 (.bl (!decide (i=j))):=by unfold RU;simp
@[simp] theorem sk{a b:String}:WM (.str (Be a)) (.str (Be b))=b3 (.bl (decide (a=b))):=by unfold WM;simp
@[simp] theorem uc{a b:String}:RU (.str (Be a)) (.str (Be b))=b3 (.bl (!decide (a=b))):=by unfold RU;simp
def Wu{j k:Nat}{d e:c6}(h:QH j d)(h':QH k e)(a:j<=64:=by decide)(hk:k<=64:=by decide):WM d e=b3 (.bl (eqD d e)):=by unfold WM;rw[h.ok a,h'.ok hk];rfl
def DR{j k:Nat}{d e:c6}(h:QH j d)(h':QH k e)(a:j<=64:=by decide)(hk:k<=64:=by decide):RU d e=b3 (.bl (!eqD d e)):=by unfold RU;rw[h.ok a,h'.ok hk];rfl
def Vi{j k:Nat}{neg:Bool}{d:c6}{ds:List c6}(h:QH j d)(h':∀e∈ds,QH k e)(a:j<=64:=by decide)(hk:k+1<=64:=by decide):Z2 neg d (.tup ds)=b3 (.bl (if neg then !LG d ds else LG d ds)):=by unfold Z2;simp[h.ok a,(OW h').ok hk]
def JZ{j k:Nat}{neg:Bool}{d:c6}{ds:List c6}(h:QH j d)(h':∀e∈ds,QH k e)(a:j<=64:=by decide)(hk:k+1<=64:=by decide):Z2 neg d (.lst ds)=b3 (.bl (if neg then !LG d ds else LG d ds)):=by unfold Z2;simp[h.ok a,(YJ h').ok hk]
@[simp] theorem rB{d:c6}:LG d []=bb:=(rfl)
@[simp] theorem Uw{d e:c6}{ds:List c6}:LG d (e::ds)=(eqD e d || LG d ds):=(rfl)
@[simp] theorem DH{neg:Bool}{a b c:String}:Z2 neg (.str (Be a)) (.tup [.str (Be b),.str (Be c)])=b3 (.bl (if neg then !(decide (b=a) || decide (c=a))else decide (b=a) || decide (c=a))):=by rw[Vi (j:=0) YY (Z7 (YY (k:=0)) (Z7 YY YK))];simp
@[simp] theorem Yn{neg:Bool}{a b c d e:String}:Z2 neg (.str (Be a)) (.tup [.str (Be b),.str (Be c),.str (Be d),.str (Be e)])=b3 (.bl (if neg then !(decide (b=a) || (decide (c=a) || (decide (d=a) || decide (e=a))))else decide (b=a) || (decide (c=a) || (decide (d=a) || decide (e=a))))):=by rw[Vi (j:=0) YY (Z7 (YY (k:=0)) (Z7 YY (Z7 YY (Z7 YY YK))))];simp
@[simp] theorem tF{neg:Bool}{a b c:Int}:Z2 neg (.int a) (.tup [.int b,.int c])=b3 (.bl (if neg then !(decide (b=a) || decide (c=a))else decide (b=a) || decide (c=a))):=by rw[Vi (j:=0) YI (Z7 (YI (k:=0)) (Z7 YI YK))];simp
def V6(ns:List Int):c6:=.lst (ns.map .int)
def XT(n:Nat):c6:=.lst (Av n (.int 0))
theorem LI:∀ns:List Int,G1 (ns.map c6.int)=ba
 |[]=>rfl
 |n::ns=>by simp[G1,c6.isD,LI ns]
theorem HQ:∀ns:List Int,pds (ns.map c6.int)=ns.map Ph
 |[]=>rfl
 |n::ns=>by simp[pds,c6.pd,HQ ns]
def eJ(ns:List Int):LS (.lst (ns.map .int))=ba:=by unfold LS;simp only[c6.isD,LI,c6.pd,HQ,Tg];exact IJ ns
def UH(ns:List Int):WM (.lst (ns.map .int)) (.lst [])=b3 (.bl ns.isEmpty):=by unfold WM;rw[eJ,show LS (.lst [])=ba from by decide+kernel];cases ns<;>rfl
theorem LD:∀n:Nat,U8 (Av n (.int 0))=ba
 |0=>rfl
 |n+1=>by simp[Dz,U8,c6.hard,LD n]
@[simp] theorem ud(n:Nat):UM (XT n)=ba:=LD n
theorem K5:∀(ds:List c6) (a b:c6) (r:Int) (s:Sl),∃r' s',WW (gN 3) (a8 2 (xV (f2 HJ (fV 2) (fC (.int 1000003))))) ds [.va a,.va b,.va (.int r),s]=b3 (.nx [.va a,.va b,.va (.int r'),s'])
 |[],a,b,r,s=>⟨r,s,rfl⟩
 |d::ds,a,b,r,s=>by obtain⟨r',s',h⟩:=K5 ds a b (r/1000003) (.va d);exact⟨r',s',by simp[cDiv,h]⟩
def OQ{ns:List Int}{i:Int}(c:0<=i)(h1:i<ns.length):∃r∈ns,UA (ns.map c6.int) i=b3 (.int r):=by obtain⟨x,a,e⟩:=E4 (xs:=ns.map c6.int) c (by simpa using h1);obtain⟨r,b,rfl⟩:=Cu.mp a;exact⟨r,b,e⟩
def gT(ns:List Int)(k:Nat)(hl:ns.length<=63)(hk:k<1000000):∃r,aF [V6 ns,.int k]=b3 (.int r,[]):=by
 unfold aF;rw[bK];unfold WL U6 V6;by_cases h:(k:Int)<ns.length
 ·obtain ⟨r,_,e⟩ := OQ (ns := ns) (i := k) (by lia) h
  exact⟨r,by simp[bG,h,e]⟩
 ·cases ns with
  |nil=>
   have o:¬((k:Int)<0):=by lia
   have e:WM (.lst []) (.lst [])=b3 (.bl ba):=UH [];exact⟨0,by simp[bG,o,e]⟩
  |cons m g=>
   generalize a:m::g=ns at*;have f:(0:Int)<ns.length:=by rw[<-a];simp
   have n:=Hu (k:Int) (show(ns.length:Int)≠0 by lia);have d:=Fe (k:Int) f;obtain⟨r,_,e⟩:=OQ (ns:=ns) n d;have l:ns.isEmpty=bb:=by rw[<-a];rfl
   have q:0<=(k:Int)/ns.length:=Int.ediv_nonneg (by lia) (by lia);have j: -4611686018427387904<=(if(60:Int)<(k:Int)/ns.length then 60 else(k:Int)/ns.length)/\(if(60:Int)<(k:Int)/ns.length then 60 else(k:Int)/ns.length)<4611686018427387904:=by split<;>lia
   obtain⟨r',s',p⟩:=K5 (ZN 0 (if(60:Int)<(k:Int)/ns.length then 60 else(k:Int)/ns.length).toNat) (.lst (ns.map .int)) (.int k) r .no;have c:0<ns.length:=by lia
   have b:(ns.length:Int)<1073741824:=by lia
   exact⟨r*31+k+r'*101,by simp[bG,h,UH,l,f,c,b,e,cDiv,j,p,cMul]⟩
noncomputable def cel(ns:List Int)(k:Nat):Int:=match aF [V6 ns,.int k]with
 |some (.int r,_)=>r
 |_=>0
def hG(ns:List Int)(k:Nat)(hl:ns.length<=63)(hk:k<1000000):aF [V6 ns,.int k]=b3 (.int (cel ns k),[]):=by obtain⟨r,e⟩:=gT ns k hl hk;unfold cel;rw[e]
noncomputable def MR(ns:List Int)(n:Nat)(b:Int):Int:=((cel ns (n+1)*1103515245+7919*(((n+1:Nat)):Int)+12345) % 2147483647) ^ 5 % 2147483647 % 999983 % b
def SW(ns:List Int)(n:Nat){b:Int}(h:0<b):0<=MR ns n b:=Hu _ (by lia)
def M9(ns:List Int)(n:Nat){b:Int}(h:0<b):MR ns n b<b:=Fe _ h
def pR(ns:List Int)(n:Nat)(b:Int)(hl:ns.length<=63)(d:n<900000)(c:0<b):YN [V6 ns,.int ((n+1:Nat):Int),.int b]=b3 (.int (MR ns n b),[]):=by
 have e:=hG ns (n+1) hl (by lia);unfold YN;rw[bK];unfold UI MR;have g:=Hu (cel ns (n+1)*1103515245+7919*((n+1:Nat):Int)+12345) (show(2147483647:Int)≠0 by decide);have f:=Fe (cel ns (n+1)*1103515245+7919*((n+1:Nat):Int)+12345) (show(0:Int)<2147483647 by decide);generalize hz:(cel ns (n+1)*1103515245+7919*((n+1:Nat):Int)+12345) % 2147483647=z at*;have a:z.natAbs<18446744073709551616:=by lia
 generalize hk:((n+1:Nat):Int)=k at*;simp[bG,e,cMul,cPow,hz,a,c]
def ZH(ns:List Int)(n:Nat)(b:Int)(hl:ns.length<=63)(f:n<900000)(g:0<b):cC [V6 ns,XT n,.int b]=b3 (.int (MR ns n b),[XT (n+1)]):=by
 have e:=pR ns n b hl f g;unfold cC;rw[bK];unfold R8;have c:XT n=.lst (Av n (.int 0)):=rfl;have a:XT (n+1)=.lst (Av n (.int 0)++[.int 0]):=by unfold XT;rw[List.replicate_succ']
 rw[a,c];have d:n<16777216:=by lia
 push_cast at e
 simp[bG,d,e]
def YZ(ns:List Int)(n:Nat)(xs:List c6)(hl:ns.length<=63)(b:n<900000)(d:0<xs.length):∃x∈xs,cF [V6 ns,XT n,.lst xs]=b3 (x,[XT (n+1)]):=by
 have a:(0:Int)<xs.length:=by lia
 obtain⟨x,c,e⟩:=E4 (xs:=xs) (SW ns n a) (M9 ns n a);refine⟨x,c,?_⟩;unfold cF;rw[bK];unfold SA;simp[bG,ZH ns n _ hl b a,e]
def C9(ns:List Int)(n:Nat)(b:Int)(hl:ns.length<=63)(a:n<900000)(c:0<b)(tl:Ev):cP 3 [1] cC (aE (fV 0) (aO 1 (aE (fC (.int b)) cE))) (.va (V6 ns):: .ow (XT n)::tl)=b3 (.int (MR ns n b),.va (V6 ns):: .ow (XT (n+1))::tl):=by simp[ZH ns n b hl a c]
abbrev Sn(m:Nat)(d:c6):Prop:=∃(ks:List aY) (vs:List Int),d=.dct ks (vs.map .int)/\ks.length=vs.length/\ks.Nodup/\ks.length<=m
abbrev M3(n:Nat)(d:c6):Prop:=Sn (8*n) d
def M3.mono{n m:Nat}{d:c6}(h:M3 n d)(b:n<=m):M3 m d:=by obtain⟨ks,vs,h1,h2,a,c⟩:=h;exact⟨ks,vs,h1,h2,a,by lia⟩
theorem Xn:∀(ks:List aY) (vs:List Int) (k:aY) (q:Int),∃r,(bF ks (vs.map .int) k).getD (.int q)=.int r
 |[],_,_,q=>⟨q,by simp[bF]⟩
 |_::_,[],_,q=>⟨q,by simp[bF]⟩
 | k' :: ks,v :: vs,k,q => by
  by_cases h:k'=k
  ·exact⟨v,by simp[bF,h]⟩
  ·obtain⟨r,e⟩:=Xn ks vs k q
   exact⟨r,by simp only[Ba,bF,if_neg h];exact e⟩
theorem putI:∀(ks:List aY) (vs:List Int) (k:aY) (p:Int),ks.length=vs.length->ks.Nodup->∃(a:List aY) (b:List Int),YL ks (vs.map .int) k (.int p)=(a,b.map .int)/\a.length=b.length/\a.Nodup/\a.length<=ks.length+1/\(∀z∈a,z=k∨z∈ks)/\bF a (b.map .int) k=b3 (.int p)
 |[],[],k,p,_,_=>⟨[k],[p],by simp[YL],rfl,by simp,by simp,by simp,by simp[bF]⟩
 | k' :: ks,v :: vs,k,p,hl,c => by
  by_cases h:k'=k
  ·subst h
   exact⟨k'::ks,p::vs,by simp[YL],by simpa using hl,c,by simp,by simp,by simp[bF]⟩
  ·obtain ⟨a,b,e,h1,h2,g,d,f⟩ := putI ks vs k p (by simpa using hl) (Ca.mp c).2
   refine⟨k'::a,v::b,by simp only[Ba,YL,if_neg h,e],by simp[h1],?_,by simp;lia,?_,by simp only[Ba,bF,if_neg h];exact f⟩
   ·refine Ca.mpr ⟨λz => ?_,h2⟩
    rcases d _ z with y|y
    ·exact h y
    ·exact(Ca.mp c).1 y
   ·intro z hz
    rcases Ak.mp hz with y|y
    ·exact .inr (by rw[y];exact Au)
    ·exact(d z y).imp id (Am _)
def HU(ns:List Int)(n:Nat)(sn:c6)(x:Ue)(room:Int)(hl:ns.length<=63)(r:n<800000)(j:M3 n sn)(g:0<room):∃p d,0<=p/\p<room/\M3 (n+2) d/\aU [V6 ns,XT n,sn,.str x,.int room]=b3 (.int p,[XT (n+2),d]):=by
 obtain⟨ks,vs,rfl,h1,h2,u⟩:=j;obtain⟨a,k⟩:=Xn ks vs (.inr x) (MR ns n room);obtain⟨y,i,q⟩:=YZ ns (n+1) [.int 1,.int 1,.int 1,.int 0,.int 3] hl (by lia) (by simp);obtain⟨b,rfl⟩:∃b,y=.int b:=by simp only[Ak,Ax,or_false]at i;rcases i with h|h|h|h|h<;>exact⟨_,h⟩
 obtain⟨f,c,e,o,m,t,s,l⟩:=putI ks vs (.inr x) ((a+b) % room) h1 h2;refine⟨(a+b) % room,.dct f (c.map .int),Hu _ (by lia),Fe _ g,⟨f,c,rfl,o,m,by lia⟩,?_⟩;have hk:ks.length<16777216:=by lia
 unfold aU;rw[bK];unfold UJ;simp[bG,ZH ns n room hl (by lia) g,k,q,g,hk,h2,e,l]
inductive aZ(M:Int->Prop):c6->Prop
 |number {n:Int}:0<=n->n<=999->aZ M (.tup [.str "number",.int n])
 |two {x:String}{a b:Int}:x∈["over","plus","minus","times","least","most","less"]->M a->M b->aZ M (.tup [.str x,.int a,.int b])
 |pick {c a b:Int}:M c->M a->M b->aZ M (.tup [.str "pick",.int c,.int a,.int b])
 |load {p:Int}:0<=p->p<=63->aZ M (.tup [.str "load",.int p])
 |take {p c a:Int}:0<=p->p<=63->M c->M a->aZ M (.tup [.str "take",.int p,.int c,.int a])
 |store {p a:Int}:0<=p->p<=63->M a->aZ M (.tup [.str "store",.int p,.int a])
 |put {p a c:Int}:0<=p->p<=63->M a->M c->aZ M (.tup [.str "put",.int p,.int a,.int c])
def iR(ns:List Int)(n:Nat)(made:List Int)(hl:ns.length<=63)(k:n<800000)(l:0<made.length)(s:Sl):∃a b c,a∈made/\b∈made/\c∈made∧ZW 3 1 (gN 3) U4 (f2 bL (fV 2) (f2 oMax (fC (.int 0)) (f2 Q9 (f2 Q9 (f1 Y8 (fV 2)) (fC (.int 1))) (cP 3 [1] cC (aE (fV 0) (aO 1 (aE (fC (.int 6)) cE))))))) [.int 0,.int 1,.int 2] [] [.va (V6 ns),.ow (XT n),.va (.lst (made.map .int))]=b3 ([.int a,.int b,.int c],[.va (V6 ns),.ow (XT (n+3)),.va (.lst (made.map .int))]):=by
 have one:∀m,∃a∈made,UA (made.map c6.int) (if(made.length:Int)-1-MR ns m 6>0 then(made.length:Int)-1-MR ns m 6 else 0)=b3 (.int a):=λm=>by
  have:=SW ns m (b:=6) (by decide)
  exact OQ (by split<;>lia) (by split<;>lia)
 obtain⟨a,h,f⟩:=one n;obtain⟨b,g,e⟩:=one (n+1);obtain⟨c,hc,d⟩:=one (n+2);refine⟨a,b,c,h,g,hc,?_⟩;have d0:=ZH ns n 6 hl (by lia) (by decide);have j:=ZH ns (n+1) 6 hl (by lia) (by decide);have i:=ZH ns (n+2) 6 hl (by lia) (by decide);simp only[gt_iff_lt,Int.sub_pos]at f e d;simp[d0,j,i,f,e,d]
def onC(x:String):Prop:=x= "load" ∨x= "take" ∨x= "store" ∨x= "put"
def PlOK(room:Int)(row:c6):Prop:=∀(x:String) (p:Int) (t:List c6),row=.tup (.str x:: .int p::t)->onC x->p<room
def RB{room p:Int}{x:String}{t:List c6}(h:p<room):PlOK room (.tup (.str x:: .int p::t)):=λy q u e _=>by simp only[c6.tup.injEq,Ka,c6.int.injEq]at e;lia
def FV{room:Int}{x:String}{t:List c6}(h:¬onC x):PlOK room (.tup (.str x::t)):=λy q u e a=>by simp only[c6.tup.injEq,Ka,c6.str.injEq,VN]at e;rw[<-e.1]at a;exact absurd a h
def EU{x:String}(a:x∈["over","plus","minus","times","least","most","less"]):¬onC x:=λh=>by simp only[Ak,Ax,or_false]at a;rcases a with rfl|rfl|rfl|rfl|rfl|rfl|rfl<;>rcases h with h|h|h|h<;>exact absurd h (by decide)
def F9{s1 a:VS}{δ δ1:Ev}(h:s1 δ=b3 (.nx δ1)):cK s1 a δ=a δ1:=by rw[Y9,h,TF]
def Ws(ns:List Int)(n:Nat)(made:List Int)(sn:c6)(room:Int)(hl:ns.length<=63)(Y:n<700000)(k:M3 n sn)(H:0<room)(Q:room<=64):∃row n' d,n<=n'/\n'<=n+10/\M3 n' d/\aZ (· ∈made) row/\PlOK room row/\YO [V6 ns,XT n,.lst (made.map .int),sn,.int room]=b3 (row,[XT n',d]):=by
  have d0:=C9 ns n 13 hl (by lia) (by decide);have k0:=SW ns n (b:=13) (by decide);have k1:=M9 ns n (b:=13) (by decide);generalize MR ns n 13=e at*;unfold YO;rw[bK];unfold P8;by_cases J:made.isEmpty=ba∨e=0
  · have u := C9 ns (n + 1) 2 hl (by lia) (by decide)
    have l:made.isEmpty=ba∨(made.isEmpty=bb/\e=0):=by
      cases C:made.isEmpty with
      |true=>exact .inl rfl
      | false => rcases J with h | h
                 · rw[C]at h;cases h
                 · exact .inr ⟨rfl,h⟩
    by_cases h2:MR ns (n+1) 2=0
    · have K := C9 ns (n + 2) 1000 hl (by lia) (by decide)
      obtain⟨y,t,q⟩:=YZ ns (n+3) [.int 0,.int 1,.int 2,.int 5,.int 999,.int (MR ns (n+2) 1000)] hl (by lia) (by simp);obtain⟨b,rfl,F,E⟩:∃b,y=.int b/\0<=b/\b<=999:=by
        have:=SW ns (n+2) (b:=1000) (by decide)
        have:=M9 ns (n+2) (b:=1000) (by decide)
        simp only[Ak,Ax,or_false]at t;rcases t with h|h|h|h|h|h<;>exact⟨_,h,by lia,by lia⟩
      refine⟨.tup [.str "number",.int b],n+4,sn,by lia,by lia,k.mono (by lia),.number F E,FV (by unfold onC;decide),?_⟩;rcases l with h|⟨h,h'⟩
      · simp[bG,↓d0,UH,h,↓u,h2,↓K,q]
      · simp[bG,↓d0,UH,h,h',↓u,h2,↓K,q]
    · obtain ⟨p,d,j,i,f,g⟩ := HU ns (n + 2) sn "load" room hl (by lia) (k.mono (by lia)) H
      refine⟨.tup [.str "load",.int p],n+4,d,by lia,by lia,f,.load j (by lia),RB i,?_⟩;rcases l with h|⟨h,h'⟩
      · simp[bG,↓d0,UH,h,↓u,h2,g]
      · simp[bG,↓d0,UH,h,h',↓u,h2,g]
  · obtain⟨C,D⟩:=not_or.mp J
    have m:made.isEmpty=bb:=by simpa using C
    have T:0<made.length:=by
      cases made with
      |nil=>cases m
      |cons=>simp
    obtain⟨a,b,c,o,I,hc,R⟩:=iR ns (n+1) made hl (by lia) T .no;rw[show bG [1,3] 9 [V6 ns,XT n,.lst (made.map .int),sn,.int room]=[.va (V6 ns),.ow (XT n),.va (.lst (made.map .int)),.ow sn,.va (.int room),.no,.no,.no,.no] from rfl,F9 (δ1:=[.va (V6 ns),.ow (XT (n+1)),.va (.lst (made.map .int)),.ow sn,.va (.int room),.va (.int e),.no,.no,.no]) (by simp[↓d0]),F9 (δ1:=[.va (V6 ns),.ow (XT (n+1)),.va (.lst (made.map .int)),.ow sn,.va (.int room),.va (.int e),.no,.no,.no]) (by simp[UH,m,D]),F9 (δ1:=[.va (V6 ns),.ow (XT (n+4)),.va (.lst (made.map .int)),.ow sn,.va (.int room),.va (.int e),.va (.int a),.va (.int b),.va (.int c)]) (by simp[aV,R])]
    have N:(e=1∨e=2)∨e=3∨(e=4∨e=5)∨e=6∨e=7∨(8<=e/\e<=12):=by lia
    have r:∀x:Ue,∃p d,0<=p/\p<=63/\p<room/\M3 (n+6) d/\∀s tl,cP 5 [1,2] aU (aE (fV 0) (aO 1 (aO 3 (aE (fC (.str x)) (aE (fV 4) cE))))) (.va (V6 ns):: .ow (XT (n+4))::s:: .ow sn:: .va (.int room)::tl)=b3 (.int p,.va (V6 ns):: .ow (XT (n+6))::s:: .ow d:: .va (.int room)::tl):=λx=>by obtain⟨p,d,j,i,f,g⟩:=HU ns (n+4) sn x room hl (by lia) (k.mono (by lia)) H;exact⟨p,d,j,by lia,i,f,λs tl=>by simp[g]⟩
    rcases N with h|h|h|h|h|h
    · have w : (decide (1 = e) || decide (2 = e)) = ba := by rcases h with rfl | rfl <;> decide
      obtain⟨p,d,j,i,p2,f,g⟩:=r "load";exact⟨.tup [.str "load",.int p],n+6,d,by lia,by lia,f,.load j i,RB p2,by simp[↓g,w]⟩
    · subst h
      obtain⟨p,d,j,i,p2,f,g⟩:=r "take";exact⟨.tup [.str "take",.int p,.int c,.int a],n+6,d,by lia,by lia,f,.take j i hc o,RB p2,by simp[↓g]⟩
    · have v : (decide (4 = e) || decide (5 = e)) = ba := by rcases h with rfl | rfl <;> decide
      have z:¬e=3:=by lia
      have B:¬1=e:=by lia
      have A:¬2=e:=by lia
      obtain⟨p,d,j,i,p2,f,g⟩:=r "store";exact⟨.tup [.str "store",.int p,.int a],n+6,d,by lia,by lia,f,.store j i o,RB p2,by simp[↓g,z,B,A,v]⟩
    · subst h
      obtain⟨p,d,j,i,p2,f,g⟩:=r "put";exact⟨.tup [.str "put",.int p,.int a,.int c],n+6,d,by lia,by lia,f,.put j i o hc,RB p2,by simp[↓g]⟩
    · subst h
      exact⟨.tup [.str "pick",.int c,.int a,.int b],n+4,sn,by lia,by lia,k.mono (by lia),.pick hc o I,FV (by unfold onC;decide),by simp⟩
    · have S := C9 ns (n + 4) 7 hl (by lia) (by decide)
      have q0:=SW ns (n+4) (b:=7) (by decide);have q1:=M9 ns (n+4) (b:=7) (by decide);obtain⟨y,t,q⟩:=E4 (xs:=["over","plus","minus","times","least","most","less"].map λs:String=>c6.str (Be s)) q0 (by simpa using q1);obtain⟨x,G,rfl⟩:=Cu.mp t;simp only[Ba,Et]at q;have X:¬e=1:=by lia
      have W:¬e=2:=by lia
      have z:¬e=3:=by lia
      have V:¬e=4:=by lia
      have U:¬e=5:=by lia
      have M:¬e=6:=by lia
      have L:¬e=7:=by lia
      have B:¬1=e:=by lia
      have A:¬2=e:=by lia
      have P:¬4=e:=by lia
      have O:¬5=e:=by lia
      exact⟨.tup [.str x,.int a,.int b],n+5,sn,by lia,by lia,k.mono (by lia),.two G o I,FV (EU G),by simp[z,M,L,B,A,P,O,↓S,q]⟩
inductive Kd where
 |w|p|n
 deriving DecidableEq
def Nm(kds:List Kd)(k:Kd)(a:Int):Prop:=0<=a/\kds[a.toNat]?=b3 k
def Nm.lt{kds:List Kd}{k:Kd}{a:Int}(h:Nm kds k a):a<kds.length:=by
 have:=(Ag.mp h.2).1
 have:=h.1
 lia
def Nm.snoc{kds:List Kd}{k j:Kd}{a:Int}(h:Nm kds k a):Nm (kds++[j]) k a:=⟨h.1,by rw[An (Ag.mp h.2).1];exact h.2⟩
def Nm.new{kds:List Kd}{k:Kd}:Nm (kds++[k]) k kds.length:=⟨by lia,by simp⟩
noncomputable def LQ(k:Kd):c6->Kd
 |.tup (.str x::_)=>if x= "store" ∨x= "put" then .n else k
 |_=>.n
def aZ.imp{M M':Int->Prop}{row:c6}(h:aZ M row)(f:∀a,M a->M' a):aZ M' row:=by
 cases h with
 |number a b=>exact .number a b
 |two a b c=>exact .two a (f _ b) (f _ c)
 |pick a b c=>exact .pick (f _ a) (f _ b) (f _ c)
 |load a b=>exact .load a b
 |take a b c d=>exact .take a b (f _ c) (f _ d)
 |store a b c=>exact .store a b (f _ c)
 |put a b c d=>exact .put a b (f _ c) (f _ d)
def aZ.hard{M:Int->Prop}{row:c6}(h:aZ M row):row.hard=ba:=by
 cases h<;>simp[c6.hard,U8]
@[simp] theorem tu{i:Int}:J2 (.int i)=b3 (.int (-i)):=(rfl)
def TW{ds:List c6}{k:Nat}(h:k<=ds.length):V7 ds (b3 (k:Int)) b4=ds.drop k:=by unfold V7;rw[HT.EG,HT.ID,Ht h,Cn (by simp)]
def QY{ds:List c6}{k:Nat}:V7 ds b4 (b3 (k:Int))=ds.take k:=by
 unfold V7;rw[HT.EG,HT.ID];simp only[Ni,Nat.sub_zero];by_cases h:k<=ds.length
 ·rw[Ht h]
 ·rw[Nat.min_eq_right (by lia),Cn (by lia),Cn (by lia)]
@[simp] theorem rm{d:c6}{ds:List c6}:V7 (d::ds) (b3 1) b4=ds:=TW (k:=1) (by simp)
@[simp] theorem sZ{d e:c6}{ds:List c6}:V7 (d::e::ds) (b3 2) b4=ds:=TW (k:=2) (by simp)
@[simp] theorem vV{ds:List c6}:V7 ds b4 (b3 2)=ds.take 2:=QY (k:=2)
@[simp] theorem tM{ds:List c6}:V7 ds b4 (b3 1)=ds.take 1:=QY (k:=1)
@[simp] theorem tf{α:Type}{xs:List α}{x:α}:UA (xs++[x]) (-1)=b3 x:=by
 unfold UA BC;rw[if_neg (by decide),if_pos (by simp;lia)];have e:(-1+((xs++[x]).length:Int)).toNat=xs.length:=by simp;lia
 show(xs++[x])[(-1+((xs++[x]).length:Int)).toNat]?=b3 x;rw[e];simp
@[simp] theorem uV{α:Type}{x:α}{xs:List α}:UA (x::xs) 0=b3 x:=by rw[UB (by decide) (by simp)];rfl
@[simp] theorem rY{α:Type}{x y:α}{xs:List α}:UA (x::y::xs) 1=b3 y:=by rw[UB (by decide) (by simp;lia)];rfl
@[simp] theorem uY{α:Type}{x y z:α}{xs:List α}:UA (x::y::z::xs) 2=b3 z:=by rw[UB (by decide) (by simp;lia)];rfl
def fM{k:Kd}{x:String}{t:List c6}(a:x∉["store","put"]):LQ k (.tup (.str x::t))=k:=by simp only[Ak,Ax,or_false,not_or]at a;simp[LQ,VN,a]
def jT{k:Kd}{x:String}{t:List c6}(a:x= "store" ∨x= "put"):LQ k (.tup (.str x::t))=.n:=by
 rcases a with rfl|rfl<;>simp[LQ,VN]
def N5{M:Int->Prop}{row:c6}(h:aZ M row):∃(x:String) (t:List c6),row=.tup (.str x::t)/\x∉["wide","gather","shuffle"]:=by
 cases h with
 |two a _ _=>
  simp only[Ak,Ax,or_false]at a;rcases a with rfl|rfl|rfl|rfl|rfl|rfl|rfl<;>exact⟨_,_,rfl,by decide⟩
 |_=>exact⟨_,_,rfl,by decide⟩
@[simp] theorem v9(n lo hi:Int):bE [.int n,.int lo,.int hi]=b3 (.bl (decide (lo<=n)&&decide (n<=hi)),[]):=by unfold bE;rw[bK];unfold R7;simp[bG];by_cases h:lo<=n<;>simp[h]
def BW{x:String}(h:x∈["over","plus","minus","times","least","most","less"]):aA [.str x]=b3 (.tup [.str "row",.str "row"],[]):=by simp only[Ak,Ax,or_false]at h;rcases h with rfl|rfl|rfl|rfl|rfl|rfl|rfl<;>kernel_rfl
@[simp] theorem sM:aA [.str "number"]=b3 (.tup [.str "word"],[]):=by kernel_rfl
@[simp] theorem vI:aA [.str "pick"]=b3 (.tup [.str "row",.str "row",.str "row"],[]):=by kernel_rfl
@[simp] theorem vg:aA [.str "load"]=b3 (.tup [.str "place"],[]):=by kernel_rfl
@[simp] theorem vO:aA [.str "take"]=b3 (.tup [.str "place",.str "row",.str "row"],[]):=by kernel_rfl
@[simp] theorem rF:aA [.str "store"]=b3 (.tup [.str "place",.str "row"],[]):=by kernel_rfl
@[simp] theorem rK:aA [.str "put"]=b3 (.tup [.str "place",.str "row",.str "row"],[]):=by kernel_rfl
def Ab(able:List Bool)(a:Int):Prop:=0<=a/\able[a.toNat]?=b3 ba
def Xm{able:List Bool}{a:Int}(h:Ab able a):ZJ [.int a,.lst (able.map .bl)]=b3 (.bl ba,[]):=by
 have c:=(Ag.mp h.2).1;have b:=h.1;have h1:a<=(able.length:Int)-1:=by lia
 have h2:UA (able.map c6.bl) a=b3 (.bl ba):=by rw[UB b (by simp;lia)];simp[h.2]
 unfold ZJ;rw[bK];unfold SG;simp[bG,b,h1,h2]
def Y3{able:List Bool}{a:Int}(h:Ab able a):WJ [.str "row",.int a,.lst (able.map .bl)]=b3 (.bl ba,[]):=by unfold WJ;rw[bK];unfold NF;simp[bG,Xm h]
def A8{d:c6}{a:Int}(h:0<=a)(h':a<=999):WJ [.str "word",.int a,d]=b3 (.bl ba,[]):=by unfold WJ;rw[bK];unfold NF;simp[bG,XW,h,h']
def VL{d:c6}{a:Int}(h:0<=a)(h':a<=63):WJ [.str "place",.int a,d]=b3 (.bl ba,[]):=by unfold WJ;rw[bK];unfold NF;simp[bG,VE,h,h']
@[simp] theorem tX:MN []=b3 []:=(rfl)
@[simp] theorem vn{b:Bool}{ds:List c6}:MN (.bl b::ds)=(MN ds).map λks=>b::ks:=(rfl)
@[simp] theorem sB{g:List Bool->Bool}{ds:List c6}:Vj g (.lst ds)=(MN ds).map λks=>.bl (g ks):=(rfl)
@[simp] theorem qU{ds:List c6}:TJ ds []=[]:=by cases ds<;>rfl
@[simp] theorem uz{d e:c6}{ds es:List c6}:TJ (d::ds) (e::es)=.tup [d,e]::TJ ds es:=(rfl)
def iQ{able:List Bool}{row:c6}(h:aZ (Ab able) row):V5 [row,.lst (able.map .bl)]=b3 (.bl ba,[]):=by
 unfold V5;rw[bK];unfold NG;cases h with
 |number a b=>simp[bG,aV,A8 a b]
 |two e a b=>simp[bG,aV,BW e,Y3 a,Y3 b]
 |pick a b c=>simp[bG,aV,Y3 a,Y3 b,Y3 c]
 |load a b=>simp[bG,aV,VL a b]
 |take a b c d=>simp[bG,aV,VL a b,Y3 c,Y3 d]
 |store a b c=>simp[bG,aV,VL a b,Y3 c]
 |put a b c d=>simp[bG,aV,VL a b,Y3 c,Y3 d]
theorem M8(a:Nat)(fe:VF)(δ:Ev)(f:c6->c6)(b:δ.length=a):∀(ds acc:List c6),(∀d∈ds,fe (δ++[Sl.va d])=b3 (f d,δ++[Sl.va d]))->acc.length+ds.length<16777216->ZW a 1 (gN a) U4 fe ds acc δ=b3 (acc++ds.map f,δ)
 |[],acc,_,_=>by simp
 |d::ds,acc,h,hl=>by
  have i:(δ++[Sl.no]).set a (.va d)=δ++[Sl.va d]:=by rw[Ft _ _ (by lia)];simp[b]
  have k:(δ++[Sl.va d]).take a=δ:=by rw[Dx (by lia),Cn (by lia)]
  have j:acc.length<16777216:=by simp at hl;lia
  have c:=M8 a fe δ f b ds (acc++[f d]) (λe g=>h e (Am _ g)) (by simp at hl⊢;lia);simp only[QW,Ve,GZ,i,HX,qv,Vd,h d Au,Va,if_pos j,k,c];simp
def pS(k:Nat):(ZN 0 k).length=k:=by simp[ZN]
theorem G9:∀(ks:List aY) (a:List c6) (i:Nat) (k:aY),ks.Nodup->ks.length=a.length->ks[i]?=b3 k->bF ks a k=a[i]?
 |[],_,i,k,_,_,e=>by simp at e
 |k'::ks,[],i,k,_,hl,_=>by simp at hl
 |k'::ks,w::a,0,k,_,_,e=>by simp at e;simp[bF,e]
 |k'::ks,w::a,i+1,k,c,hl,e=>by
  have d:ks[i]?=b3 k:=by simpa using e
  have b:¬k'=k:=λz=>(Ca.mp c).1 (by rw[z];exact Dt d);have:=G9 ks a i k (Ca.mp c).2 (by simpa using hl) d
  simp[bF,b,this]
noncomputable def cnt:c6->Nat
 |.tup (.str x::_)=>if x= "number" ∨x= "load" then 0 else if x= "store" then 1 else if x= "pick" then 3 else 2
 |_=>0
def dne{x:String}(b:x∈["over","plus","minus","times","least","most","less"]){y:String}(a:(["over","plus","minus","times","least","most","less"].contains y)=bb):(¬x=y)/\¬y=x:=by
 have h:¬x=y:=λe=>by subst e;rw[List.contains_iff_mem.mpr b]at a;cases a
 exact⟨h,λe=>h e.symm⟩
def FK{M:Int->Prop}{row:c6}(h:aZ M row):∃as:List Int,(∀a∈as,M a)/\as.length=cnt row/\aT [row]=b3 (.lst (as.map .int),[])/\aT [row]=b3 (.lst (as.map .int),[]):=by
 cases h with
 | @number n _ _=>
  refine⟨[],(λ_ h=>nomatch h),by kernel_rfl,?_,?_⟩
  ·kernel_rfl
  ·kernel_rfl
 | @two x a b e d f=>
  refine⟨[a,b],by simp[d,f],?_,?_,?_⟩
  ·simp only[Ak,Ax,or_false]at e
   rcases e with rfl|rfl|rfl|rfl|rfl|rfl|rfl<;>kernel_rfl
  ·simp only[Ak,Ax,or_false]at e
   rcases e with rfl|rfl|rfl|rfl|rfl|rfl|rfl<;>kernel_rfl
  ·simp only[Ak,Ax,or_false]at e
   rcases e with rfl|rfl|rfl|rfl|rfl|rfl|rfl<;>kernel_rfl
 | @pick c a b hc d f=>
  refine⟨[c,a,b],by simp[hc,d,f],by kernel_rfl,?_,?_⟩
  ·kernel_rfl
  ·kernel_rfl
 | @load p _ _=>
  refine⟨[],(λ_ h=>nomatch h),by kernel_rfl,?_,?_⟩
  ·kernel_rfl
  ·kernel_rfl
 | @take p c a _ _ hc d=>
  refine⟨[c,a],by simp[hc,d],by kernel_rfl,?_,?_⟩
  ·kernel_rfl
  ·kernel_rfl
 | @store p a _ _ d=>
  refine⟨[a],by simp[d],by kernel_rfl,?_,?_⟩
  ·kernel_rfl
  ·kernel_rfl
 | @put p a c _ _ d hc=>
  refine⟨[a,c],by simp[d,hc],by kernel_rfl,?_,?_⟩
  ·kernel_rfl
  ·kernel_rfl
inductive Bl:List Kd->List c6->List Kd->Prop
 |nil {kds:List Kd}:Bl kds [] kds
 |cons {kds am:List Kd}{row:c6}{rows:List c6}:aZ (Nm kds .w) row->Bl (kds++[LQ .w row]) rows am->Bl kds (row::rows) am
def Bl.snoc{kds b:List Kd}{rows:List c6}{row:c6}(h:Bl kds rows b)(r:aZ (Nm b .w) row):Bl kds (rows++[row]) (b++[LQ .w row]):=by
 induction h with
 |nil=>exact .cons r .nil
 |cons a _ c=>exact .cons a (c r)
def Bl.len{kds a:List Kd}{rows:List c6}(h:Bl kds rows a):a.length=kds.length+rows.length:=by
 induction h with
 |nil=>simp
 |cons _ _ b=>simp only[b,Bv,Bw,Mo];lia
def Bl.all{kds c:List Kd}{rows:List c6}(h:Bl kds rows c):∀d∈rows,aZ (Nm c .w) d:=by
 induction h with
 |nil=>intro d hd;cases hd
 | @cons kds c row rows a t b=>
  intro d hd;rcases Ak.mp hd with rfl|hd
  ·refine a.imp λx f => ?_
   have:∀{k k':List Kd}{e:List c6},Bl k e k'->Nm k .w x->Nm k' .w x:=by
    intro k k' e h;induction h with
    |nil=>exact id
    |cons _ _ b=>exact λz=>b z.snoc
   exact this t f.snoc
  ·exact b d hd
theorem P9:∀ns:List Int,U9 (ns.map .int)=b3 ns
 |[]=>rfl
 |i::ns=>by show(U9 (ns.map .int)).map (λns=>i::ns)=_;rw[P9 ns];rfl
theorem DX{n:Int}:∀{ns:List Int},n∈ns->∃j:Nat,VT n ns=b3 j/\j<ns.length
 | i :: ns,h => by
  unfold VT;by_cases e:i=n
  ·rw[if_pos e];exact⟨0,rfl,by simp⟩
  ·rw[if_neg e]
   obtain⟨j,h1,h2⟩:=DX (ns:=ns) (by
    rcases Ak.mp h with z|z
    ·exact absurd z.symm e
    ·exact z)
   exact⟨j+1,by rw[h1];rfl,by simp;lia⟩
noncomputable def nst(ns:List Int)(n:Nat)(rows:List c6)(made:List Int)(sn:c6)(room:Int)(last:c6)(fi:Int)(bs:List Int)(b a:Sl):Ev:=
 [.va (V6 ns),.ow (XT n),.va (.lst rows),.va (.lst (made.map .int)),.ow sn,.va (.int room),.va last,.va (.int fi),.ow (.lst (bs.map .int)),b,a]
def mJ(ns:List Int)(n:Nat)(rows:List c6)(made:List Int)(sn:c6)(room:Int)(last:c6)(fi:Int)(bs:List Int)(a:Int)(d:Sl)(hl:ns.length<=63)(o:n<700000)(e:a∈made)(r:bs.length<100):∃b∈made,∃m,ZD (nst ns n rows made sn room last fi bs (.va (.int a)) d)=b3 (.nx (nst ns (n+1) rows made sn room last fi (bs++[b]) (.va (.int a)) m)):=by
 obtain⟨j,k,i⟩:=DX e;obtain⟨x,g,ex⟩:=YZ ns n [.int 1,.int 1,.int 1,.int 1,.int (-1),.int 0,.int 2] hl (by lia) (by simp);obtain⟨p,rfl⟩:∃p,x=.int p:=by simp only[Ak,Ax,or_false]at g;rcases g with rfl|rfl|rfl|rfl|rfl|rfl|rfl<;>exact⟨_,rfl⟩
 have hi:FO (.lst (made.map .int)) (.int a)=b3 (.int j):=by show(U9 (made.map .int)).bind (λns=>(VT a ns).map λj=>c6.int j)=_;rw[P9,Ar,k];rfl
 have c:bs.length<16777216:=by lia
 by_cases h1:0<=(j:Int)+p/\(j:Int)+p<made.length
 ·obtain⟨q,h,eq⟩:=OQ (ns:=made) h1.1 h1.2
  by_cases h2:q=(rows.length:Int)-1
  ·refine⟨a,e,.va (.int (j+p)),?_⟩
   unfold ZD;simp[nst,hi,ex,h1.1,h1.2,eq,h2,c]
  ·refine⟨q,h,.va (.int (j+p)),?_⟩
   unfold ZD;simp[nst,hi,ex,h1.1,h1.2,eq,h2,c]
 ·refine⟨a,e,.va (.int (j+p)),?_⟩
  unfold ZD;by_cases f:0<=(j:Int)+p
  ·have l : ¬ (j : Int) + p < made.length := λz => h1 ⟨f,z⟩
   simp[nst,hi,ex,f,l,c]
  ·simp[nst,hi,ex,f,c]
theorem FM(ns:List Int)(rows:List c6)(made:List Int)(sn:c6)(room:Int)(last:c6)(fi:Int)(hl:ns.length<=63):∀(as:List Int) (n:Nat) (bs:List Int) (g d:Sl),n+as.length<700000->(∀a∈as,a∈made)->bs.length+as.length<100->∃h:List Int,(∀c∈h,c∈made)/\h.length=as.length/\∃f k,WW (gN 9) ZD (as.map .int) (nst ns n rows made sn room last fi bs g d)=b3 (.nx (nst ns (n+as.length) rows made sn room last fi (bs++h) f k))
 |[],n,bs,g,d,_,_,_=>⟨[],by simp,rfl,g,d,by simp⟩
 | a :: as,n,bs,g,d,p,l,q => by
  simp only[Bw]at p q;obtain⟨b,j,i,e⟩:=mJ ns n rows made sn room last fi bs a d hl (by lia) (l a Au) (by lia);obtain⟨h,h1,h2,f,k,m⟩:=FM ns rows made sn room last fi hl as (n+1) (bs++[b]) (.va (.int a)) i (by lia) (λx o=>l x (Am _ o)) (by simp;lia);refine⟨b::h,λc hc=>?_,by simp[h2],f,k,?_⟩
  ·rcases Ak.mp hc with rfl|hc
   ·exact j
   ·exact h1 c hc
  rw[Ba,R0,GZ,N2,show(nst ns n rows made sn room last fi bs g d).set 9 (.va (.int a))=nst ns n rows made sn room last fi bs (.va (.int a)) d from rfl,e,N3,m];simp[Tb,Qf 1]
def cel4{x:String}(h:onC x):(decide ("load"=x) || (decide ("take"=x) || (decide ("store"=x) || decide ("put"=x))))=ba:=by
 rcases h with rfl|rfl|rfl|rfl<;>decide
def snM{m k:Nat}{d:c6}(h:Sn m d)(hk:m<=k):Sn k d:=by obtain⟨ks,vs,e,h1,h2,a⟩:=h;exact⟨ks,vs,e,h1,h2,by lia⟩
def OV(ns:List Int)(n:Nat)(rows:List c6)(made:List Int)(sn:c6)(room:Int){x:String}{p:Int}{as:List Int}{m:Nat}(hl:ns.length<=63)(A:n<600000)(B:m<8000000)(s:Sn m sn)(j:0<room)(r:onC x)(y:UA rows (-1)=b3 (.tup (.str x:: .int p::as.map .int)))(t:∀a∈as,a∈made)(E:as.length<=3):∃(q:Int) (b:List Int) (f:c6),0<=q/\q<room/\(∀c∈b,c∈made)/\b.length=as.length/\Sn (m+1) f/\ZU [V6 ns,XT n,.lst rows,.lst (made.map .int),sn,.int room]=b3 (.tup (.str x:: .int q::b.map .int),[XT (n+as.length),f]):=by
 obtain⟨b,h1,h2,z,l,e⟩:=FM ns rows made sn room (.tup (.str x:: .int p::as.map .int)) 2 hl as n [] .no .no (by lia) t (by simp;lia);simp only[nst,Fc,Et]at e;obtain⟨ks,vs,rfl,k1,k2,k3⟩:=s;obtain⟨g,d,pe,w,v,D,C,u⟩:=putI ks vs (.inr (x:Ue)) ((p+1) % room) k1 k2;have hk:ks.length<16777216:=by lia
 refine⟨(p+1) % room,b,.dct g (d.map .int),Hu _ (by lia),Fe _ j,h1,h2,⟨g,d,rfl,w,v,by lia⟩,?_⟩;unfold ZU;rw[bK,VM.eq_1];have h:=cel4 r;have o:V7 (.str x:: .int p::as.map c6.int) (b3 2) b4=as.map c6.int:=by
  have:=TW (ds:=.str x:: .int p::as.map c6.int) (k:=2) (by simp)
  simpa using this
 have i:2+b.length<=16777216:=by lia
 simp[bG,y,h,o,e,j,hk,k2,pe,u,i]
def off4{x:String}(h:¬onC x):(¬x= "load" /\¬ "load"=x)/\(¬x= "take" /\¬ "take"=x)/\(¬x= "store" /\¬ "store"=x)/\¬x= "put" /\¬ "put"=x:=by refine⟨⟨λz=>h (.inl z),λz=>h (.inl z.symm)⟩,⟨λz=>h (.inr (.inl z)),λz=>h (.inr (.inl z.symm))⟩,⟨λz=>h (.inr (.inr (.inl z))),λz=>h (.inr (.inr (.inl z.symm)))⟩,λz=>h (.inr (.inr (.inr z))),λz=>h (.inr (.inr (.inr z.symm)))⟩
def HH(ns:List Int)(n:Nat)(rows:List c6)(made:List Int)(sn:c6)(room:Int){x:String}{as:List Int}(hl:ns.length<=63)(s:n<600000)(o:¬onC x)(q:UA rows (-1)=b3 (.tup (.str x::as.map .int)))(p:∀a∈as,a∈made)(t:as.length<=3):∃b:List Int,(∀c∈b,c∈made)/\b.length=as.length/\ZU [V6 ns,XT n,.lst rows,.lst (made.map .int),sn,.int room]=b3 (.tup (.str x::b.map .int),[XT (n+as.length),sn]):=by
 obtain⟨b,h1,h2,r,j,e⟩:=FM ns rows made sn room (.tup (.str x::as.map .int)) 1 hl as n [] .no .no (by lia) p (by simp;lia);simp only[nst,Fc,Et]at e;refine⟨b,h1,h2,?_⟩;unfold ZU;rw[bK,VM.eq_1];obtain⟨⟨_,i⟩,⟨_,h⟩,⟨_,g⟩,_,f⟩:=off4 o;have m:V7 (.str x::as.map c6.int) (b3 1) b4=as.map c6.int:=by
  have:=TW (ds:=.str x::as.map c6.int) (k:=1) (by simp)
  simpa using this
 have l:V7 (.str x::as.map c6.int) b4 (b3 1)=[.str x]:=by
  have:=QY (ds:=.str x::as.map c6.int) (k:=1)
  simpa using this
 have d:1+b.length<=16777216:=by lia
 simp[bG,q,i,h,g,f,m,l,e,d]
def kE(ns:List Int)(n:Nat)(rows:List c6)(made:List Int)(sn:c6)(room:Int){last:c6}{m:Nat}(hl:ns.length<=63)(o:n<600000)(t:m<8000000)(l:Sn m sn)(s:0<room)(B:room<=64)(r:UA rows (-1)=b3 last)(ok:aZ (· ∈made) last)(A:∀k,last≠ .tup [.str "number",.int k]):∃row n' g,n<=n'/\n'<=n+3/\Sn (m+1) g/\aZ (· ∈made) row/\ZU [V6 ns,XT n,.lst rows,.lst (made.map .int),sn,.int room]=b3 (row,[XT n',g]):=by
 cases ok with
 |number=>exact absurd rfl (A _)
 | @two x a b y j w=>
  obtain⟨i,h1,h2,e⟩:=HH ns n rows made sn room (x:=x) (as:=[a,b]) hl o (EU y) r (by simp[j,w]) (by simp);match i,h2 with
  |[c,d],_=>exact⟨_,n+2,sn,by lia,by lia,snM l (by lia),.two y (h1 c (by simp)) (h1 d (by simp)),e⟩
 | @pick c a b hc j w=>
  obtain⟨i,h1,h2,e⟩:=HH ns n rows made sn room (x:= "pick") (as:=[c,a,b]) hl o (λz=>by rcases z with z|z|z|z<;>exact absurd z (by decide)) r (by simp[j,w,hc]) (by simp);match i,h2 with
  |[c,d,f],_=>exact⟨_,n+3,sn,by lia,by lia,snM l (by lia),.pick (h1 c (by simp)) (h1 d (by simp)) (h1 f (by simp)),e⟩
 | @load p v u=>
  obtain⟨q,i,g,q0,q1,h1,h2,h,e⟩:=OV ns n rows made sn room (x:= "load") (p:=p) (as:=[]) hl o t l s (.inl rfl) r (by simp) (by simp);match i,h2 with
  |[],_=>exact⟨_,n+0,g,by lia,by lia,h,.load q0 (by lia),e⟩
 | @take p c a v u hc j=>
  obtain⟨q,i,g,q0,q1,h1,h2,h,e⟩:=OV ns n rows made sn room (x:= "take") (p:=p) (as:=[c,a]) hl o t l s (.inr (.inl rfl)) r (by simp[hc,j]) (by simp);match i,h2 with
  |[c,d],_=>exact⟨_,n+2,g,by lia,by lia,h,.take q0 (by lia) (h1 c (by simp)) (h1 d (by simp)),e⟩
 | @store p a v u j=>
  obtain⟨q,i,g,q0,q1,h1,h2,h,e⟩:=OV ns n rows made sn room (x:= "store") (p:=p) (as:=[a]) hl o t l s (.inr (.inr (.inl rfl))) r (by simp[j]) (by simp);match i,h2 with
  |[c],_=>exact⟨_,n+1,g,by lia,by lia,h,.store q0 (by lia) (h1 c (by simp)),e⟩
 | @put p a c v u j hc=>
  obtain⟨q,i,g,q0,q1,h1,h2,h,e⟩:=OV ns n rows made sn room (x:= "put") (p:=p) (as:=[a,c]) hl o t l s (.inr (.inr (.inr rfl))) r (by simp[j,hc]) (by simp);match i,h2 with
  |[c,d],_=>exact⟨_,n+2,g,by lia,by lia,h,.put q0 (by lia) (h1 c (by simp)) (h1 d (by simp)),e⟩
structure RI(rows:List c6)(made:List Int)(kds:List Kd):Prop where
 bl:Bl [] rows kds
 ex:∀a,a∈made↔Nm kds .w a
 ml:made.length<=rows.length
def RI.len{rows:List c6}{made:List Int}{kds:List Kd}(h:RI rows made kds):kds.length=rows.length:=by
 have:=h.bl.len
 simpa using this
def iG{kds:List Kd}{k:Kd}{a:Int}:Nm (kds++[k]) .w a↔Nm kds .w a∨(k=.w/\a=kds.length):=by
 constructor
 ·intro h
  have b:=h.1;have hl:=h.lt;rw[Bv,Eb]at hl;by_cases hi:a.toNat<kds.length
  ·exact .inl ⟨b,by have:=h.2;rwa[An hi]at this⟩
  ·have hi : a.toNat = kds.length := by lia
   have e:=h.2;rw[hi]at e;simp at e;exact .inr ⟨e,by lia⟩
 ·rintro (h|⟨rfl,rfl⟩)
  ·exact h.snoc
  ·exact Nm.new
def RI.more{rows:List c6}{made:List Int}{kds:List Kd}{row:c6}(h:RI rows made kds)(r:aZ (· ∈made) row):RI (rows++[row]) (if LQ .w row=.w then made++[(rows.length:Int)]else made) (kds++[LQ .w row]):=by
 refine⟨h.bl.snoc (r.imp λa b=>(h.ex a).mp b),λa=>?_,?_⟩
 ·rw[iG,<- h.ex a,h.len]
  split
  ·rename_i e
   simp[e]
  ·rename_i e
   simp[e]
 ·have:=h.ml
  split<;>simp<;>lia
theorem RI.last{b:List c6}{last:c6}{made:List Int}{kds:List Kd}(h:RI (b++[last]) made kds):aZ (· ∈made) last:=(h.bl.all last (by simp)).imp λa c=>(h.ex a).mpr c
noncomputable def PH(ns:List Int)(n:Nat)(b room:Int)(rows:List c6)(made:List Int)(sn:c6)(a:Sl):Ev:=
 [.va (V6 ns),.ow (XT n),.va (.int b),.va (.int room),.ow (.lst rows),.ow (.lst (made.map .int)),.ow sn,a]
theorem LC:∀vs:List Int,U8 (vs.map .int)=ba
 |[]=>rfl
 |_::vs=>by show((c6.int _).hard&&U8 (vs.map .int))=ba;rw[LC vs];rfl
def EN{m:Nat}{sn:c6}(h:Sn m sn):UM sn=ba:=by obtain⟨ks,vs,rfl,_⟩:=h;exact LC vs
def DN{row:c6}(x:String)(t:List c6)(e:row=.tup (.str x::t)):LQ .w row=.w↔ ¬(x= "store" ∨x= "put"):=by
 subst e;by_cases h:x= "store" ∨x= "put"
 ·rw[jT h];simp[h]
 ·have : x ∉ ["store","put"] := by simpa using h
  rw[fM this];simp[h]
def jV(ns:List Int)(n:Nat)(r room:Int){rows:List c6}{made:List Int}{kds:List Kd}{sn:c6}{m:Nat}(A:Sl)(hl:ns.length<=63)(I:n<600000)(J:m<8000000)(s:Sn m sn)(H:0<room)(v:room<=64)(R:RI rows made kds)(B:rows≠[])(M:rows.length<1000):∃q C K n' a,RI q C K/\rows.length<=q.length/\((rows.length:Int)<=r->(q.length:Int)<=r)/\q.length<=rows.length+1/\n<=n'/\n'<=n+3/\Sn (m+1) a/\ZF (PH ns n r room rows made sn A)=b3 (.nx (PH ns n' r room q C a A)):=by
 obtain⟨h,last,rfl⟩:∃h last,rows=h++[last]:=⟨rows.dropLast,rows.getLast B,(Je B).symm⟩;have ok:=R.last;have p:=QU h last;have w:made.length<16777216:=by have:=R.ml;lia
 have f:(h++[last]).length<16777216:=by lia
 generalize L:h++[last]=rows at*;obtain⟨x,t,o,_⟩:=N5 ok;by_cases h1:(rows.length:Int)<r
 ·by_cases h2:x= "number"
  ·refine ⟨rows,made,kds,n,sn,R,Aq _,id,by lia,by lia,by lia,snM s (by lia),?_⟩
   unfold ZF;simp[PH,h1,p,o,h2]
  ·obtain ⟨row,n',a,G,F,i,c,e⟩ := kE ns n rows made sn room hl I J s H v p ok (λk z => by rw [o]at z;simp [VN]at z;exact h2 z.1)
   obtain⟨y,u,l,_⟩:=N5 c;have g:=QU rows row;refine⟨_,_,_,n',a,R.more c,by simp,by simp;lia,by simp,G,F,i,?_⟩;unfold ZF;have key:=DN y u l;have b:=c.hard;rw[l]at b;have d:=EN i;by_cases j:y= "store" ∨y= "put"
   ·rw [if_neg (by rw [key];simp [j])]
    rcases j with rfl|rfl
    ·simp[PH,h1,p,o,h2,e,g,l,f,b,d]
    ·simp[PH,h1,p,o,h2,e,g,l,f,b,d]
   ·rw [if_pos (by rw [key];exact j)]
    have E:¬ "store"=y:=λz=>j (.inl z.symm);have D:¬ "put"=y:=λz=>j (.inr z.symm);simp[PH,h1,p,o,h2,e,g,l,f,b,d,E,D,w]
 ·refine ⟨rows,made,kds,n,sn,R,Aq _,id,by lia,by lia,by lia,snM s (by lia),?_⟩
  unfold ZF;simp[PH,h1]
theorem Xu(ns:List Int)(b room:Int)(hl:ns.length<=63)(q:0<room)(h:room<=64):∀(ds:List c6) (n:Nat) {rows:List c6}{made:List Int}{kds:List Kd}{sn:c6}{m:Nat}(g:Sl),n+3*ds.length<600000->m+ds.length<8000000->Sn m sn->RI rows made kds->rows≠[]->rows.length+ds.length<1000->∃f i o n' a c,RI f i o/\rows.length<=f.length/\((rows.length:Int)<=b->(f.length:Int)<=b)/\n<=n'/\n'<=n+3*ds.length/\Sn (m+ds.length) a/\WW (gN 7) ZF ds (PH ns n b room rows made sn g)=b3 (.nx (PH ns n' b room f i a c))
 |[],n,rows,made,kds,sn,m,g,_,_,l,R,_,_=>⟨rows,made,kds,n,sn,g,R,Aq _,id,by lia,by simp,l,by simp⟩
 |d::ds,n,rows,made,kds,sn,m,g,u,v,l,R,r,hz=>by simp only[Bw]at u v hz;obtain⟨E,D,C,t,s,A,p,y,J,a4,I,j,w⟩:=jV ns n b room (.va d) hl (by lia) (by lia) l q h R r (by lia);obtain⟨f,i,o,n',a,c,B,H,x,G,F,k,e⟩:=Xu ns b room hl q h ds t (.va d) (by lia) (by lia) j A (λz=>by rw[z]at p;simp at p;exact r p) (by lia);refine⟨f,i,o,n',a,c,B,by lia,λz=>x (y z),by lia,by simp only[Bw];lia,snM k (by simp only[Bw];lia),?_⟩;rw[R0,GZ,N2,show(PH ns n b room rows made sn g).set 7 (.va d)=PH ns n b room rows made sn (.va d) from rfl,w,N3,e]
def gI(ns:List Int)(n:Nat)(o room:Int){rows:List c6}{made:List Int}{kds:List Kd}{sn:c6}(A:Sl)(hl:ns.length<=63)(P:n<500000)(H:M3 n sn)(D:0<room)(q:room<=64)(R:RI rows made kds)(I:(rows.length:Int)<o)(K:o<=40):∃m s w n' a d,RI m s w/\rows.length<m.length/\(m.length:Int)<=o/\n<=n'/\n'<=n+20/\M3 n' a/\XB (PH ns n o room rows made sn A)=b3 (.nx (PH ns n' o room m s a d)):=by
 obtain⟨row,B,G,S,Q,p,f,_,e⟩:=Ws ns n made sn room hl (by lia) H D q;obtain⟨x,C,ex⟩:=YZ ns B [.int 0,.int 1,.int 1,.int 2,.int 3] hl (by lia) (by simp);obtain⟨k,rfl,k0,k3⟩:∃k:Nat,x=.int k/\0<=k/\k<=3:=by
  simp only[Ak,Ax,or_false]at C;rcases C with rfl|rfl|rfl|rfl|rfl
  ·exact⟨0,rfl,by lia,by lia⟩
  ·exact⟨1,rfl,by lia,by lia⟩
  ·exact⟨1,rfl,by lia,by lia⟩
  ·exact⟨2,rfl,by lia,by lia⟩
  ·exact⟨3,rfl,by lia,by lia⟩
 have N:=R.more f;have h:rows.length<16777216:=by lia
 have v:made.length<16777216:=by have:=R.ml;lia
 have J:(ZN 0 k).length=k:=pS k;obtain⟨m,s,w,n',a,d,O,M,L,U,T,t,c⟩:=Xu ns o room hl D q (ZN 0 k) (B+1) A (by lia) (by lia) p N (by simp) (by simp;lia);refine⟨m,s,w,n',a,d,O,by simp at M;lia,L (by simp;lia),by lia,by lia,snM t (by lia),?_⟩;obtain⟨y,u,l,_⟩:=N5 f;have i:=QU rows row;have key:=DN y u l;have b:=f.hard;rw[l]at b;have g:=EN p;have j:(-4611686018427387904:Int)<=k/\(k:Int)<4611686018427387904:=by lia
 unfold XB;by_cases r:y= "store" ∨y= "put"
 ·rw [if_neg (by rw [key];simp [r])]at c
  simp only[PH]at c;rw[l]at c;rcases r with rfl|rfl
  ·simp[PH,e,i,l,h,b,g,ex,j,c]
  ·simp[PH,e,i,l,h,b,g,ex,j,c]
 ·rw [if_pos (by rw [key];exact r)]at c
  simp only[PH,Gd,Ba,Et]at c;rw[l]at c;have F:¬ "store"=y:=λz=>r (.inl z.symm);have E:¬ "put"=y:=λz=>r (.inr z.symm);simp[PH,e,i,l,h,b,g,ex,j,F,E,v,c]
def RQ{t:VB}{g:VS}{k:Nat}{δ δ1 δ2:Ev}(h:t δ=b3 (ba,δ1))(h2:g δ1=b3 (.nx δ2)):bA t g (k+1) δ=bA t g k δ2:=by show((t δ).bind λp=>if p.1=ba then(g p.2).bind (YE (bA t g k))else b3 (.nx p.2))=_;rw[h,Ar];show(if ba=ba then(g δ1).bind (YE (bA t g k))else _)=_;rw[if_pos rfl,h2];rfl
def RP{t:VB}{g:VS}{k:Nat}{δ δ1:Ev}(h:t δ=b3 (bb,δ1)):bA t g (k+1) δ=b3 (.nx δ1):=by show((t δ).bind λp=>if p.1=ba then(g p.2).bind (YE (bA t g k))else b3 (.nx p.2))=_;rw[h];rfl
theorem Wy(ns:List Int)(a room:Int)(hl:ns.length<=63)(p:0<room)(h:room<=64)(i:a<=40):∀(f:Nat) (n:Nat) {rows:List c6}{made:List Int}{kds:List Kd}{sn:c6}(d:Sl),a-rows.length<=f->(rows.length:Int)<=a->n+20*f<500000->M3 n sn->RI rows made kds->∃j k m n' b c,RI j k m/\(j.length:Int)=a/\n<=n'/\n'<=n+20*f/\bA (fB (f2 oLt (f1 Y8 (fO 4)) (fV 2))) XB (f+1) (PH ns n a room rows made sn d)=b3 (.nx (PH ns n' a room j k b c))
 |0,n,rows,made,kds,sn,d,h1,h2,t,o,R=>by
  refine⟨rows,made,kds,n,sn,d,R,by lia,by lia,by lia,RP ?_⟩;have:¬(rows.length:Int)<a:=by lia
  simp[PH,this]
 | f + 1,n,rows,made,kds,sn,d,h1,h2,t,o,R => by
  by_cases g:(rows.length:Int)<a
  ·obtain ⟨B,A,z,s,r,q,x,F,w,E,a4,l,u⟩ := gI ns n a room d hl (by lia) o p h R g i
   obtain⟨j,k,m,n',b,c,y,v,D,C,e⟩:=Wy ns a room hl p h i f s q (by lia) w (by lia) l x;refine⟨j,k,m,n',b,c,y,v,by lia,by lia,?_⟩;rw[RQ (δ1:=PH ns n a room rows made sn d) (by simp[PH,g]) u,e]
  ·refine ⟨rows,made,kds,n,sn,d,R,by lia,by lia,by lia,RP ?_⟩
   simp[PH,g]
def iW(ns:List Int)(n:Nat)(b room:Int)(hl:ns.length<=63)(k:n<400000)(f:0<room)(c:room<=64)(g:0<=b)(d:b<=40):∃rows kds n',Bl [] rows kds/\(rows.length:Int)=b/\n<=n'/\n'<=n+20*40/\X0 [V6 ns,XT n,.int b,.int room]=b3 (.tup rows,[XT n']):=by obtain⟨rows,made,kds,n',sn,j,R,i,h,l,e⟩:=Wy ns b room hl f c d b.toNat n (rows:=[]) (made:=[]) (kds:=[]) (sn:=.dct [] []) .no (by simp;lia) (by simpa using g) (by lia) ⟨[],[],rfl,rfl,Sc,Ep _⟩ ⟨.nil,λa=>by simp[Nm],by simp⟩;refine⟨rows,kds,n',R.bl,i,h,by lia,?_⟩;have e:=QJ e;simp only[PH,Et]at e;unfold X0;rw[bK,SD.eq_1];simp[bG,e]
def pB{f g:VF}{δ δ1 δ2:Ev}{i j:Int}(h1:f δ=b3 (.int i,δ1))(h2:g δ1=b3 (.int j,δ2))(a:(-4611686018427387904<=i/\i<4611686018427387904)/\ -4611686018427387904<=j/\j<4611686018427387904):iR2 f g δ=b3 (ZN i (j-i).toNat,δ2):=by unfold iR2;rw[h1,Ar,h2,Ar];exact if_pos a
theorem OM(a:Nat)(tb:VB)(p:c6->Bool)(fe:VF)(f:c6->c6)(δ:Ev)(b:δ.length=a):∀(ds acc:List c6),(∀d∈ds,tb (δ++[Sl.va d])=b3 (p d,δ++[Sl.va d])/\(p d=ba->fe (δ++[Sl.va d])=b3 (f d,δ++[Sl.va d])))->acc.length+ds.length<16777216->ZW a 1 (gN a) tb fe ds acc δ=b3 (acc++(ds.filter p).map f,δ)
 |[],acc,_,_=>by simp
 | d :: ds,acc,h,hl => by
  have j:(δ++[Sl.no]).set a (.va d)=δ++[Sl.va d]:=by rw[Ft _ _ (by lia)];simp[b]
  have k:(δ++[Sl.va d]).take a=δ:=by rw[Dx (by lia),Cn (by lia)]
  have l:acc.length<16777216:=by simp at hl;lia
  obtain⟨h1,h2⟩:=h d Au;cases c:p d with
  |true=>
   have g:=OM a tb p fe f δ b ds (acc++[f d]) (λe i=>h e (Am _ i)) (by simp at hl⊢;lia);have h2:=h2 c;rw[c]at h1;simp only[QW,Ve,GZ,j,HX,h1,Vd,h2,Va,if_pos l,k,g];simp[c]
  |false=>
   have g:=OM a tb p fe f δ b ds acc (λe i=>h e (Am _ i)) (by simp at hl⊢;lia);rw[c]at h1;simp only[QW,Ve,GZ,j,HX,h1,Wm,k,g];simp[c]
def aZ.ints{M:Int->Prop}{row:c6}(h:aZ M row):∃(x:String) (a:Int) (as:List Int),row=.tup (.str x:: .int a::as.map .int)/\(x= "over" ->∃b,as=[b]/\M b):=by
 cases h with
 | @number n _ _=>exact⟨"number",n,[],rfl,λz=>absurd z (by decide)⟩
 | @two x a b e f d=>exact⟨x,a,[b],rfl,λ_=>⟨b,rfl,d⟩⟩
 | @pick c a b _ _ _=>exact⟨"pick",c,[a,b],rfl,λz=>absurd z (by decide)⟩
 | @load p _ _=>exact⟨"load",p,[],rfl,λz=>absurd z (by decide)⟩
 | @take p c a _ _ _ _=>exact⟨"take",p,[c,a],rfl,λz=>absurd z (by decide)⟩
 | @store p a _ _ _=>exact⟨"store",p,[a],rfl,λz=>absurd z (by decide)⟩
 | @put p a c _ _ _ _=>exact⟨"put",p,[a,c],rfl,λz=>absurd z (by decide)⟩
theorem UK{k:Nat}:∀as:List Int,∀d∈as.map c6.int,QH k d
 |[],d,h=>nomatch h
 |a::as,d,h=>by
  rcases Ak.mp h with rfl|h
  ·exact YI
  ·exact UK as d h
def EE{M:Int->Prop}{row:c6}(h:aZ M row):QH 1 row:=by obtain⟨x,a,as,rfl,_⟩:=h.ints;exact OW (Z7 YY (Z7 YI (UK as)))
def Wg{sure:Int}{rows:List c6}{kds:List Kd}(t:Bl [] rows kds){i:Int}(G:0<=i)(h1:i<rows.length):∃b,ZC [.tup [.int sure,.tup rows],.int i]=b3 (.bl b,[]):=by
 have O:kds.length=rows.length:=by simpa using t.len
 obtain⟨row,H,u⟩:∃row∈rows,UA rows i=b3 row:=by
  have hi:i.toNat<rows.length:=by lia
  exact⟨rows[i.toNat],Mc hi,by rw[UB G h1];simp[hi]⟩
 have ok:=t.all row H;obtain⟨x,a,as,rfl,o⟩:=ok.ints;unfold ZC;rw[bK];unfold P7;by_cases v:onC x
 ·have D:=cel4 v
  exact⟨_,by simp[bG,u,D];rfl⟩
 ·obtain⟨⟨_,B⟩,⟨_,A⟩,⟨_,z⟩,_,y⟩:=off4 v
  by_cases p:x= "over"
  ·obtain⟨b,rfl,c⟩:=o p
   subst p;have L:=c.1;have N:=c.lt;obtain⟨C,n,J⟩:∃row∈rows,UA rows b=b3 row:=by
    have hi:b.toNat<rows.length:=by lia
    exact⟨rows[b.toNat],Mc hi,by rw[UB L (by lia)];simp[hi]⟩
   obtain⟨l,m,h,rfl,_⟩:=(t.all C n).ints;have E:V7 (.str l:: .int m::h.map c6.int) b4 (b3 2)=[.str l,.int m]:=by
    have:=QY (ds:=.str l:: .int m::h.map c6.int) (k:=2)
    simpa using this
   have I:∀δ,iR2 (fC (.int 1)) (fC (.int 1000)) δ=b3 (ZN 1 ((1000:Int)-1).toNat,δ):=λδ=>pB (f:=fC (.int 1)) (g:=fC (.int 1000)) (δ:=δ) (δ1:=δ) (δ2:=δ) (i:=1) (j:=1000) rfl rfl (by lia);have w:=M8 0 (cJ (c7 (fC (.str "number")) (c7 (fV 0) cR))) [] (λd=>.tup [.str "number",d]) rfl (ZN 1 ((1000:Int)-1).toNat) [] (λd _=>by simp) (by simp[ZN]);have r:∀neg,∃b,Z2 neg (.tup [.str l,.int m]) (.lst ((ZN 1 ((1000:Int)-1).toNat).map λd=>.tup [.str "number",d]))=b3 (.bl b):=λneg=>⟨_,JZ (j:=1) (k:=1) (OW (Z7 YY (Z7 YI YK))) (λe F=>by
    obtain⟨d,hd,rfl⟩:=Cu.mp F;obtain⟨q,rfl⟩:∃q,d=.int q:=by unfold ZN at hd;obtain⟨q,_,rfl⟩:=Cu.mp hd;exact⟨_,rfl⟩
    exact OW (Z7 YY (Z7 YI YK)))⟩
   obtain⟨K,s⟩:=r ba;simp only[Fc]at w;generalize (ZN 1 ((1000:Int)-1).toNat).map (λd=>c6.tup [.str "number",d])=big at*;generalize ZN 1 ((1000:Int)-1).toNat=M at*;exact⟨K,by simp -implicitDefEqProofs [bG,u,J,E,aV,I,w,s]⟩
  ·exact⟨bb,by simp[bG,u,B,A,z,y,p]⟩
def Z8(p:Int×Int):c6:=.tup [.int p.1,.int p.2]
noncomputable def M5:c6:=.tup [.str "load",.str "take",.str "store",.str "put"]
def QC(a:c6)(ps:List (Int×Int))(j:Int)(there:Sl)(e d c b:Sl):Ev:=
 [.va a,.ow (.lst (ps.map Z8)),.va M5,.va (.int j),there,e,d,c,b]
def jK{bs:List Bool}:Z2 bb (.bl ba) (.lst (bs.map .bl))=b3 (.bl (bs.any id)):=by
 rw[JZ (j:=0) (k:=0) Xd (λe c=>by obtain⟨b,_,rfl⟩:=Cu.mp c;exact Xd)]
 induction bs with
 |nil=>rfl
 |cons b bs a=>
  have e:eqD (.bl b) (.bl ba)=b:=by cases b<;>rfl
  simp only[Ba,Uw,Jb,id,e];simp only[De,if_false,Ky,c6.bl.injEq]at a⊢;rw[a]
theorem DG{i:Int}:∀{as:List Int},i∈as->LG (.int i) (as.map .int)=ba
 |q::as,h=>by
  simp only[Ba,Uw];rcases Ak.mp h with rfl|h
  ·simp
  ·simp[DG h]
noncomputable def wrT:c6->Bool
 |.tup (.str x::_)=>decide (Be "store"=x) || decide (Be "put"=x)
 |_=>bb
def N9{s1 a:VS}{δ δ1:Ev}{r:Option Ou}(h1:s1 δ=b3 (.nx δ1))(h2:a δ1=r):cK s1 a δ=r:=by rw[Y9,h1,TF,h2]
def iC{sure:Int}{rows:List c6}{kds:List Kd}(r:Bl [] rows kds)(ps:List (Int×Int)){i j:Int}{here there:c6}(V:0<=i)(U:i<rows.length)(T:0<=j)(S:j<rows.length)(hh:here∈rows)(W:there∈rows){as:List Int}(hn:aT [there]=b3 (.lst (as.map .int),[]))(L E:Sl)(hp:ps.length<1000000):∃(c:Bool) (K J:Sl),(i∈as->c=ba)/\W8 (QC (.tup [.int sure,.tup rows]) ps j (.va there) (.va (.int i)) (.va here) L E)=b3 (.nx (QC (.tup [.int sure,.tup rows]) (ps++if c then[(i,j)]else[]) j (.va there) (.va (.int i)) (.va here) K J)):=by
 obtain⟨f,I⟩:=Wg (sure:=sure) r V U;obtain⟨l,H⟩:=Wg (sure:=sure) r T S;have q:=r.all here hh;have p:=r.all there W;have R:=EE q;have Q:=EE p;obtain⟨x,a,xs,G,_⟩:=q.ints;obtain⟨y,b,ys,F,_⟩:=p.ints;have B:Z2 bb (.int i) (.lst (as.map .int))=b3 (.bl (LG (.int i) (as.map .int))):=by rw[JZ (j:=0) (k:=0) YI (UK as)];simp
 have O:=DG (i:=i) (as:=as);generalize LG (.int i) (as.map .int)=bi at*;have D:∃w:List c6,ZW 0 1 (gN 0) (fB (f2 (Z2 bb) (f2 bL (fV 0) (fC (.int 0))) (cJ (c7 (fC (.str "store")) (c7 (fC (.str "put")) cR))))) (fV 0) [here,there] [] []=b3 (w,[])/\∀d∈w,QH 1 d:=by
  have c:=OM 0 (fB (f2 (Z2 bb) (f2 bL (fV 0) (fC (.int 0))) (cJ (c7 (fC (.str "store")) (c7 (fC (.str "put")) cR))))) wrT (fV 0) id [] rfl [here,there] [] (λd hd=>by
   simp only[Ak,Ax,or_false]at hd;rcases hd with rfl|rfl
   ·rw[G];simp[wrT,VN]
   ·rw[F];simp[wrT,VN]) (by simp)
  refine⟨_,c,λd hd=>?_⟩;simp only[Fc,List.map_id_fun,id,Hj,Ak,Ax,or_false]at hd;rcases hd.1 with rfl|rfl
  ·exact R
  ·exact Q
 obtain⟨w,D,P⟩:=D;have A:RU (.lst w) (.lst [])=b3 (.bl (!eqD (.lst w) (.lst []))):=DR (j:=2) (k:=0+1) (YJ P) (YJ YK);generalize (!eqD (.lst w) (.lst []))=m at*;have z:ps.length<16777216:=by lia
 have u:∃h,Z2 bb (.str x) M5=b3 (.bl h):=⟨_,Yn⟩;have s:∃e,Z2 bb (.str y) M5=b3 (.bl e):=⟨_,Yn⟩;have v:∃h,Z2 bb (.str x) (.tup [.str "store",.str "put"])=b3 (.bl h):=⟨_,DH⟩;have t:∃e,Z2 bb (.str y) (.tup [.str "store",.str "put"])=b3 (.bl e):=⟨_,DH⟩;obtain⟨h,u⟩:=u;obtain⟨e,s⟩:=s;obtain⟨o,v⟩:=v;obtain⟨n,t⟩:=t;subst G F;have g:=jK (bs:=[bi,f&&l,h&&(e&&(decide (a=b)&&m)),f&&n,l&&o]);simp only[Ba,Et]at g;refine⟨[bi,f&&l,h&&(e&&(decide (a=b)&&m)),f&&n,l&&o].any id,.va (.lst w),.ow (.lst [.bl bi,.bl (f&&l),.bl (h&&(e&&(decide (a=b)&&m))),.bl (f&&n),.bl (l&&o)]),?_,?_⟩
 ·intro hi
  rw[O hi];rfl
 ·unfold W8
  refine N9 (δ1:=QC (.tup [.int sure,.tup rows]) ps j (.va (.tup (.str y:: .int b::ys.map .int))) (.va (.int i)) (.va (.tup (.str x:: .int a::xs.map .int))) (.va (.lst w)) E) (by simp[QC,aV,D]) ?_;refine N9 (δ1:=QC (.tup [.int sure,.tup rows]) ps j (.va (.tup (.str y:: .int b::ys.map .int))) (.va (.int i)) (.va (.tup (.str x:: .int a::xs.map .int))) (.va (.lst w)) (.ow (.lst [.bl bi,.bl (f&&l)]))) ?_ ?_
  ·clear g
   cases f<;>simp[QC,hn,B,I,H]
  refine N9 (δ1:=QC (.tup [.int sure,.tup rows]) ps j (.va (.tup (.str y:: .int b::ys.map .int))) (.va (.int i)) (.va (.tup (.str x:: .int a::xs.map .int))) (.va (.lst w)) (.ow (.lst [.bl bi,.bl (f&&l),.bl (h&&(e&&(decide (a=b)&&m)))]))) ?_ ?_
  ·clear g
   cases h<;>cases e<;>by_cases C:a=b<;>simp[QC,u,s,A,C]
  refine N9 (δ1:=QC (.tup [.int sure,.tup rows]) ps j (.va (.tup (.str y:: .int b::ys.map .int))) (.va (.int i)) (.va (.tup (.str x:: .int a::xs.map .int))) (.va (.lst w)) (.ow (.lst [.bl bi,.bl (f&&l),.bl (h&&(e&&(decide (a=b)&&m))),.bl (f&&n)]))) ?_ ?_
  ·clear g
   generalize (h&&(e&&(decide (a=b)&&m)))=q3;cases f<;>simp[-DH,QC,I,t]
  refine N9 (δ1:=QC (.tup [.int sure,.tup rows]) ps j (.va (.tup (.str y:: .int b::ys.map .int))) (.va (.int i)) (.va (.tup (.str x:: .int a::xs.map .int))) (.va (.lst w)) (.ow (.lst [.bl bi,.bl (f&&l),.bl (h&&(e&&(decide (a=b)&&m))),.bl (f&&n),.bl (l&&o)]))) ?_ ?_
  ·clear g
   generalize (h&&(e&&(decide (a=b)&&m)))=q3;cases l<;>simp[-DH,QC,H,v]
  generalize (h&&(e&&(decide (a=b)&&m)))=q3 at*;generalize Z:(f&&l)=q1 at*;generalize Y:(f&&n)=N at*;generalize X:(l&&o)=M at*;generalize hc:[bi,q1,q3,N,M].any id=c at*;cases c
  ·simp[QC,g]
  ·simp[QC,g,z,Z8]
def P4(i:Nat)(d:c6)(ds:List c6):YG i (d::ds)=.tup [.int i,d]::YG (i+1) ds:=rfl
abbrev GP(a b:Nat):VG:=FE 2 (aL (gN a) (aL (gN b) V8))
theorem Vy{sure:Int}{rows:List c6}{kds:List Kd}(w:Bl [] rows kds){j:Int}{there:c6}(s:0<=j)(r:j<rows.length)(t:there∈rows){as:List Int}(u:aT [there]=b3 (.lst (as.map .int),[])):∀(a:List c6) (k:Nat) (ps:List (Int×Int)) (m l f b:Sl),(∀d∈a,d∈rows)->k+a.length<=rows.length->ps.length+a.length<1000000->∃(g:List (Int×Int)) (E D o n:Sl),(∀p∈g,p.2=j/\(k:Int)<=p.1/\p.1<k+a.length)/\(∀i∈as,(k:Int)<=i->i<k+a.length->(i,j)∈g)/\g.length<=a.length∧WW (GP 5 6) W8 (YG k a) (QC (.tup [.int sure,.tup rows]) ps j (.va there) m l f b)=b3 (.nx (QC (.tup [.int sure,.tup rows]) (ps++g) j (.va there) E D o n))
 |[],k,ps,m,l,f,b,_,_,_=>⟨[],m,l,f,b,by simp,λi _ h1 h2=>by simp at h2;lia,by simp,by simp[YG]⟩
 | h :: a,k,ps,m,l,f,b,v,hk,q => by
  simp only[Bw]at hk q;obtain⟨c,o,n,H,e⟩:=iC (sure:=sure) w ps (i:=(k:Int)) (j:=j) (here:=h) (there:=there) (by lia) (by lia) s r (v h Au) t u f b (by lia);obtain⟨g,C,B,A,y,q1,q2,q3,F⟩:=Vy w s r t u a (k+1) (ps++if c then[((k:Int),j)]else[]) (.va (.int k)) (.va h) o n (λd hd=>v d (Am _ hd)) (by lia) (by cases c<;>simp<;>lia);refine⟨(if c then[((k:Int),j)]else[])++g,C,B,A,y,?_,?_,?_,?_⟩
  ·intro p q
   simp only[Bw];rcases Bx.mp q with z|z
   ·cases c
    ·simp at z
    ·simp at z;subst z;exact⟨rfl,by simp,by simp;lia⟩
   ·obtain⟨x,J,I⟩:=q1 p z
    exact⟨x,by lia,by lia⟩
  ·intro i hi h1 h2
   simp only[Bw]at h2;by_cases G:i=k
   ·subst G
    rw[H hi];simp
   ·exact Bx.mpr (.inr (q2 i hi (by lia) (by lia)))
  ·cases c<;>simp<;>lia
  ·rw[P4,R0]
   have s1:GP 5 6 (.tup [.int k,h]) (QC (.tup [.int sure,.tup rows]) ps j (.va there) m l f b)=b3 (QC (.tup [.int sure,.tup rows]) ps j (.va there) (.va (.int k)) (.va h) f b):=by simp[QC]
   rw[s1,N2,e,N3,F,Ay]
structure Prs(rows:List c6)(ps:List (Int×Int)):Prop where
 lt:∀p∈ps,0<=p.1/\p.1<p.2/\p.2<rows.length
 nm:∀(j:Nat) (row:c6) (as:List Int),rows[j]?=b3 row->aT [row]=b3 (.lst (as.map .int),[])->∀i∈as,0<=i->i<j->(i,(j:Int))∈ps
def gC{as bs:List Int}(h:as.map c6.int=bs.map c6.int):as=bs:=by
 induction as generalizing bs with
 |nil=>cases bs with
  |nil=>rfl
  |cons=>simp at h
 | cons a as c => cases bs with
  |nil=>simp at h
  |cons b bs=>
   simp only[Ba,Ka,c6.int.injEq]at h;rw[h.1,c h.2]
theorem Xk{sure:Int}{rows:List c6}{kds:List Kd}(A:Bl [] rows kds)(B:rows.length<=40):∀(g:List c6) (k:Nat) (ps:List (Int×Int)) (C:Int) (n f c b a:Sl) (m:Sl),rows.drop k=g->k+g.length=rows.length->ps.length+40*g.length<10000->∃(v:List (Int×Int)) (O N u s r q:Sl),(∀p∈v,0<=p.1/\p.1<p.2/\p.2<rows.length)/\(∀(j:Nat) (row:c6) (as:List Int),k<=j->rows[j]?=b3 row->aT [row]=b3 (.lst (as.map .int),[])->∀i∈as,0<=i->i<j->(i,(j:Int))∈v)/\v.length<=40*g.length∧WW (GP 3 4) W9 (YG k g) [.va (.tup [.int sure,.tup rows]),.ow (.lst (ps.map Z8)),.va M5,m,n,f,c,b,a]=b3 (.nx [.va (.tup [.int sure,.tup rows]),.ow (.lst ((ps++v).map Z8)),.va M5,O,N,u,s,r,q])
 |[],k,ps,C,n,f,c,b,a,m,h1,h2,_=>by
  refine⟨[],m,n,f,c,b,a,by simp,λj row as h3 V=>?_,by simp,by simp[YG]⟩;have:=(Ag.mp V).1
  simp at h2;lia
 | t :: g,k,ps,C,n,f,c,b,a,m,h1,h2,x => by
  simp only[Bw]at h2 x;have D:t∈rows:=List.mem_of_mem_drop (by rw[h1];exact Au);have hk:rows[k]?=b3 t:=by
   have:(rows.drop k)[0]?=b3 t:=by rw[h1];rfl
   simpa using this
  obtain⟨as,_,_,E,_⟩:=FK (A.all t D);have F:(rows.take k).length=k:=by rw[Cr];lia
  obtain⟨h,u,s,r,q,q1,q2,q3,e⟩:=Vy (sure:=sure) A (j:=(k:Int)) (by lia) (by lia) D E (rows.take k) 0 ps f c b a (λd hd=>List.mem_of_mem_take hd) (by lia) (by lia);obtain⟨w,M,L,K,J,I,H,R,Q,Y,S⟩:=Xk A B g (k+1) (ps++h) 0 (.va t) u s r q (.va (.int k)) (by rw[<-Sb,h1];rfl) (by lia) (by simp;lia);refine⟨h++w,M,L,K,J,I,H,?_,?_,?_,?_⟩
  ·intro p x
   rcases Bx.mp x with z|z
   ·obtain⟨X,W,G⟩:=q1 p z
    rw[F]at G;exact⟨by lia,by lia,by lia⟩
   ·exact R p z
  ·intro j row bs Z o l i hi U T
   by_cases y:j=k
   ·subst y
    rw[hk]at o;injection o with o;subst o;rw[E]at l;have:as=bs:=gC (by simpa using l)
    subst this;exact Bx.mpr (.inl (q2 i hi (by lia) (by rw[F];lia)))
   ·exact Bx.mpr (.inr (Q j row bs (by lia) o l i hi U T))
  ·simp only[Bv,Bw];lia
  ·rw[P4,R0]
   have s1:GP 3 4 (.tup [.int k,t]) [.va (.tup [.int sure,.tup rows]),.ow (.lst (ps.map Z8)),.va M5,m,n,f,c,b,a]=b3 (QC (.tup [.int sure,.tup rows]) ps k (.va t) f c b a):=by simp[QC]
   have P:W9 (QC (.tup [.int sure,.tup rows]) ps k (.va t) f c b a)=b3 (.nx (QC (.tup [.int sure,.tup rows]) (ps++h) k (.va t) u s r q)):=by
    unfold W9;have hc:=QY (ds:=rows) (k:=k);rw[Zd];have:NI (DA (f2 bL (fV 0) (fC (.int 1))) pNo (DV (fV 3))) (QC (.tup [.int sure,.tup rows]) ps k (.va t) f c b a)=b3 (YG 0 (rows.take k),QC (.tup [.int sure,.tup rows]) ps k (.va t) f c b a):=by simp[QC,hc]
    rw[this,qF_s];exact e
   rw[s1,N2,P,N3];simp only[QC];rw[S,Ay]
theorem DY:∀ps:List (Int×Int),NZ (ps.map Z8)=b3 ps
 |[]=>rfl
 |p::ps=>by show(prD (Z8 p)).bind (λq=>(NZ (ps.map Z8)).map λa=>q::a)=_;rw[DY ps];rfl
def iJ(ps:List (Int×Int)):∃a:List (Int×Int),a.Perm ps/\FP (.lst (ps.map Z8))=b3 (.lst (a.map Z8)):=by
 refine⟨(IM ps).map λi=>ps.getD i (0,0),?_,?_⟩
 ·have h := (T7 ps).map λi => ps.getD i (0,0)
  refine h.trans ?_
  have:(Bf ps.length).map (λi=>ps.getD i (0,0))=ps:=by refine List.ext_getElem (by simp) λi h1 h2=>?_;simp at h1;simp[h1]
  rw[this]
 ·show (NZ (ps.map Z8)).bind (λa => b3 (c6.lst ((IM a).map λi => (ps.map Z8).getD i c6.non))) = _
  rw[DY,Ar,To];congr 2;refine Jv λi hi=>?_;have:i<ps.length:=Db.mp ((T7 ps).mem_iff.mp hi)
  simp[this]
def nC{sure:Int}{rows:List c6}{kds:List Kd}(g:Bl [] rows kds)(b:rows.length<=40):∃ps:List (Int×Int),Prs rows ps/\ps.length<=1600/\XZ [.tup [.int sure,.tup rows]]=b3 (.lst (ps.map Z8),[]):=by obtain⟨c,q,o,n,m,l,k,q1,q2,q3,e⟩:=Xk (sure:=sure) g b rows 0 [] 0 .no .no .no .no .no .no (by simp) (by simp) (by simp;lia);simp only[Et,Fc,M5]at e;obtain⟨ps,a,es⟩:=iJ c;refine⟨ps,⟨λp h=>q1 p (a.mem_iff.mp h),λj row as h1 h2 i hi f d=>a.mem_iff.mpr (q2 j row as (by lia) h1 h2 i hi f d)⟩,by rw[a.length_eq];lia,?_⟩;unfold XZ;rw[bK,R9.eq_1];simp[bG,e,es]
theorem QX(c:Nat)(tb:VB)(p:c6->Bool)(fe:VF)(f:c6->c6)(δ:Ev)(g:δ.length=c):∀(ds acc:List c6),(∀d∈ds,∃a b,d=.tup [a,b]/\tb (δ++[Sl.va a,Sl.va b])=b3 (p d,δ++[Sl.va a,Sl.va b])/\(p d=ba->fe (δ++[Sl.va a,Sl.va b])=b3 (f d,δ++[Sl.va a,Sl.va b])))->acc.length+ds.length<16777216->ZW c 2 (GP c (c+1)) tb fe ds acc δ=b3 (acc++(ds.filter p).map f,δ)
 |[],acc,_,_=>by simp
 | d :: ds,acc,h,hl => by
  obtain⟨a,b,rfl,h1,h2⟩:=h d Au;have l:GP c (c+1) (.tup [a,b]) (δ++[Sl.no,Sl.no])=b3 (δ++[Sl.va a,Sl.va b]):=by
   have o:(δ++[Sl.no,Sl.no]).set c (.va a)=δ++[Sl.va a,Sl.no]:=by rw[Ft _ _ (by lia)];simp[g]
   have n:(δ++[Sl.va a,Sl.no]).set (c+1) (.va b)=δ++[Sl.va a,Sl.va b]:=by rw[Ft _ _ (by lia),g,show c+1-c=1 by lia];rfl
   simp[o,n]
  have m:(δ++[Sl.va a,Sl.va b]).take c=δ:=by rw[Dx (by lia),Cn (by lia)]
  have q:acc.length<16777216:=by simp at hl;lia
  cases i:p (.tup [a,b])with
  |true=>
   have j:=QX c tb p fe f δ g ds (acc++[f (.tup [a,b])]) (λe k=>h e (Am _ k)) (by simp at hl⊢;lia);have h2:=h2 i;rw[i]at h1;simp only[QW,Vv,l,HX,h1,Vd,h2,Va,if_pos q,m,j];simp[i]
  |false=>
   have j:=QX c tb p fe f δ g ds acc (λe k=>h e (Am _ k)) (by simp at hl⊢;lia);rw[i]at h1;simp only[QW,Vv,l,HX,h1,Wm,m,j];simp[i]
noncomputable def ost(ns:List Int)(n:Nat)(a:c6)(ps:List (Int×Int))(left made:List Int)(b:Sl):Ev:=
 [.va (V6 ns),.ow (XT n),.va a,.va (.lst (ps.map Z8)),.ow (.lst (left.map .int)),.ow (.lst (made.map .int)),b]
noncomputable def pw(left:List Int)(r:Int):c6->Bool
 |.tup [.int a,.int b]=>decide (b=r)&&LG (.int a) (left.map .int)
 |_=>bb
theorem JU{i:Int}:∀{as:List Int},LG (.int i) (as.map .int)=ba↔i∈as
 |[]=>by simp
 |a::as=>by rw[Ba,Uw,Hs,jL,decide_eq_true_eq,JU (as:=as),Ak];exact⟨λh=>h.imp Eq.symm id,λh=>h.imp Eq.symm id⟩
def kS(ps:List (Int×Int))(left:List Int)(r:Int)(g:ps.length<16777216):ZW 2 2 (GP 2 3) (UC (fB (f2 WM (fV 3) (fV 1))) (fB (f2 (Z2 bb) (fV 2) (fO 0)))) (fC (.int 1)) (ps.map Z8) [] [.ow (.lst (left.map .int)),.va (.int r)]=b3 (((ps.map Z8).filter (pw left r)).map λ_=>.int 1,[.ow (.lst (left.map .int)),.va (.int r)]):=by
 have e:∀a:Int,Z2 bb (.int a) (.lst (left.map .int))=b3 (.bl (LG (.int a) (left.map .int))):=λa=>by rw[JZ (j:=0) (k:=0) YI (UK left)];simp
 have:=QX 2 (UC (fB (f2 WM (fV 3) (fV 1))) (fB (f2 (Z2 bb) (fV 2) (fO 0)))) (pw left r) (fC (.int 1)) (λ_=>.int 1) [.ow (.lst (left.map .int)),.va (.int r)] rfl (ps.map Z8) [] (λd hd=>by
  obtain⟨⟨a,b⟩,_,rfl⟩:=Cu.mp hd;refine⟨.int a,.int b,rfl,?_,λ_=>by simp⟩;have hi:=e a;have c:pw left r (Z8 (a,b))=(decide (b=r)&&LG (.int a) (left.map .int)):=rfl;rw[c];generalize left.map c6.int=L at*;by_cases f:b=r
  ·simp[f,hi]
  ·simp[f]) (by simpa using g)
 simpa using this
def FC{ds:List c6}:eqD (.lst ds) (.lst [])=ds.isEmpty:=by cases ds<;>rfl
def rdD(ps:List (Int×Int))(left:List Int):c6->Bool
 |.int r=>((ps.map Z8).filter (pw left r)).isEmpty
 |_=>bb
theorem NY{x:Int}:∀{ns:List Int},x∈ns->∃j,VT x ns=b3 j/\ns.eraseIdx j=ns.erase x
 | i :: ns,h => by
  unfold VT;by_cases e:i=x
  ·rw[if_pos e];exact⟨0,rfl,by simp[e]⟩
  ·rw[if_neg e]
   obtain⟨j,h1,h2⟩:=NY (ns:=ns) (by
    rcases Ak.mp h with z|z
    ·exact absurd z.symm e
    ·exact z)
   refine⟨j+1,by rw[h1];rfl,?_⟩;rw[List.eraseIdx_cons_succ,h2,List.erase_cons_tail (by simpa using e)]
def pI{x:Int}{ns:List Int}(h:x∈ns):mRem (ns.map .int) [.int x]=b3 ((ns.erase x).map .int):=by obtain⟨j,h1,h2⟩:=NY h;show(U9 (ns.map .int)).bind (λns=>(VT x ns).map λj=>(ns.eraseIdx j).map c6.int)=_;rw[P9,Ar,h1,Rs,h2]
def D9{ps:List (Int×Int)}{left:List Int}{r:Int}:rdD ps left (.int r)=ba↔ ∀p∈ps,p.2=r->p.1∉left:=by
 show((ps.map Z8).filter (pw left r)).isEmpty=ba↔_;rw[Ql,List.filter_eq_nil_iff];constructor
 ·intro h p a b hl
  have:=h (Z8 p) (Cu.mpr ⟨p,a,rfl⟩)
  refine this ?_;show(decide (p.2=r)&&LG (.int p.1) (left.map .int))=ba;rw[JU.mpr hl,b];simp
 ·intro h d hd z
  obtain⟨p,a,rfl⟩:=Cu.mp hd;have z:(decide (p.2=r)&&LG (.int p.1) (left.map .int))=ba:=z;rw[Af,decide_eq_true_eq,JU]at z;exact h p a z.1 z.2
def kP(ps:List (Int×Int))(left:List Int)(c:ps.length<16777216)(a:left.length<16777216):ZW 2 1 (gN 2) (fB (f2 WM (ZX [1,2] 2 (U5 (fV 0)) (FE 2 (aL (gN 2) (aL (gN 3) V8))) (UC (fB (f2 WM (fV 3) (fV 1))) (fB (f2 (Z2 bb) (fV 2) (fO 0)))) (fC (.int 1))) (bC cR))) (fV 2) (left.map .int) [] [.va (.lst (ps.map Z8)),.ow (.lst (left.map .int))]=b3 ((left.filter λr=>rdD ps left (.int r)).map .int,[.va (.lst (ps.map Z8)),.ow (.lst (left.map .int))]):=by
 have:=OM 2 (fB (f2 WM (ZX [1,2] 2 (U5 (fV 0)) (FE 2 (aL (gN 2) (aL (gN 3) V8))) (UC (fB (f2 WM (fV 3) (fV 1))) (fB (f2 (Z2 bb) (fV 2) (fO 0)))) (fC (.int 1))) (bC cR))) (rdD ps left) (fV 2) id [.va (.lst (ps.map Z8)),.ow (.lst (left.map .int))] rfl (left.map .int) [] (λd hd=>by
  obtain⟨r,_,rfl⟩:=Cu.mp hd;refine⟨?_,λ_=>by simp⟩;have w:=kS ps left r c;have b:WM (.lst (((ps.map Z8).filter (pw left r)).map λ_=>c6.int 1)) (.lst [])=b3 (.bl (rdD ps left (.int r))):=by
   rw[Wu (j:=1) (k:=1) (YJ λd hd=>by obtain⟨_,_,rfl⟩:=Cu.mp hd;exact YI) (YJ YK),FC,List.isEmpty_map]
   rfl
  generalize ((ps.map Z8).filter (pw left r)).map (λ_=>c6.int 1)=W at*;generalize rdD ps left (.int r)=B at*;generalize left.map c6.int=L at*;generalize ps.map Z8=Q at*;simp[aV,w,b]) (by simpa using a)
 rw[this,List.filter_map];simp[Function.comp_def]
def lO(ns:List Int)(n:Nat)(c:c6)(ps:List (Int×Int))(left made:List Int)(k:Sl)(hl:ns.length<=63)(F:n<800000)(h:left≠[])(g:left.Pairwise (· < ·))(i:∀p∈ps,p.1<p.2)(y:left.length<1000)(v:made.length<1000)(s:ps.length<10000):∃x∈left,(∀p∈ps,p.2=x->p.1∉left)/\∃e,ZZ (ost ns n c ps left made k)=b3 (.nx (ost ns (n+1) c ps (left.erase x) (made++[x]) e)):=by
 have q:=kP ps left (by lia) (by lia);have B:0<((left.filter λr=>rdD ps left (.int r)).map c6.int).length:=by
  match left,h,g with
  |a::t,_,g=>
   have:a∈((a::t).filter λr=>rdD ps (a::t) (.int r)):=by
    refine Hj.mpr ⟨Au,D9.mpr λp u A hi=>?_⟩;have h1:=i p u;rw[A]at h1;rcases Ak.mp hi with z|z
    ·lia
    ·have:=(List.pairwise_cons.mp g).1 _ z
     lia
   rw[Ci];exact List.length_pos_of_mem this
 obtain⟨d,hd,C⟩:=YZ ns n ((left.filter λr=>rdD ps left (.int r)).map .int) hl (by lia) B;obtain⟨x,o,rfl⟩:=Cu.mp hd;obtain⟨b,f⟩:=Hj.mp o;have w:=pI b;have j:=QU (made.map c6.int) (.int x);have l:made.length<16777216:=by lia
 refine⟨x,b,D9.mp f,.va (.lst ((left.filter λr=>rdD ps left (.int r)).map .int)),?_⟩;unfold ZZ;simp only[ost,Gd,Ba,Et];generalize (left.filter λr=>rdD ps left (.int r)).map c6.int=R at*;generalize (left.erase x).map c6.int=E at*;generalize left.map c6.int=L at*;generalize ps.map Z8=Q at*;have m:(made.map c6.int).length<16777216:=by simpa using l
 generalize made.map c6.int=D at*;simp[aV,q,C,w,j,m]
theorem DU(ns:List Int)(b:c6)(ps:List (Int×Int))(hl:ns.length<=63)(l:∀p∈ps,p.1<p.2)(h:ps.length<10000):∀(f n:Nat) (left made:List Int) (d:Sl),left.length=f->n+f<700000->left.Pairwise (· < ·)->made.length+left.length<1000->(∀p∈ps,p.1∈made∨p.1∈left)->(∀p∈ps,∀k:Nat,made[k]?=b3 p.2->p.1∈made.take k)->∃(order:List Int) (c:Sl),order.Perm (made++left)/\(∀p∈ps,∀k:Nat,order[k]?=b3 p.2->p.1∈order.take k)/\bA (fB (f2 RU (fO 4) (bC cR))) ZZ (f+1) (ost ns n b ps left made d)=b3 (.nx (ost ns (n+f) b ps [] order c))
 |0,n,left,made,d,m,A,o,B,h1,h2=>by
  have:left=[]:=Gj.mp m
  subst this;refine⟨made,d,by simp,h2,RP ?_⟩;have e:RU (.lst []) (.lst [])=b3 (.bl bb):=by rw[DR (j:=1) (k:=1) (YJ YK) (YJ YK),FC];rfl
  simp[ost,e]
 | f + 1,n,left,made,d,m,A,o,B,h1,h2 => by
  have i:left≠[]:=λz=>by rw[z]at m;simp at m
  obtain⟨x,s,y,t,E⟩:=lO ns n b ps left made d hl (by lia) i o l (by lia) (by lia) h;have C:=List.length_erase_of_mem s;obtain⟨order,c,v,u,D⟩:=DU ns b ps hl l h f (n+1) (left.erase x) (made++[x]) t (by lia) (by lia) (o.sublist (List.erase_sublist)) (by simp;lia) (λp a=>by
   rcases h1 p a with z|z
   ·exact .inl (Bx.mpr (.inl z))
   ·by_cases g:p.1=x
    ·exact .inl (by simp[g])
    ·exact .inr ((List.mem_erase_of_ne g).mpr z)) (λp a k hk=>by
   by_cases r:k<made.length
   ·rw[An r]at hk
    rw[Dx (by lia)];exact h2 p a k hk
   ·have w:=(Ag.mp hk).1
    simp at w;have:k=made.length:=by lia
    subst this;simp at hk;have q:=y p a hk.symm;rw[Im];exact(h1 p a).resolve_right q)
  refine⟨order,c,?_,u,?_⟩
  ·refine v.trans ?_
   rw[Ay,Ir];exact(List.perm_cons_erase s).symm.append_left made
  ·have e:RU (.lst (left.map .int)) (.lst [])=b3 (.bl ba):=by
    rw[DR (j:=1) (k:=1) (YJ (UK left)) (YJ YK),FC];cases left with
    |nil=>exact absurd rfl i
    |cons=>rfl
   rw[RQ (δ1:=ost ns n b ps left made d) (by simp[ost,e]) E,D,show n+1+f=n+(f+1) by lia]
def A7{f:VF}{δ δ1:Ev}{j:Int}(h:f δ=b3 (.int j,δ1))(a:0<=j)(h1:j<=16777216):TY f δ=b3 (.lst (ZN 0 j.toNat),δ1):=by unfold TY;rw[h,Ar];exact if_pos ⟨a,h1⟩
def B9(k:Nat):List Int:=(Bf k).map λi:Nat=>(i:Int)
def hV(k:Nat):ZN 0 k=(B9 k).map .int:=by simp[ZN,B9]
def ED{k:Nat}{a:Int}:a∈B9 k↔0<=a/\a<k:=by
 unfold B9;rw[Cu];constructor
 ·rintro ⟨i,hi,rfl⟩
  have:=Db.mp hi
  lia
 ·rintro ⟨b,h1⟩
  exact⟨a.toNat,Db.mpr (by lia),by lia⟩
def F2(k:Nat):(B9 k).Pairwise (· < ·):=Lg _ (λa b h=>by lia) (List.pairwise_lt_range)
def KC(k:Nat):(B9 k).length=k:=by simp[B9]
def qb(ns:List Int)(n:Nat){sure:Int}{rows:List c6}{kds:List Kd}(hl:ns.length<=63)(l:n<500000)(g:Bl [] rows kds)(b:rows.length<=40):∃(ps:List (Int×Int)) (order:List Int),Prs rows ps/\order.Perm (B9 rows.length)/\(∀p∈ps,∀k:Nat,order[k]?=b3 p.2->p.1∈order.take k)/\aM [V6 ns,XT n,.tup [.int sure,.tup rows]]=b3 (.lst (order.map .int),[XT (n+rows.length)]):=by
 obtain⟨ps,P,f,em⟩:=nC (sure:=sure) g b;obtain⟨order,i,d,c,e⟩:=DU ns (.tup [.int sure,.tup rows]) ps hl (λp a=>(P.lt p a).2.1) (by lia) rows.length n (B9 rows.length) [] .no (KC _) (by lia) (F2 _) (by simp[KC];lia) (λp a=>.inr (ED.mpr ⟨(P.lt p a).1,by have:=P.lt p a;lia⟩)) (λp a k hk=>by simp at hk);refine⟨ps,order,P,by simpa using d,c,?_⟩;have e:=QJ e;simp only[ost,Et]at e;have h:TY (f1 Y8 (f2 bL (fV 2) (fC (.int 1)))) [.va (V6 ns),.ow (XT n),.va (.tup [.int sure,.tup rows]),.no,.no,.no,.no]=b3 (.lst ((B9 rows.length).map .int),[.va (V6 ns),.ow (XT n),.va (.tup [.int sure,.tup rows]),.no,.no,.no,.no]):=by rw[<-hV,A7 (j:=(rows.length:Int)) (δ1:=[.va (V6 ns),.ow (XT n),.va (.tup [.int sure,.tup rows]),.no,.no,.no,.no]) (by simp) (by lia) (by lia)];simp
 unfold aM;rw[bK,YH.eq_1];generalize (B9 rows.length).map c6.int=L at*;generalize order.map c6.int=O at*;generalize ps.map Z8=Q at*;simp[bG,em,h,e]
def aZ.strong{M:Int->Prop}{row:c6}(h:aZ M row):∃as:List Int,(∀a∈as,M a)/\aZ (· ∈as) row/\aT [row]=b3 (.lst (as.map .int),[]):=by
 cases h with
 | @number n e h1=>exact⟨[],(λ_ h=>nomatch h),.number e h1,by kernel_rfl⟩
 | @two x a b f d g=>
  refine⟨[a,b],by simp[d,g],.two f (by simp) (by simp),?_⟩;simp only[Ak,Ax,or_false]at f;rcases f with rfl|rfl|rfl|rfl|rfl|rfl|rfl<;>kernel_rfl
 | @pick c a b hc d g=>exact⟨[c,a,b],by simp[hc,d,g],.pick (by simp) (by simp) (by simp),by kernel_rfl⟩
 | @load p e h1=>exact⟨[],(λ_ h=>nomatch h),.load e h1,by kernel_rfl⟩
 | @take p c a e h1 hc d=>exact⟨[c,a],by simp[hc,d],.take e h1 (by simp) (by simp),by kernel_rfl⟩
 | @store p a e h1 d=>exact⟨[a],by simp[d],.store e h1 (by simp),by kernel_rfl⟩
 | @put p a c e h1 d hc=>exact⟨[a,c],by simp[d,hc],.put e h1 (by simp) (by simp),by kernel_rfl⟩
def F1{as:List Int}{row:c6}(h:aZ (· ∈as) row){ks:List aY}{vs:List c6}(e:Int->Int)(hk:∀a∈as,bF ks vs (.inl a)=b3 (.int (e a))):∃j,b5 [row,.dct ks vs]=b3 (j,[])/\aZ (λb=>∃a∈as,b=e a) j/\LQ .w j=LQ .w row:=by
 cases h with
 | @number n f h1=>
  refine⟨_,?_,.number f h1,rfl⟩;unfold b5;rw[bK];unfold aW;simp[bG]
 | @two x a b g d i=>
  have q:=(dne g (y:= "number") (by decide)).1;have o:=(dne g (y:= "load") (by decide)).2;have m:=(dne g (y:= "take") (by decide)).2;have l:=(dne g (y:= "store") (by decide)).2;have k:=(dne g (y:= "put") (by decide)).2;refine⟨.tup [.str x,.int (e a),.int (e b)],?_,.two g ⟨a,d,rfl⟩ ⟨b,i,rfl⟩,?_⟩
  ·unfold b5
   rw[bK];unfold aW;simp[bG,q,o,m,l,k,aV,hk a d,hk b i]
  ·simp only[Ak,Ax,or_false]at g
   rcases g with rfl|rfl|rfl|rfl|rfl|rfl|rfl<;>rfl
 | @pick c a b hc d i=>
  refine⟨.tup [.str "pick",.int (e c),.int (e a),.int (e b)],?_,.pick ⟨c,hc,rfl⟩ ⟨a,d,rfl⟩ ⟨b,i,rfl⟩,rfl⟩;unfold b5;rw[bK];unfold aW;simp[bG,aV,hk a d,hk b i,hk c hc]
 | @load p f h1=>
  refine⟨.tup [.str "load",.int p],?_,.load f h1,rfl⟩;unfold b5;rw[bK];unfold aW;simp[bG,aV]
 | @take p c a f h1 hc d=>
  refine⟨.tup [.str "take",.int p,.int (e c),.int (e a)],?_,.take f h1 ⟨c,hc,rfl⟩ ⟨a,d,rfl⟩,rfl⟩;unfold b5;rw[bK];unfold aW;simp[bG,aV,hk a d,hk c hc]
 | @store p a f h1 d=>
  refine⟨.tup [.str "store",.int p,.int (e a)],?_,.store f h1 ⟨a,d,rfl⟩,rfl⟩;unfold b5;rw[bK];unfold aW;simp[bG,aV,hk a d]
 | @put p a c f h1 d hc=>
  refine⟨.tup [.str "put",.int p,.int (e a),.int (e c)],?_,.put f h1 ⟨a,d,rfl⟩ ⟨c,hc,rfl⟩,rfl⟩;unfold b5;rw[bK];unfold aW;simp[bG,aV,hk a d,hk c hc]
theorem Bl.at{kds d:List Kd}{rows:List c6}(h:Bl kds rows d):∀{j:Nat}{row:c6},rows[j]?=b3 row->aZ (λa=>Nm d .w a/\a<kds.length+j) row/\d[kds.length+j]?=b3 (LQ .w row)/\∀a,Nm kds .w a->Nm d .w a:=by
 have keep:∀{k k':List Kd}{f:List c6},Bl k f k'->∀(i:Nat) (x:Kd),k[i]?=b3 x->k'[i]?=b3 x:=by
  intro k k' f h;induction h with
  |nil=>exact λ_ _ z=>z
  |cons _ _ e=>exact λi x z=>e i x (by rw[An (Ag.mp z).1];exact z)
 induction h with
 |nil=>intro j row c;simp at c
 | @cons kds d r rows a t e=>
  intro j row c;cases j with
  |zero=>
   simp at c;subst c;refine⟨a.imp λx b=>⟨⟨b.1,keep t _ _ (b.snoc (j:=LQ .w r)).2⟩,by have:=b.lt;lia⟩,keep t _ _ (by simp),λx b=>⟨b.1,keep t _ _ (b.snoc (j:=LQ .w r)).2⟩⟩
  |succ j=>
   obtain⟨h1,h2,g⟩:=e (by simpa using c);rw[Bv,Eb]at h1 h2;refine⟨h1.imp λx b=>⟨b.1,by have:=b.2;lia⟩,by rw[show kds.length+(j+1)=kds.length+1+j by lia];exact h2,λx b=>g x b.snoc⟩
noncomputable def swD:c6->c6
 |.tup [a,b]=>.tup [b,a]
 |_=>.non
noncomputable def kvz:Nat->List Int->List (aY×c6)
 |_,[]=>[]
 |k,x::xs=>(.inl x,.int (k:Int))::kvz (k+1) xs
theorem G4:∀(xs:List Int) (k:Nat),Q5 ((YG k (xs.map .int)).map swD)=b3 (kvz k xs)
 |[],_=>rfl
 |x::xs,k=>by rw[Ba,P4,Ba];show(kprD (.tup [.int x,.int (k:Int)])).bind (λp=>(Q5 ((YG (k+1) (xs.map .int)).map swD)).map λps=>p::ps)=_;rw[G4 xs (k+1)];rfl
theorem OU:∀(xs:List Int) (k:Nat),(kvz k xs).map Dh=xs.map .inl
 |[],_=>rfl
 |x::xs,k=>by rw[kvz,Ba,OU xs (k+1)];rfl
theorem DL:∀(xs:List Int) (k i:Nat),i<xs.length->((kvz k xs).map Er)[i]?=b3 (.int ((k+i:Nat):Int))
 |[],_,i,h=>by simp at h
 |x::xs,k,0,_=>rfl
 |x::xs,k,i+1,h=>by
  have:=DL xs (k+1) i (by simpa using h)
  rw[kvz,Ba,Lu,this];congr 3;lia
def lL{order:List Int}(c:order.Nodup){a:Int}(d:a∈order):bF ((kvz 0 order).map Dh) ((kvz 0 order).map Er) (.inl a)=b3 (.int (order.idxOf a:Int)):=by
 have hi:order.idxOf a<order.length:=Kb d;rw[G9 _ _ (order.idxOf a) (.inl a) ?_ (by simp) ?_,DL _ _ _ hi]
 ·simp
 ·rw[OU]
  exact Lg _ (λa b h e=>h (by injection e)) c
 ·rw[OU,Ds,Cs hi,Ox hi]
  rfl
def VA(rows:List c6)(r:Int):c6:=(rows[r.toNat]?).getD .non
noncomputable def F0(rows:List c6)(names:c6):c6->c6
 |.int r=>match b5 [VA rows r,names]with
  |some (d,_)=>d
  |none=>.non
 |_=>.non
def EA{rows os:List c6}{names a:c6}{r:Int}(e:b5 [VA rows r,names]=b3 (a,os)):F0 rows names (.int r)=a:=by simp only[F0,e]
def JO(order:List Int):c6:=.dct ((kvz 0 order).map Dh) ((kvz 0 order).map Er)
def Yd{rows:List c6}{kds:List Kd}(o:Bl [] rows kds){ps:List (Int×Int)}(P:Prs rows ps){order:List Int}(s:order.Perm (B9 rows.length))(x:∀p∈ps,∀k:Nat,order[k]?=b3 p.2->p.1∈order.take k){c rest:List Int}{r:Int}(g:order=c++r::rest):∃j,b5 [VA rows r,JO order]=b3 (j,[])/\UA rows r=b3 (VA rows r)/\aZ (Nm (c.map λa=>LQ .w (VA rows a)) .w) j/\LQ .w j=LQ .w (VA rows r):=by
 have y:order.Nodup:=s.nodup_iff.mpr ((F2 _).imp λh=>by lia);have A:r∈order:=by rw[g];simp
 have l:=ED.mp (s.mem_iff.mp A);have q:rows[r.toNat]?=b3 (VA rows r):=by unfold VA;rw[Cs (by lia)];rfl
 obtain⟨h1,h2,_⟩:=o.at q;obtain⟨as,v,E,D⟩:=h1.strong;have u:∀a∈as,a∈c:=λa d=>by
  have f:=v a d;have F:a<r:=by have:=f.2;simp at this;lia
  have B:=P.nm r.toNat _ as q D a d f.1.1 (by lia);have:=x _ B c.length (by rw[g];simp;lia)
  rw[g,Im]at this;exact this
 obtain⟨j,e,ok,mk⟩:=F1 E (ks:=(kvz 0 order).map Dh) (vs:=(kvz 0 order).map Er) (λa=>(order.idxOf a:Int)) (λa d=>lL y (by rw[g];exact Bx.mpr (.inl (u a d))));refine⟨j,e,by rw[UB l.1 (by lia)];exact q,ok.imp λb n=>?_,mk⟩;obtain⟨a,d,rfl⟩:=n;have i:=u a d;have hi:c.idxOf a<c.length:=Kb i;have m:order.idxOf a=c.idxOf a:=by rw[g,List.idxOf_append,if_pos i]
 refine⟨by lia,?_⟩;rw[m,Ib,Ds,Cs hi,Ox hi];have f:=(v a d).1;have C:=f.lt;have G:kds.length=rows.length:=by simpa using o.len
 have z:rows[a.toNat]?=b3 (VA rows a):=by unfold VA;rw[Cs (by have:=f.1;lia)];rfl
 obtain⟨_,t,_⟩:=o.at z;simp only[Mo,Km]at t;have:=f.2
 rw[t]at this;injection this with this;rw[Rs,this]
theorem Ye{rows:List c6}{kds:List Kd}(g:Bl [] rows kds){ps:List (Int×Int)}(P:Prs rows ps){order:List Int}(f:order.Perm (B9 rows.length))(d:∀p∈ps,∀k:Nat,order[k]?=b3 p.2->p.1∈order.take k):∀(rest b:List Int),order=b++rest->Bl (b.map λa=>LQ .w (VA rows a)) ((rest.map .int).map (F0 rows (JO order))) (order.map λa=>LQ .w (VA rows a))
 |[],b,c=>by rw[c,Em];exact .nil
 |r::rest,b,c=>by obtain⟨j,e,_,ok,mk⟩:=Yd g P f d c;have i:=EA e;have h:=Ye g P f d rest (b++[r]) (by rw[c,Ay];rfl);rw[Ba,Ba,i];refine .cons ok ?_;rw[mk];simpa using h
def nX(ns:List Int)(n:Nat)(c:Int)(hl:ns.length<=63)(hn:n<100000)(h0:0<=c)(Q:c<=40):∃(sure:Int) (rows:List c6) (kds:List Kd) (n':Nat),Bl [] rows kds/\(rows.length:Int)<=c/\0<=sure/\sure<=64/\n'<=n+1000/\Z4 [V6 ns,XT n,.int c]=b3 (.tup [.int sure,.tup rows],[XT n']):=by
 obtain⟨x,t,ex⟩:=YZ ns n [.int 3,.int 6,.int 9,.int 64] hl (by lia) (by simp);obtain⟨room,rfl,I,H⟩:∃q:Int,x=.int q/\0<q/\q<=64:=by simp only[Ak,Ax,or_false]at t;rcases t with rfl|rfl|rfl|rfl<;>exact⟨_,rfl,by lia,by lia⟩
 have E:=ZH ns (n+1) (room+1) hl (by lia) (by lia);have Y:=SW ns (n+1) (b:=room+1) (by lia);have X:MR ns (n+1) (room+1)<room+1:=Fe _ (by lia);obtain⟨y,s,v⟩:=YZ ns (n+2) [.int 0,.int room,.int room,.int (MR ns (n+1) (room+1))] hl (by lia) (by simp);obtain⟨sure,rfl,o,s1⟩:∃q:Int,y=.int q/\0<=q/\q<=64:=by simp only[Ak,Ax,or_false]at s;rcases s with rfl|rfl|rfl|rfl<;>exact⟨_,rfl,by lia,by lia⟩
 have C:=ZH ns (n+3) (c+1) hl (by lia) (by lia);have m:=SW ns (n+3) (b:=c+1) (by lia);have W:MR ns (n+3) (c+1)<c+1:=Fe _ (by lia);obtain⟨rows,kds,f,j,ah,m1,Z,w⟩:=iW ns (n+4) (MR ns (n+3) (c+1)) room hl (by lia) I H m (by lia);have A:=ZH ns f 3 hl (by lia) (by decide);have k:rows.length<=40:=by lia
 by_cases u:0<MR ns f 3
 ·refine ⟨sure,rows,kds,f + 1,j,by lia,o,s1,by lia,?_⟩
  unfold Z4;rw[bK];unfold WQ;simp[bG,ex,E,v,C,w,A,u]
 ·obtain ⟨ps,order,P,g,p,V⟩ := qb ns (f + 1) (sure := sure) hl (by lia) j k
  have M:order.length=rows.length:=by rw[g.length_eq,KC]
  have K:order.Nodup:=g.nodup_iff.mpr ((F2 _).imp λh=>by lia);have G:=QX 0 U4 (λ_=>ba) (cJ (c7 (fV 1) (c7 (fV 0) cR))) swD [] rfl (YG 0 (order.map .int)) [] (λd hd=>by obtain⟨i,hi,e⟩:=List.getElem_of_mem hd;obtain⟨z,_,rfl⟩:=NA (Ag.mpr ⟨hi,e⟩);exact⟨_,_,rfl,by simp,λ_=>by simp[swD]⟩) (by rw[NB];simp;lia)
  have f1:(YG 0 (order.map c6.int)).filter (λ_=>ba)=YG 0 (order.map .int):=List.filter_eq_self.mpr λ_ _=>rfl;rw[f1,Fc]at G;have hd:DP (.lst ((YG 0 (order.map .int)).map swD))=b3 (JO order):=by
   show(Q5 ((YG 0 (order.map .int)).map swD)).bind (λkds=>if(kds.map Dh).Nodup then b3 (c6.dct (kds.map Dh) (kds.map Er))else b4)=_;rw[G4,Ar,if_pos]
   ·rfl
   ·rw[OU]
    exact Lg _ (λa b h e=>h (by injection e)) K
  have F:=M8 2 (cP 2 [] b5 (aE (f2 bL (f2 bL (fV 0) (fC (.int 1))) (fV 2)) (aE (fV 1) cE))) [.va (.tup [.int sure,.tup rows]),.va (JO order)] (F0 rows (JO order)) rfl (order.map .int) [] (λd hd=>by obtain⟨r,L,rfl⟩:=Cu.mp hd;obtain⟨J,rest,N⟩:=List.append_of_mem L;obtain⟨bq,e,U,_,_⟩:=Yd j P g p N;have T:=EA e;rw[T];simp[U,e]) (by simp;lia)
  rw[Fc]at F;have B:=Ye j P g p order [] rfl;refine⟨sure,(order.map .int).map (F0 rows (JO order)),_,f+1+rows.length,B,by simp;lia,o,s1,by lia,?_⟩;have l:¬0<MR ns f 3:=u;unfold Z4;rw[bK];unfold WQ;have O:((order.map c6.int).map (F0 rows (JO order))).length<=16777216:=by simp;lia
  generalize (order.map c6.int).map (F0 rows (JO order))=R at*;generalize (YG 0 (order.map c6.int)).map swD=S at*;generalize JO order=D at*;simp[bG,ex,E,v,C,w,A,l,V,aV,G,hd,F]
def Wd(w:Int):Prop:=0<=w/\w<=999
noncomputable abbrev D7:List String:=["over","plus","minus","times","least","most","less"]
inductive Rw where
 |num (n:Int)|two (x:String) (a b:Int)|pick (c a b:Int)|load (p:Int)|take (p c a:Int)|store (p a:Int)|put (p a c:Int)
def Rw.dat:Rw->c6
 |.num n=>.tup [.str "number",.int n]
 |.two x a b=>.tup [.str x,.int a,.int b]
 |.pick c a b=>.tup [.str "pick",.int c,.int a,.int b]
 |.load p=>.tup [.str "load",.int p]
 |.take p c a=>.tup [.str "take",.int p,.int c,.int a]
 |.store p a=>.tup [.str "store",.int p,.int a]
 |.put p a c=>.tup [.str "put",.int p,.int a,.int c]
def Rw.hd:Rw->String
 |.num _=> "number"
 |.two x _ _=>x
 |.pick _ _ _=> "pick"
 |.load _=> "load"
 |.take _ _ _=> "take"
 |.store _ _=> "store"
 |.put _ _ _=> "put"
def Rw.mk:Rw->Bool
 |.store _ _=>bb
 |.put _ _ _=>bb
 |_=>ba
abbrev Pl(p:Int):Prop:=0<=p/\p<=63
def Rw.Ok(M:Int->Prop):Rw->Prop
 |.num n=>Wd n
 |.two x a b=>x∈D7/\M a/\M b
 |.pick c a b=>M c/\M a/\M b
 |.load p=>Pl p
 |.take p c a=>Pl p/\M c/\M a
 |.store p a=>Pl p/\M a
 |.put p a c=>Pl p/\M a/\M c
section
variable{M M':Int->Prop}{r:Rw}
def Rw.Ok.imp(h:r.Ok M)(f:∀a,M a->M' a):r.Ok M':=by
 cases r with
 |num=>exact h
 |two=>exact⟨h.1,f _ h.2.1,f _ h.2.2⟩
 |pick=>exact⟨f _ h.1,f _ h.2.1,f _ h.2.2⟩
 |load=>exact h
 |take=>exact⟨h.1,f _ h.2.1,f _ h.2.2⟩
 |store=>exact⟨h.1,f _ h.2⟩
 |put=>exact⟨h.1,f _ h.2.1,f _ h.2.2⟩
def Rw.Ok.row(h:r.Ok M):aZ M r.dat:=by
 cases r with
 |num=>exact .number h.1 h.2
 |two=>exact .two h.1 h.2.1 h.2.2
 |pick=>exact .pick h.1 h.2.1 h.2.2
 |load=>exact .load h.1 h.2
 |take=>exact .take h.1.1 h.1.2 h.2.1 h.2.2
 |store=>exact .store h.1.1 h.1.2 h.2
 |put=>exact .put h.1.1 h.1.2 h.2.1 h.2.2
@[simp] theorem Rw.ix0:bL r.dat (.int 0)=b3 (.str (Be r.hd)):=by cases r<;>rfl
@[simp] theorem Rw.dat_hard:r.dat.hard=ba:=by cases r<;>rfl
def d7{x:String}(h:x∈D7):x= "over" ∨x= "plus" ∨x= "minus" ∨x= "times" ∨x= "least" ∨x= "most" ∨x= "less":=by simpa using h
def Rw.Ok.made(h:r.Ok M):YB [r.dat]=b3 (.bl r.mk,[]):=by
 cases r with
 |two=>obtain⟨h,_⟩:=h;rcases d7 h with rfl|rfl|rfl|rfl|rfl|rfl|rfl<;>kernel_rfl
 |_=>kernel_rfl
def Rw.Ok.isif(h:r.Ok M):TK [r.dat]=b3 (.bl bb,[]):=by
 cases r with
 |two=>obtain⟨h,_⟩:=h;rcases d7 h with rfl|rfl|rfl|rfl|rfl|rfl|rfl<;>kernel_rfl
 |_=>kernel_rfl
end
def Ab.app{ab b:List Bool}{a:Int}(h:Ab ab a):Ab (ab++b) a:=⟨h.1,by rw[An (Ag.mp h.2).1];exact h.2⟩
def Ab.new{ab:List Bool}:Ab (ab++[ba]) ab.length:=⟨by lia,by simp⟩
def Wfs:List Bool->List Rw->Prop
 |_,[]=>True
 |ab,r::a=>r.Ok (Ab ab)/\Wfs (ab++[r.mk]) a
inductive Ts where
 |nil|row (r:Rw) (t:Ts)|ifs (c:Int) (a b t:Ts)
def Ts.dats:Ts->List c6
 |.nil=>[]
 |.row r t=>r.dat::t.dats
 |.ifs c a b t=>.tup [.str "if",.int c,.tup a.dats,.tup b.dats]::t.dats
def Ts.size:Ts->Nat
 |.nil=>0
 |.row _ t=>1+t.size
 |.ifs _ a b t=>1+(a.size+b.size)+t.size
def Ts.dep:Ts->Nat
 |.nil=>0
 |.row _ t=>t.dep
 |.ifs _ a b t=>max (1+max a.dep b.dep) t.dep
abbrev VJ(n:Nat):List Bool:=Av n bb
def Ts.sgt:Ts->List Bool->List Bool
 |.nil,ab=>ab
 |.row r t,ab=>t.sgt (ab++[r.mk])
 |.ifs _ a b t,ab=>t.sgt (ab++[bb]++VJ a.size++VJ b.size)
def Ts.Wf:Ts->List Bool->Prop
 |.nil,_=>True
 |.row r t,ab=>r.Ok (Ab ab)/\t.Wf (ab++[r.mk])
 |.ifs c a b t,ab=>Ab ab c/\a.Wf (ab++[bb])/\b.Wf (ab++[bb]++VJ a.size)/\t.Wf (ab++[bb]++VJ a.size++VJ b.size)
theorem Ts.sgt_len:∀(t:Ts) (ab:List Bool),(t.sgt ab).length=ab.length+t.size
 |.nil,_=>rfl
 |.row r t,ab=>by simp[Ts.sgt,Ts.size,Ts.sgt_len t];lia
 |.ifs c a b t,ab=>by simp[Ts.sgt,Ts.size,Ts.sgt_len t];lia
@[simp] theorem uD{ds:List c6}:MV (.lst ds) .non=b3 (.bl bb):=(rfl)
@[simp] theorem vc{ds:List c6}:PQ (.lst ds) .non=b3 (.bl ba):=(rfl)
@[simp] theorem uu{ds:List c6}{k:Int}:ZB (.lst ds) (.int k)=if(0<=k/\k<4611686018427387904)/\ds.length*k.toNat<=16777216 then b3 (.lst (WZ k.toNat ds))else b4:=by show(if(0<=k/\k<2 ^ 62)/\_ then _ else _)=_;rw[show(2:Int) ^ 62=4611686018427387904 by decide]
def iK{d:c6}(k:Nat):WZ k [d]=Av k d:=by
 unfold WZ;induction k with
 |zero=>rfl
 |succ k a=>rw[Dz,Ge,a,Dz];rfl
section
variable{R:bW}{ab:List Bool}{k:Nat}{deep:Nat}
def EM{ds:List c6}{xs:List Bool}(th able:c6)(e:R [.tup ds,.lst (ab.map .bl),.int ((deep:Int)+1)]=b3 (.lst (xs.map .bl),[]))(c:xs.length=ab.length+k)(hk:ab.length+k<=20)(s:Sl):Y6 R [.va th,.va able,.va (.int deep),.va (.lst (ab.map .bl)),.va (.tup ds),s]=b3 (.nx [.va th,.va able,.va (.int deep),.va (.lst ((ab++VJ k).map .bl)),.va (.tup ds),.va (.lst (xs.map .bl))]):=by
 have h1:((xs.length:Int)-(ab.length:Int))=(k:Int):=by lia
 have h2:(k:Int)<4611686018427387904:=by lia
 have b:k<=16777216:=by lia
 have a:ab.length+k<=16777216:=by lia
 unfold Y6;simp -implicitDefEqProofs [e,h1,h2,b,a,iK]
def Yy{c:Int}{b a:List c6}{d f:List Bool}{k1 k2:Nat}(hc:Ab ab c)(hd:deep<3)(j:R [.tup b,.lst ((ab++[bb]).map .bl),.int ((deep:Int)+1)]=b3 (.lst (d.map .bl),[]))(h1:d.length=(ab++[bb]).length+k1)(i:R [.tup a,.lst ((ab++[bb]++VJ k1).map .bl),.int ((deep:Int)+1)]=b3 (.lst (f.map .bl),[]))(h2:f.length=(ab++[bb]++VJ k1).length+k2)(hk:ab.length+1+k1+k2<=20):Z5 R [.tup [.str "if",.int c,.tup b,.tup a],.lst (ab.map .bl),.int deep]=b3 (.lst ((ab++[bb]++VJ k1++VJ k2).map .bl),[]):=by
 have f1:=EM (.tup [.str "if",.int c,.tup b,.tup a]) (.lst (ab.map .bl)) j h1 (by simp;lia) .no;have f2:=EM (.tup [.str "if",.int c,.tup b,.tup a]) (.lst (ab.map .bl)) i h2 (by simp;lia) (.va (.lst (d.map .bl)));have em:=Xm hc;have h:¬(deep:Int)=3:=by lia
 have hl:ab.length+1<=16777216:=by lia
 generalize g:ab.map c6.bl=A at em f1 f2;have e:A.length=ab.length:=by rw[<-g];simp
 have k:(ab++[bb]).map c6.bl=A++[.bl bb]:=by rw[Gd,g];rfl
 rw[k]at f1;unfold Z5;rw[bK,ZP.eq_1];simp[bG,em,UD,e,hl,h];rw[f1];simp only[N3,R0,GZ,N2,List.set_cons_succ,List.set_cons_zero,kY];rw[f2];simp
def OB{n:Nat}{t:Ts}{able:c6}(h:∀th able s,∃s',WW (gN 4) (a6 (bM n)) t.dats [.va th,.va able,.va (.int deep),.va (.lst (ab.map .bl)),s]=b3 (.nx [.va th,.va able,.va (.int deep),.va (.lst ((t.sgt ab).map .bl)),s'])):bM (n+1) [.tup t.dats,.lst (ab.map .bl),.int deep]=b3 (.lst ((t.sgt ab).map .bl),[]):=by show Z9 5 [] (ZK (bM n)) _=_;obtain⟨s',e⟩:=h (.tup t.dats) (.lst (ab.map .bl)) .no;rw[bK,ZK.eq_1];simp[bG,e]
end
theorem W2:∀{t:Ts}{n:Nat}{ab:List Bool}{deep:Nat},t.dep<=n->deep+t.dep<=3->t.Wf ab->ab.length+t.size<=20->∀th able s,∃s',WW (gN 4) (a6 (bM n)) t.dats [.va th,.va able,.va (.int deep),.va (.lst (ab.map .bl)),s]=b3 (.nx [.va th,.va able,.va (.int deep),.va (.lst ((t.sgt ab).map .bl)),s'])
 |.nil,n,ab,deep,_,_,_,_,th,able,s=>⟨s,rfl⟩
 |.row r t,n,ab,deep,hd,i,⟨h1,h2⟩,hk,th,able,s=>by
  simp only[Ts.size]at hk;obtain⟨s',d⟩:=W2 (t:=t) (n:=n) (deep:=deep) hd i h2 (by simp;lia) th able (.va r.dat);refine⟨s',?_⟩;have e:=iQ h1.row;have em:=h1.made;have j:=h1.isif;have g:ab.length+1<=16777216:=by lia
  have m:¬(20:Int)<(ab.length:Int)+1:=by lia
  rw[Ts.dats,R0,GZ,N2];have k:a6 (bM n) [.va th,.va able,.va (.int deep),.va (.lst (ab.map .bl)),.va r.dat]=b3 (.nx [.va th,.va able,.va (.int deep),.va (.lst ((ab++[r.mk]).map .bl)),.va r.dat]):=by unfold a6;simp[e,em,j,g,m,ZG]
  have s1:([.va th,.va able,.va (.int deep),.va (.lst (ab.map .bl)),s]:Ev).set 4 (.va r.dat)=[.va th,.va able,.va (.int deep),.va (.lst (ab.map .bl)),.va r.dat]:=rfl;rw[s1,k,N3,d];rfl
 |.ifs c a b t,0,ab,deep,hd,_,_,_,th,able,s=>by simp only[Ts.dep]at hd;lia
 |.ifs c a b t,n+1,ab,deep,hd,i,⟨hc,h1,h2,o⟩,hk,th,able,s=>by
  simp only[Ts.size]at hk;simp only[Ts.dep]at hd i;have q:=OB (t:=a) (n:=n) (able:=able) (W2 (deep:=deep+1) (by lia) (by lia) h1 (by simp;lia));have p:=OB (t:=b) (n:=n) (able:=able) (W2 (deep:=deep+1) (by lia) (by lia) h2 (by simp;lia));obtain⟨s',d⟩:=W2 (t:=t) (n:=n+1) (deep:=deep) (by lia) (by lia) o (by simp;lia) th able (.va (.tup [.str "if",.int c,.tup a.dats,.tup b.dats]));refine⟨s',?_⟩;have f:=Yy (R:=bM (n+1)) (deep:=deep) hc (by lia) q (Ts.sgt_len _ _) p (Ts.sgt_len _ _) (by lia);have j:TK [.tup [.str "if",.int c,.tup a.dats,.tup b.dats]]=b3 (.bl ba,[]):=by kernel_rfl
  generalize l:ab++[bb]++VJ a.size++VJ b.size=B at f d;have h:¬(20:Int)<(B.length:Int):=by rw[<-l];simp;lia
  rw[Ts.dats,R0,GZ,N2];have k:a6 (bM (n+1)) [.va th,.va able,.va (.int deep),.va (.lst (ab.map .bl)),.va (.tup [.str "if",.int c,.tup a.dats,.tup b.dats])]=b3 (.nx [.va th,.va able,.va (.int deep),.va (.lst (B.map .bl)),.va (.tup [.str "if",.int c,.tup a.dats,.tup b.dats])]):=by unfold a6;simp[j,f,h,ZG]
  have s1:([.va th,.va able,.va (.int deep),.va (.lst (ab.map .bl)),s]:Ev).set 4 (.va (.tup [.str "if",.int c,.tup a.dats,.tup b.dats]))=[.va th,.va able,.va (.int deep),.va (.lst (ab.map .bl)),.va (.tup [.str "if",.int c,.tup a.dats,.tup b.dats])]:=rfl;rw[s1,k,N3,d,Ts.sgt,l]
def Vw{sure:Int}{t:Ts}(hd:t.dep<=3)(h:t.Wf [])(hk:t.size<=20)(a:0<=sure)(s1:sure<=64):cI [.tup [.int sure,.tup t.dats]]=b3 (.bl ba,[]):=by have e:=OB (t:=t) (n:=7) (able:=.non) (W2 (ab:=[]) (deep:=0) (by lia) (by lia) h (by simp;lia));simp only[Et]at e;have b:bM 8 [.tup t.dats,.lst [],.int 0]=b3 (.lst ((t.sgt []).map .bl),[]):=e;unfold cI;rw[bK];unfold P5;simp[bG,UE,a,s1,b]
def isW:Kd->Bool
 |.w=>ba
 |_=>bb
def aZ.rw{M:Int->Prop}{row:c6}(h:aZ M row):∃r:Rw,row=r.dat/\r.Ok M/\isW (LQ .w row)=r.mk:=by
 cases h with
 | @number n a b=>exact⟨.num n,rfl,⟨a,b⟩,by kernel_rfl⟩
 | @two x a b g d f=>
  refine⟨.two x a b,rfl,⟨g,d,f⟩,?_⟩;rcases d7 g with rfl|rfl|rfl|rfl|rfl|rfl|rfl<;>kernel_rfl
 | @pick c a b hc d f=>exact⟨.pick c a b,rfl,⟨hc,d,f⟩,by kernel_rfl⟩
 | @load p a b=>exact⟨.load p,rfl,⟨a,b⟩,by kernel_rfl⟩
 | @take p c a e h1 hc d=>exact⟨.take p c a,rfl,⟨⟨e,h1⟩,hc,d⟩,by kernel_rfl⟩
 | @store p a e h1 d=>exact⟨.store p a,rfl,⟨⟨e,h1⟩,d⟩,by kernel_rfl⟩
 | @put p a c e h1 d hc=>exact⟨.put p a c,rfl,⟨⟨e,h1⟩,d,hc⟩,by kernel_rfl⟩
def Rw.Ok.wr{M:Int->Prop}{r:Rw}(h:r.Ok M):(!decide ("store"=r.hd)&&!decide ("put"=r.hd))=r.mk:=by
 cases r with
 |two x a b=>
  have d:=(dne h.1 (y:= "store") (by decide)).2;have c:=(dne h.1 (y:= "put") (by decide)).2;simp[Rw.hd,Rw.mk,d,c]
 |_=>simp[Rw.hd,Rw.mk]
section
variable{ns:List Int}{room:Int}{deep:Nat}
def sD(N:Nat)(zs:List Int):c6:=.nst [b4,b3 zs.length] (.int N::zs.map .int)
noncomputable def OD(ns:List Int)(n:Nat)(m:Int)(deep N:Nat)(zs:List Int)(room:Int)(rows:List c6)(a b c d e f g:Sl):Ev:=
 [.va (V6 ns),.ow (XT n),.va (.int m),.va (.int deep),.ow (sD N zs),.va (.int room),.ow (.lst rows),a,b,c,d,e,f,g]
def qy(zs:List Int):RU (.lst (zs.map .int)) (.lst [])=b3 (.bl (!zs.isEmpty)):=by
 have e:=UH zs;have k1:QH 1 (.lst (zs.map .int)):=YJ λd hd=>by obtain⟨c,_,rfl⟩:=Cu.mp hd;exact YI
 have k2:QH 1 (.lst []):=YJ YK;rw[Wu k1 k2]at e;rw[DR k1 k2];injection e with e;injection e with e;rw[e]
noncomputable abbrev Tst:VB:=UC (fB (f2 RU (fNl 4 1) (bC cR))) (UC (fB (f2 oLt (fV 3) (fC (.int 3)))) (UC (fB (f2 oGt (fV 2) (fC (.int 1)))) (fB (f2 WM (cP 3 [1] cC (aE (fV 0) (aO 1 (aE (fC (.int 4)) cE)))) (fC (.int 0))))))
def WI{zs:List Int}:(zs.map c6.int).take zs.length=zs.map .int:=Cn (by simp)
def K8{zs:List Int}:(zs.map c6.int).drop zs.length=[]:=List.drop_of_length_le (by simp)
def eP{n N:Nat}{m:Int}{zs:List Int}{rows:List c6}(hl:ns.length<=63)(p:n<700000)(a b c d e f g:Sl):∃j t,(t=ba->0<zs.length/\deep<3/\1<m)/\n<=j/\j<=n+1/\Tst (OD ns n m deep N zs room rows a b c d e f g)=b3 (t,OD ns j m deep N zs room rows a b c d e f g):=by
 have i:=qy zs;have tk:=WI (zs:=zs);cases zs with
 |nil=>exact⟨n,bb,by simp,by lia,by lia,by simp at i;simp[OD,sD,i]⟩
 |cons z zs=>
  generalize hz:z::zs=ys at*;have l:0<ys.length:=by rw[<-hz];simp
  have k:ys.isEmpty=bb:=by rw[<-hz];rfl
  rw[k]at i;simp only[OD,sD];generalize ys.map c6.int=Z at*;by_cases h1:deep<3
  ·have h : (deep : Int) < 3 := by lia
   by_cases h2:1<m
   ·have o := ZH ns n 4 hl (by lia) (by decide)
    refine⟨n+1,decide (MR ns n 4=0),λ_=>⟨l,h1,h2⟩,by lia,by lia,?_⟩;simp[tk,i,h,h2,o]
   ·exact⟨n,bb,by simp,by lia,by lia,by simp[tk,i,h,h2]⟩
  ·have h : ¬ (deep : Int) < 3 := by lia
   exact⟨n,bb,by simp,by lia,by lia,by simp[tk,i,h]⟩
def gA{R:bW}{n i N:Nat}{m:Int}{zs:List Int}{rows:List c6}{a b c d e f g:Sl}(hl:ns.length<=63)(x:i<600000)(v:0<room)(o:room<=64)(hz:zs.length<1000)(hw:rows.length<1000)(p:Tst (OD ns n m deep N zs room rows a b c d e f g)=b3 (bb,OD ns i m deep N zs room rows a b c d e f g)):∃(r:Rw) (n':Nat),r.Ok (· ∈zs)/\i<=n'/\n'<=i+10/\aN R (OD ns n m deep N zs room rows a b c d e f g)=b3 (.nx (OD ns n' (m-1) deep (N+1) (if r.mk=ba then zs++[(N:Int)]else zs) room (rows++[r.dat]) a b c d e f (.va r.dat))):=by
 obtain⟨row,n',u,h1,h2,_,w,_,s⟩:=Ws ns i zs (.dct [] []) room hl (by lia) ⟨[],[],rfl,rfl,Sc,Ep _⟩ v o;obtain⟨r,rfl,q,_⟩:=w.rw;refine⟨r,n',q,h1,h2,?_⟩;have h:=q.wr;have tk:=WI (zs:=zs);have t:=K8 (zs:=zs);have l:(zs.map c6.int).length=zs.length:=by simp
 have k:zs.length<16777216:=by lia
 have j:rows.length<16777216:=by lia
 unfold aN;unfold Tst at p;rw[Yt,p];cases hk:r.mk with
 |true=>
  rw[hk]at h;simp only[if_true];simp only[OD,sD,Gd,Ba,Et,Bv,Eb];generalize zs.map c6.int=Z at*;simp[tk,t,s,h,l,k,j]
 |false=>
  rw[hk]at h;simp only[De,if_false];simp only[OD,sD];generalize zs.map c6.int=Z at*;simp[tk,t,s,h,j]
inductive RSr(ns:List Int)(room:Int)(deep:Nat)(R:bW)(ab:List Bool)(zs:List Int)(n af:Nat):Prop
 |mk (t:Ts) (n':Nat) (h1:t.Wf ab) (h2:t.size=af) (h3:t.dep+deep<=3) (h4:n'<=n+12*af) (h5:R [V6 ns,XT n,.int af,.int deep,sD ab.length zs,.int room]=b3 (.tup t.dats,[XT n',sD (ab.length+af) zs])):RSr ns room deep R ab zs n af
abbrev RSp(ns:List Int)(room:Int)(deep:Nat)(R:bW):Prop:=∀(ab:List Bool) (zs:List Int) (n a:Nat),(∀z∈zs,Ab ab z)->zs.length<=ab.length->ab.length+a<=16->n+12*a<500000->RSr ns room deep R ab zs n a
inductive SIf(R:bW)(ns:List Int)(room:Int)(deep m n1:Nat)(ab:List Bool)(zs:List Int)(rows:List c6)(a g:Sl)(δ:Ev):Prop
 |mk (k:Int) (x y:Ts) (n':Nat) (b' c' d' e' f':Sl) (h1:Ab ab k) (h2:x.Wf (ab++[bb])) (h3:y.Wf (ab++[bb]++VJ x.size)) (h4:1+(x.size+y.size)<=m) (h5:1+max x.dep y.dep+deep<=3) (h6:n'<=n1+2+12*(x.size+y.size)) (h7:aN R δ=b3 (.nx (OD ns n' ((m-(1+(x.size+y.size)):Nat):Int) deep (ab.length+(1+(x.size+y.size))) zs room (rows++[.tup [.str "if",.int k,.tup x.dats,.tup y.dats]]) a b' c' d' e' f' g))):SIf R ns room deep m n1 ab zs rows a g δ
def eY{R:bW}{n o m:Nat}{ab:List Bool}{zs:List Int}{rows:List c6}{a b c d e f g:Sl}(E:RSp ns room (deep+1) R)(hl:ns.length<=63)(V:o+12*m<500001)(W:1<m)(hz:∀z∈zs,Ab ab z)(O:zs.length<=ab.length)(t:0<zs.length)(hk:ab.length+m<=16)(hw:rows.length<1000)(D:Tst (OD ns n m deep ab.length zs room rows a b c d e f g)=b3 (ba,OD ns o m deep ab.length zs room rows a b c d e f g)):SIf R ns room deep m o ab zs rows a g (OD ns n m deep ab.length zs room rows a b c d e f g):=by
 obtain⟨q,P,Q⟩:=YZ ns o (zs.map .int) hl (by lia) (by simpa using t);obtain⟨k,v,rfl⟩:=Cu.mp P;have F:=ZH ns (o+1) m hl (by lia) (by lia);have d0:=SW ns (o+1) (b:=m) (by lia);have S:=M9 ns (o+1) (b:=m) (by lia);obtain⟨i,hi⟩:=Lx d0;rw[hi]at F S;obtain⟨x,N,L,K,U,J,s⟩:=E (ab++[bb]) zs (o+2) (i-i/2) (λz h=>(hz z h).app) (by simp;lia) (by simp;lia) (by lia);obtain⟨y,M,I,H,T,G,r⟩:=E (ab++[bb]++VJ x.size) zs N (i/2) (λz h=>(hz z h).app.app) (by simp;lia) (by simp;lia) (by lia);have p:x.size+y.size=i:=by lia
 have f1:(i:Int)/2=((i/2:Nat):Int):=by lia
 have w:(i:Int)-((i/2:Nat):Int)=((i-i/2:Nat):Int):=by lia
 have f3:((m-(1+i):Nat):Int)=(m:Int)-1-i:=by lia
 have C:(ab++[bb]).length=ab.length+1:=by simp
 have B:(ab++[bb]++VJ x.size).length=ab.length+1+(i-i/2):=by simp;lia
 have A:ab.length+1+(i-i/2)+i/2=ab.length+(1+i):=by lia
 rw[C]at s;rw[B,A]at r;refine⟨k,x,y,M,.va (.int k),.va (.int i),.va (.int ((i/2:Nat):Int)),.va (.tup x.dats),.va (.tup y.dats),hz k v,L,I,by lia,by lia,by lia,?_⟩;have tk:=WI (zs:=zs);have u:rows.length<16777216:=by lia
 unfold aN;unfold Tst at D;rw[Yt,D,p,f3];simp only[OD,sD]at s r⊢;generalize zs.map c6.int=Z at*;generalize x.dats=X at*;generalize y.dats=Y at*;clear p C B A K J H G;generalize i-i/2=l at*;generalize i/2=j at*;simp only[Int.natCast_add,Int.natCast_one]at s r;simp[c6.hard,cDiv,tk,Q,F,f1,w,s,r,u]
inductive RLp(R:bW)(q:Nat)(ns:List Int)(room:Int)(deep m n:Nat)(ab:List Bool)(zs:List Int)(rows:List c6)(a:Sl)(δ:Ev):Prop
 |mk (t:Ts) (n':Nat) (ex:List Int) (b' c' d' e' f' g':Sl) (h1:t.Wf ab) (h2:t.size=m) (h3:t.dep+deep<=3) (h4:n'<=n+12*m) (h5:bA (fB (f2 oGt (fV 2) (fC (.int 0)))) (aN R) (q+1) δ=b3 (.nx (OD ns n' 0 deep (ab.length+m) (zs++ex) room (rows++t.dats) a b' c' d' e' f' g'))):RLp R q ns room deep m n ab zs rows a δ
theorem KG{R:bW}(hl:ns.length<=63)(u:0<room)(i:room<=64)(hd:deep<=3)(w:deep<3->RSp ns room (deep+1) R):∀(q m:Nat) {ab:List Bool}{zs:List Int}{n:Nat}{rows:List c6},m<=q->(∀z∈zs,Ab ab z)->zs.length<=ab.length->ab.length+m<=16->rows.length+m<=100->n+12*m<500000->∀a b c d e f g,RLp R q ns room deep m n ab zs rows a (OD ns n m deep ab.length zs room rows a b c d e f g)
 |q,0,ab,zs,n,rows,_,_,_,_,_,_,a,b,c,d,e,f,g=>⟨.nil,n,[],b,c,d,e,f,g,trivial,rfl,by simpa[Ts.dep]using hd,by lia,by rw[RP (δ1:=OD ns n 0 deep ab.length zs room rows a b c d e f g) (by simp[OD])];simp[Ts.dats]⟩
 |0,m+1,ab,zs,n,rows,h,_,_,_,_,_,a,b,c,d,e,f,g=>by lia
 | q + 1,m + 1,ab,zs,n,rows,hq,hz,p,hk,hw,hn,a,b,c,d,e,f,g => by
  have H:fB (f2 oGt (fV 2) (fC (.int 0))) (OD ns n ((m+1:Nat):Int) deep ab.length zs room rows a b c d e f g)=b3 (ba,OD ns n ((m+1:Nat):Int) deep ab.length zs room rows a b c d e f g):=by
   have:0<((m+1:Nat):Int):=by lia
   generalize ((m+1:Nat):Int)=M at*;simp[OD,this]
  obtain⟨n1,t,Q,t2,t3,te⟩:=eP (ns:=ns) (room:=room) (deep:=deep) (n:=n) (N:=ab.length) (m:=((m+1:Nat):Int)) (zs:=zs) (rows:=rows) hl (by lia) a b c d e f g;cases t with
  |false=>
   obtain⟨r,o,T,r1,r2,C⟩:=gA (R:=R) hl (by lia) u i (by lia) (by lia) te;have s:∀z∈(if r.mk=ba then zs++[(ab.length:Int)]else zs),Ab (ab++[r.mk]) z:=λz h=>by
    split at h
    ·rename_i hk
     rcases Bx.mp h with h|h
     ·exact(hz z h).app
     ·rw[At.mp h,hk];exact Ab.new
    ·exact(hz z h).app
   obtain⟨t,n',ex,F,E,d',D,A,g',l,P,G,O,j⟩:=KG hl u i hd w q m (n:=o) (rows:=rows++[r.dat]) (by lia) s (by split<;>simp<;>lia) (by simp;lia) (by simp;lia) (by lia) a b c d e f (.va r.dat);refine⟨.row r t,n',(if r.mk=ba then[(ab.length:Int)]else[])++ex,F,E,d',D,A,g',⟨T.imp hz,l⟩,by simp only[Ts.size];lia,by simp only[Ts.dep];exact G,by lia,?_⟩;rw[RQ H C,show((m+1:Nat):Int)-1=m by lia];rw[Bv,Eb]at j;rw[j,show ab.length+1+m=ab.length+(m+1) by lia];rw[Ts.dats,Ay,Ir];split<;>simp
  |true=>
   obtain⟨J,I,Y⟩:=Q rfl;obtain⟨k,x,y,o,X,W,V,B,f1,v,L,K,Z,dp,U,C⟩:=eY (w I) hl (by lia) (by lia) hz p J hk (by lia) te;obtain⟨t,n',ex,F,E,d',D,A,g',l,P,G,O,j⟩:=KG hl u i hd w q (m+1-(1+(x.size+y.size))) (ab:=ab++[bb]++VJ x.size++VJ y.size) (zs:=zs) (n:=o) (rows:=rows++[.tup [.str "if",.int k,.tup x.dats,.tup y.dats]]) (by lia) (λz h=>(hz z h).app.app.app) (by simp;lia) (by simp;lia) (by simp;lia) (by lia) a X W V B f1 g;refine⟨.ifs k x y t,n',ex,F,E,d',D,A,g',⟨v,L,K,l⟩,by simp only[Ts.size];lia,by simp only[Ts.dep];lia,by lia,?_⟩;have S:(ab++[bb]++VJ x.size++VJ y.size).length=ab.length+(1+(x.size+y.size)):=by simp;lia
   rw[S]at j;rw[RQ H C,j,show ab.length+(1+(x.size+y.size))+(m+1-(1+(x.size+y.size)))=ab.length+(m+1) by lia];rw[Ts.dats,Ay,Ir]
def N6{R:bW}(hl:ns.length<=63)(q:0<room)(d:room<=64)(hd:deep<=3)(s:deep<3->RSp ns room (deep+1) R){ab:List Bool}{zs:List Int}{n m:Nat}(hz:∀z∈zs,Ab ab z)(b:zs.length<=ab.length)(hk:ab.length+m<=16)(r:n+12*m<500000):∃(t:Ts) (n':Nat) (ex:List Int),t.Wf ab/\t.size=m/\t.dep+deep<=3/\n'<=n+12*m/\Z9 14 [1,4] (ZQ R) [V6 ns,XT n,.int m,.int deep,sD ab.length zs,.int room]=b3 (.tup t.dats,[XT n',sD (ab.length+m) (if deep=0 then zs++ex else zs)]):=by
 obtain⟨t,n',ex,A,y,d',x,w,g',o,l,k,j,e⟩:=KG (R:=R) hl q d hd s m m (n:=n) (rows:=[]) (Aq _) hz b hk (by simp;lia) r (.va (.int zs.length)) .no .no .no .no .no .no;refine⟨t,n',ex,o,l,k,j,?_⟩;have e:=QJ e;rw[Fc]at e;have c:((zs++ex).map c6.int).length=zs.length+ex.length:=by simp
 have tk:((zs++ex).map c6.int).take (zs++ex).length=(zs++ex).map .int:=WI;have u:((zs++ex).map c6.int).drop (zs++ex).length=[]:=K8;have p:((zs++ex).map c6.int).take zs.length=zs.map .int:=by rw[Gd];exact Rm (by simp)
 have a:=WI (zs:=zs);have g:(zs.map c6.int).length=zs.length:=by simp
 have c0:¬(zs.length:Int)<0:=by lia
 have v:(zs.length:Int)<=(zs.length:Int)+ex.length:=by lia
 rw[bK,ZQ.eq_1];simp only[OD,sD]at e⊢;generalize t.dats=T at*;by_cases h:deep=0
 ·subst h
  rw[if_pos rfl];generalize (zs++ex).map c6.int=Y at*;generalize zs.map c6.int=Z at*;generalize (zs++ex).length=i at*;rw[show((0:Nat):Int)=0 from rfl]at e⊢;simp[bG,a,g,e]
 ·have f : 0 < deep := by lia
  rw[if_neg h];generalize (zs++ex).map c6.int=Y at*;generalize zs.map c6.int=Z at*;generalize (zs++ex).length=i at*;simp[bG,a,g,e,f,tk,u,p,c,v]
theorem EF(hl:ns.length<=63)(i:0<room)(b:room<=64):∀(q deep:Nat),3<=deep+q->deep<=3->0<deep->RSp ns room deep (bB (q+1))
 |0,deep,k,hd,l=>λab zs n m hz a hk j=>by obtain⟨t,n',ex,g,f,d,c,e⟩:=N6 (R:=bB 0) hl i b hd (λh=>by lia) hz a hk j;rw[if_neg (by lia)]at e;exact⟨t,n',g,f,d,c,e⟩
 |q+1,deep,k,hd,l=>λab zs n m hz a hk j=>by obtain⟨t,n',ex,g,f,d,c,e⟩:=N6 (R:=bB (q+1)) hl i b hd (λh=>EF hl i b q (deep+1) (by lia) (by lia) (by lia)) hz a hk j;rw[if_neg (by lia)]at e;exact⟨t,n',g,f,d,c,e⟩
def nG(hl:ns.length<=63)(b:0<room)(a:room<=64){n m:Nat}(j:m<=16)(i:n+12*m<500000):∃(t:Ts) (n':Nat) (d:c6),t.Wf []/\t.size=m/\t.dep<=3/\n'<=n+12*m/\bB 8 [V6 ns,XT n,.int m,.int 0,.nst [b4,b3 0] [.int 0],.int room]=b3 (.tup t.dats,[XT n',d]):=by obtain⟨t,n',ex,g,f,k,c,e⟩:=N6 (R:=bB 7) (deep:=0) (ab:=[]) (zs:=[]) hl b a (by lia) (λh=>EF hl b a 6 1 (by lia) (by lia) (by lia)) (λ_ h=>nomatch h) (Aq _) (by simpa using j) i;exact⟨t,n',_,g,f,by lia,c,e⟩
def nJ(hl:ns.length<=63){n:Nat}(w:n<1000):∃(sure:Int) (t:Ts) (n':Nat),t.Wf []/\t.size<=12/\t.dep<=3/\0<=sure/\sure<=64/\n'<=n+300/\ZI [V6 ns,XT n,.int 12]=b3 (.tup [.int sure,.tup t.dats],[XT n']):=by
 obtain⟨x,d,ex⟩:=YZ ns n [.int 3,.int 6,.int 64] hl (by lia) (by simp);obtain⟨room,rfl,j,i⟩:∃q:Int,x=.int q/\0<q/\q<=64:=by simp only[Ak,Ax,or_false]at d;rcases d with rfl|rfl|rfl<;>exact⟨_,rfl,by lia,by lia⟩
 have e:=ZH ns (n+1) 13 hl (by lia) (by lia);have l:=SW ns (n+1) (b:=13) (by lia);have k:=M9 ns (n+1) (b:=13) (by lia);obtain⟨m,o⟩:=Lx l;rw[o]at e k;obtain⟨t,a,dd,g,v,f,u,r⟩:=nG (ns:=ns) (n:=n+1+1) (m:=m) hl j i (by lia) (by lia);have s:=ZH ns a (room+1) hl (by lia) (by lia);have q0:=SW ns a (b:=room+1) (by lia);have q1:=M9 ns a (b:=room+1) (by lia);obtain⟨y,c,p⟩:=YZ ns (a+1) [.int 0,.int room,.int (MR ns a (room+1))] hl (by lia) (by simp);obtain⟨sure,rfl,h,s1⟩:∃q:Int,y=.int q/\0<=q/\q<=64:=by simp only[Ak,Ax,or_false]at c;rcases c with rfl|rfl|rfl<;>exact⟨_,rfl,by lia,by lia⟩
 refine⟨sure,t,a+1+1,g,by lia,f,h,s1,by lia,?_⟩;generalize MR ns a (room+1)=z at*;generalize t.dats=T at*;unfold ZI;rw[bK];unfold SF;simp[bG,ex,e,r,s,p]
end
section
def fG{kds:List Kd}{a:Int}(h:Nm kds .w a):Ab (kds.map isW) a:=⟨h.1,by rw[Ds,h.2];rfl⟩
def Bl.rws{kds c:List Kd}{rows:List c6}(h:Bl kds rows c):∃b:List Rw,rows=b.map Rw.dat/\Wfs (kds.map isW) b:=by
 induction h with
 |nil=>exact⟨[],rfl,trivial⟩
 | @cons kds c row rows ok _ d=>
  obtain⟨b,e,w⟩:=d;obtain⟨r,rfl,f,g⟩:=ok.rw;refine⟨r::b,by rw[e];rfl,f.imp λa=>fG,?_⟩;rw[Gd,List.map_singleton,g]at w;exact w
noncomputable def IS:List Rw->Ts
 |[]=>.nil
 |r::a=>.row r (IS a)
theorem MD:∀a,(IS a).dats=a.map Rw.dat
 |[]=>rfl
 |r::a=>by rw[IS,Ts.dats,MD a];rfl
theorem QM:∀a,(IS a).size=a.length/\(IS a).dep=0
 |[]=>⟨rfl,rfl⟩
 |r::a=>by obtain⟨h1,h2⟩:=QM a;exact⟨by rw[IS,Ts.size,h1,Bw];lia,h2⟩
theorem ES:∀{a:List Rw}{ab:List Bool},Wfs ab a->(IS a).Wf ab
 |[],_,_=>trivial
 |r::a,_,⟨h1,h2⟩=>⟨h1,ES h2⟩
end
noncomputable def BB(k:Int):Option (c6×List c6)->Bool
 |some (.tup [.str "refused",.int j],[])=>j==k
 |_=>bb
def OS{k:Int}{r:Option (c6×List c6)}(h:BB k r=ba):r=b3 (.tup [.str "refused",.int k],[]):=by
 unfold BB at h;split at h
 ·rw[beq_iff_eq.mp h];rfl
 ·cases h
noncomputable def BA:Option (c6×List c6)->Bool
 |some (.bl bb,[])=>ba
 |_=>bb
def OR{r:Option (c6×List c6)}(h:BA r=ba):r=b3 (.bl bb,[]):=by
 unfold BA at h;split at h
 ·rfl
 ·cases h
noncomputable def badL:List c6:=[.non,.tup [.int 0],.lst (Av 65 (.int 0))]
noncomputable def badR:List (List c6):=[Av 64 (.int 1000),Av 64 (.str "0")]
def kU:badR.all (λds=>BA (Z1 [.lst ds,.int 64]))=ba:=by kernel_rfl
def Zm:(Bf 65).all (λs=>badL.all (λx=>BA (Z1 [x,.int s])))=ba:=by kernel_rfl
def iL:XV [FD (("NoCells":Ue),b4)]=b3 (.tup [.str "refused",.int 1],[]):=by kernel_rfl
def Wi{ds:List c6}(hd:ds∈badR){sure:Int}(s1:sure<=64):Z1 [.lst ds,.int sure]=b3 (.bl bb,[]):=by
 have e:=OR (Dn.mp kU ds hd);have hl:ds.length=64:=by simp only[badR,Ak,Ax,or_false]at hd;rcases hd with rfl|rfl<;>simp
 rw[<-e];unfold Z1;rw[bK,bK];unfold R6;simp[bG,VD,hl,s1];rw[show aV [] [Sl.va (c6.lst ds),Sl.va (c6.int sure)]=aV [] [Sl.va (c6.lst ds),Sl.va (c6.int 64)] from rfl];generalize ZW 0 1 (gN 0) U4 (cP 3 [] bE (aE (fV 0) (aE (fC (c6.int 0)) (aE (fC XW) cE)))) ds [] (aV [] [Sl.va (c6.lst ds),Sl.va (c6.int 64)])=c;rcases c with _|⟨a,b⟩
 ·rfl
 ·show B4 [] (qRet ((BP (.lst a)).map λz => (z,_))) = B4 [] (qRet ((BP (.lst a)).map λz => (z,_)))
  cases BP (.lst a)<;>rfl
def E5{d:c6}(hd:d∈badL){sure:Int}(a:0<=sure)(s1:sure<=64):Z1 [d,.int sure]=b3 (.bl bb,[]):=by
 have:=Dn.mp Zm sure.toNat (Db.mpr (by lia))
 have:=Dn.mp this d hd
 rw[Nz a]at this;exact OR this
def mI:qRet b4=b4:=(rfl)
def pl2{a b:c6}:VR [.d a,.d b]=b3 [a,b]:=(rfl)
def AJ{d t:c6}{sure:Int}(a:cI [.tup [.int sure,t]]=b3 (.bl ba,[]))(hc:Z1 [d,.int sure]=b3 (.bl bb,[])):bD [.int 1,.tup [.int sure,t],d]=b3 (.tup [.str "refused",.int 1],[]):=by
 have r:X2 [.tup [.int sure,t],d]=b3 ((("NoCells":Ue),b4):Xw):=by unfold X2 CA SS;simp[bG,CU,zSeq,zIf,zNo,a,hc]
 unfold bD;rw[bK];unfold P6;simp[bG,sTry,EK,CU,zSeq,zIf,zNo,MK,r,iL,mI,pl2]
noncomputable def gl1:VS:=(a8 1 (xO (bC cR)))
noncomputable def gl2:VS:=(PR 2 3 (xV (cP 3 [1] ZI (aE (fV 0) (aO 1 (aE (fC (.int 12)) cE))))) (xV (cP 3 [1] Z4 (aE (fV 0) (aO 1 (aE (fC (.int 20)) cE))))))
noncomputable def gl3:VS:=(XU (OJ (fB (f2 YQ (cP 1 [] cI (aE (fV 2) cE)) (fC (.bl ba)))) (fB (f2 YQ (cP 1 [] cI (aE (fV 3) cE)) (fC (.bl ba))))) (bP (fC (.bl bb))) aC)
noncomputable def gl4:VS:=(CB (fC (.tup [.tup [.str "load",.int 0],.tup []])) (FE 2 (aL (gN 4) (aL (gN 5) V8))))
noncomputable def gl5:VS:=(UT (FF (fC (.int 3))) (gN 6) C3)
noncomputable def gl6:VS:=(XU (OJ (fB (f2 YQ (cP 1 [] cI (aE (cJ (c7 (fC (.int 1)) (c7 (f2 aS (cJ (c7 (fV 4) cR)) (fV 5)) cR))) cE)) (fC (.bl ba)))) (fB (f2 YQ (cP 1 [] cI (aE (cJ (c7 (fC (.int 1)) (c7 (cJ (c7 (fV 4) (c7 (cJ (c7 (fC (.str "if")) (c7 (fC (.int 0)) (c7 (fV 5) (c7 (cJ cR) cR))))) cR))) cR))) cE)) (fC (.bl bb))))) (bP (fC (.bl bb))) aC)
noncomputable def gl7:VS:=(a8 7 (xV (cJ cR)))
noncomputable def gl8:VS:=(UT (FF (fC (.int 3))) (gN 6) C2)
noncomputable def gl9:VS:=(XU (OJ (fB (f2 YQ (cP 1 [] cI (aE (cJ (c7 (fC (.int 1)) (c7 (f2 aS (cJ (c7 (fV 4) cR)) (fV 7)) cR))) cE)) (fC (.bl ba)))) (fB (f2 YQ (cP 1 [] cI (aE (cJ (c7 (fC (.int 1)) (c7 (cJ (c7 (fV 4) (c7 (cJ (c7 (fC (.str "if")) (c7 (fC (.int 0)) (c7 (cJ cR) (c7 (fV 7) cR))))) cR))) cR))) cE)) (fC (.bl bb))))) (bP (fC (.bl bb))) aC)
noncomputable def gl10:VS:=(a8 8 (xV (cP 3 [1] cF (aE (fV 0) (aO 1 (aE (cP 1 [] aJ (aE (fV 4) cE)) cE))))))
noncomputable def gl11:VS:=(XU (OJ (fB (f2 YQ (cP 1 [] cI (aE (cJ (c7 (fC (.int 1)) (c7 (fV 8) cR))) cE)) (fC (.bl bb)))) (fB (f2 RU (ZX [8] 1 (FF (fC (.int 2))) (gN 1) U4 (cP 3 [] bD (aE (fV 1) (aE (cJ (c7 (fC (.int 1)) (c7 (fV 0) cR))) (aE (fC .non) cE))))) (f2 ZB (fC (.lst [.tup [.str "refused",.int 6]])) (fC (.int 2)))))) (bP (fC (.bl bb))) aC)
noncomputable def gl12:VS:=(a8 9 (xV (cP 3 [1] cF (aE (fV 0) (aO 1 (aE (fC (.lst [.non,.int 5,.tup [],.tup [.int 0],.lst [.int 0,.tup []],.tup [.int 65,.tup []],.tup [.bl ba,.tup []],.tup [.int 0,.tup [],.tup []],.str "tree"])) cE))))))
noncomputable def gl13:VS:=(XU (OJ (fB (f2 YQ (cP 1 [] cI (aE (fV 9) cE)) (fC (.bl bb)))) (fB (f2 RU (ZX [9] 1 (FF (fC (.int 2))) (gN 1) U4 (cP 3 [] bD (aE (fV 1) (aE (fV 0) (aE (fC .non) cE))))) (f2 ZB (fC (.lst [.tup [.str "refused",.int 6]])) (fC (.int 2)))))) (bP (fC (.bl bb))) aC)
noncomputable def gl14:VS:=(UT (U5 (bC (c7 (fC .non) (c7 (cJ (c7 (fC (.int 0)) cR)) (c7 (f2 ZB (bC (c7 (fC (.int 0)) cR)) (fC (.int 65))) (c7 (f2 ZB (bC (c7 (fC (.int 1000)) cR)) (fC (.int 64))) (c7 (f2 ZB (bC (c7 (fC (.str "0")) cR)) (fC (.int 64))) cR))))))) (gN 10) TQ)
noncomputable def gl15:VS:=(a8 11 (xV (cJ (c7 (fV 4) (c7 (cJ (c7 (fC (.str "plus")) (c7 (fC (.int 4)) (c7 (fC (.int 0)) cR)))) (c7 (fC (.tup [.str "if",.int 5,.tup [.tup [.str "store",.int 3,.int 5]],.tup []])) cR))))))
noncomputable def gl16:VS:=(a8 12 (xV (cJ (c7 (fV 4) (c7 (cJ (c7 (fC (.str "if")) (c7 (fC (.int 0)) (c7 (cJ (c7 (fV 4) (c7 (cJ (c7 (fC (.str "plus")) (c7 (fC (.int 0)) (c7 (fC (.int 2)) cR)))) cR))) (c7 (fV 11) cR))))) (c7 (cJ (c7 (fC (.str "plus")) (c7 (fC (.int 0)) (c7 (fC (.int 0)) cR)))) cR))))))
noncomputable def gl17:VS:=(bP (RZ (f2 BQ (cP 1 [] cI (aE (cJ (c7 (fC (.int 0)) (c7 (fV 12) cR))) cE)) (fC (.bl ba))) (f2 BQ (cP 1 [] cI (aE (cJ (c7 (fC (.int 1)) (c7 (cJ (c7 (fV 4) (c7 (cJ (c7 (fC (.str "if")) (c7 (fC (.int 0)) (c7 (f2 ZB (cJ (c7 (fV 4) cR)) (fC (.int 9))) (c7 (f2 ZB (cJ (c7 (fV 4) cR)) (fC (.int 9))) cR))))) cR))) cR))) cE)) (fC (.bl ba)))))
def kN:Vb=cK gl1 (cK gl2 (cK gl3 (cK gl4 (cK gl5 (cK gl6 (cK gl7 (cK gl8 (cK gl9 (cK gl10 (cK gl11 (cK gl12 (cK gl13 (cK gl14 (cK gl15 (cK gl16 (gl17)))))))))))))))):=rfl
abbrev rf(k:Int):c6:=.tup [.str "refused",.int k]
abbrev MX:c6:=.tup [.str "load",.int 0]
noncomputable def AK:List c6:=match aJ [MX]with
 |some (.lst ds,_)=>ds
 |_=>[]
def fR:aJ [MX]=b3 (.lst AK,[]):=by kernel_rfl
def pX:AK.length=16:=by kernel_rfl
def AL:AK.all (λx=>BA (cI [.tup [.int 1,x]])&&(BB 6 (bD [.int 0,.tup [.int 1,x],.non])&&BB 6 (bD [.int 1,.tup [.int 1,x],.non])))=ba:=by kernel_rfl
noncomputable def BS:List c6:=[.non,.int 5,.tup [],.tup [.int 0],.lst [.int 0,.tup []],.tup [.int 65,.tup []],.tup [.bl ba,.tup []],.tup [.int 0,.tup [],.tup []],.str "tree"]
def BU:BS.all (λx=>BA (cI [x])&&(BB 6 (bD [.int 0,x,.non])&&BB 6 (bD [.int 1,x,.non])))=ba:=by kernel_rfl
noncomputable def dpT:Nat->c6
 |0=>.tup []
 |n+1=>.tup [.tup [.str "if",.int 0,dpT n,.tup [MX]]]
noncomputable def lsT:Nat->c6
 |0=>.tup []
 |n+1=>.tup [.tup [.str "if",.int 0,.tup [MX],lsT n]]
noncomputable def GQ:List c6:=[.non,.tup [.int 0],.lst (Av 65 (.int 0)),.lst (Av 64 (.int 1000)),.lst (Av 64 (.str "0"))]
def Zi:RU (rf 1) (rf 1)=b3 (.bl bb):=by kernel_rfl
def nb_t:YQ (.bl ba) (.bl ba)=b3 (.bl bb):=(rfl)
def nb_f:YQ (.bl bb) (.bl bb)=b3 (.bl bb):=(rfl)
def eS(a:c6):gl1 [.va a,.no,.no,.no,.no,.no,.no,.no,.no,.no,.no,.no,.no]=b3 (.nx [.va a,.ow (.lst []),.no,.no,.no,.no,.no,.no,.no,.no,.no,.no,.no]):=rfl
def Zq{a b t l d c:c6}(h:ZI [a,b,.int 12]=b3 (t,[d]))(h2:Z4 [a,d,.int 20]=b3 (l,[c])):gl2 [.va a,.ow b,.no,.no,.no,.no,.no,.no,.no,.no,.no,.no,.no]=b3 (.nx [.va a,.ow c,.va t,.va l,.no,.no,.no,.no,.no,.no,.no,.no,.no]):=by unfold gl2;simp[h,h2]
def pT{a b t l:c6}(h:cI [t]=b3 (.bl ba,[]))(h2:cI [l]=b3 (.bl ba,[])):gl3 [.va a,.ow b,.va t,.va l,.no,.no,.no,.no,.no,.no,.no,.no,.no]=b3 (.nx [.va a,.ow b,.va t,.va l,.no,.no,.no,.no,.no,.no,.no,.no,.no]):=by unfold gl3;simp[h,h2,nb_t]
def nI{a b c d:Sl}:gl4 [a,b,c,d,.no,.no,.no,.no,.no,.no,.no,.no,.no]=b3 (.nx [a,b,c,d,.va MX,.va (dpT 0),.no,.no,.no,.no,.no,.no,.no]):=by kernel_rfl
def eR{a b c d:Sl}:gl5 [a,b,c,d,.va MX,.va (dpT 0),.no,.no,.no,.no,.no,.no,.no]=b3 (.nx [a,b,c,d,.va MX,.va (dpT 3),.va (.int 2),.no,.no,.no,.no,.no,.no]):=by kernel_rfl
def iM{a b c d:Sl}:gl6 [a,b,c,d,.va MX,.va (dpT 3),.va (.int 2),.no,.no,.no,.no,.no,.no]=b3 (.nx [a,b,c,d,.va MX,.va (dpT 3),.va (.int 2),.no,.no,.no,.no,.no,.no]):=by kernel_rfl
def nU{a b c d e f g:Sl}:gl7 [a,b,c,d,e,f,g,.no,.no,.no,.no,.no,.no]=b3 (.nx [a,b,c,d,e,f,g,.va (lsT 0),.no,.no,.no,.no,.no]):=by kernel_rfl
def iT{a b c d f g:Sl}:gl8 [a,b,c,d,.va MX,f,g,.va (lsT 0),.no,.no,.no,.no,.no]=b3 (.nx [a,b,c,d,.va MX,f,.va (.int 2),.va (lsT 3),.no,.no,.no,.no,.no]):=by kernel_rfl
def mE{a b c d f g:Sl}:gl9 [a,b,c,d,.va MX,f,g,.va (lsT 3),.no,.no,.no,.no,.no]=b3 (.nx [a,b,c,d,.va MX,f,g,.va (lsT 3),.no,.no,.no,.no,.no]):=by kernel_rfl
def dZ{a b x i:c6}{c d f g e:Sl}(h:cF [a,b,.lst AK]=b3 (x,[i])):gl10 [.va a,.ow b,c,d,.va MX,f,g,e,.no,.no,.no,.no,.no]=b3 (.nx [.va a,.ow i,c,d,.va MX,f,g,e,.va x,.no,.no,.no,.no]):=by unfold gl10;simp[h,fR]
def rep2:WZ 2 [c6.tup [.str "refused",.int 6]]=[rf 6,rf 6]:=(rfl)
def ne2:RU (.lst [rf 6,rf 6]) (.lst [rf 6,rf 6])=b3 (.bl bb):=by kernel_rfl
def lU{x:c6}{a b c d e f g h:Sl}(j:x∈AK):gl11 [a,b,c,d,e,f,g,h,.va x,.no,.no,.no,.no]=b3 (.nx [a,b,c,d,e,f,g,h,.va x,.no,.no,.no,.no]):=by
 have:=Dn.mp AL x j
 obtain⟨h1,this⟩:=(Af _ _).mp this;obtain⟨h2,i⟩:=(Af _ _).mp this;have h1:=OR h1;have h2:_=b3 (rf 6,[]):=OS h2;have i:_=b3 (rf 6,[]):=OS i;unfold gl11;simp[h1,h2,i,aV,rep2,ne2,nb_f]
def fU{a b x k:c6}{c d f g e h i:Sl}(j:cF [a,b,.lst BS]=b3 (x,[k])):gl12 [.va a,.ow b,c,d,e,f,g,h,i,.no,.no,.no,.no]=b3 (.nx [.va a,.ow k,c,d,e,f,g,h,i,.va x,.no,.no,.no]):=by unfold BS at j;unfold gl12;simp[j]
def gU{x:c6}{a b c d e f g h i:Sl}(k:x∈BS):gl13 [a,b,c,d,e,f,g,h,i,.va x,.no,.no,.no]=b3 (.nx [a,b,c,d,e,f,g,h,i,.va x,.no,.no,.no]):=by
 have:=Dn.mp BU x k
 obtain⟨h1,this⟩:=(Af _ _).mp this;obtain⟨h2,j⟩:=(Af _ _).mp this;have h1:=OR h1;have h2:_=b3 (rf 6,[]):=OS h2;have j:_=b3 (rf 6,[]):=OS j;unfold gl13;simp[h1,h2,j,aV,rep2,ne2,nb_f]
def b1_e{a b d e f g h i j:Sl}{l x:c6}{u v:Sl}(c:bD [.int 1,l,x]=b3 (rf 1,[])):TQ [a,b,.va l,d,e,f,g,h,i,j,.va x,u,v]=b3 (.nx [a,b,.va l,d,e,f,g,h,i,j,.va x,u,v]):=by unfold TQ;simp[c,Zi]
def jA{a b d e f g h i j:Sl}{t:c6}{sure:Int}(l:0<=sure)(s1:sure<=64)(q:cI [.tup [.int sure,t]]=b3 (.bl ba,[])):∃u:Sl,gl14 [a,b,.va (.tup [.int sure,t]),d,e,f,g,h,i,j,.no,.no,.no]=b3 (.nx [a,b,.va (.tup [.int sure,t]),d,e,f,g,h,i,j,u,.no,.no]):=by
 have p:∀x∈GQ,bD [.int 1,.tup [.int sure,t],x]=b3 (rf 1,[]):=λx n=>AJ q (by
  simp only[GQ,Ak,Ax,or_false]at n;rcases n with rfl|rfl|rfl|rfl|rfl
  ·exact E5 (by simp[badL]) l s1
  ·exact E5 (by simp[badL]) l s1
  ·exact E5 (by simp[badL]) l s1
  ·exact Wi (by simp[badR]) s1
  ·exact Wi (by simp[badR]) s1)
 have run:∀(ds:List c6) (u:Sl),(∀x∈ds,x∈GQ)->∃k,WW (gN 10) TQ ds [a,b,.va (.tup [.int sure,t]),d,e,f,g,h,i,j,u,.no,.no]=b3 (.nx [a,b,.va (.tup [.int sure,t]),d,e,f,g,h,i,j,k,.no,.no]):=by
  intro ds;induction ds with
  |nil=>exact λu _=>⟨u,by simp⟩
  |cons x ds o=>
   intro u hd;obtain⟨k,m⟩:=o (.va x) λz hz=>hd z (Am _ hz);refine⟨k,?_⟩;have r:=b1_e (a:=a) (b:=b) (d:=d) (e:=e) (f:=f) (g:=g) (h:=h) (i:=i) (j:=j) (u:=.no) (v:=.no) (p x (hd x Au));simp[r,m]
 obtain⟨k,m⟩:=run GQ .no λ_ h=>h;refine⟨k,?_⟩;have c:gl14=UT (λδ=>b3 (GQ,δ)) (gN 10) TQ:=by kernel_rfl
 rw[c];exact m
def gY{a b c d f g h i j k:Sl}:cK gl15 (cK gl16 gl17) [a,b,c,d,.va MX,f,g,h,i,j,k,.no,.no]=b3 (.rt (.bl ba) [a,b,c,d,.va MX,f,g,h,i,j,k,.va (.tup [MX,.tup [.str "plus",.int 4,.int 0],.tup [.str "if",.int 5,.tup [.tup [.str "store",.int 3,.int 5]],.tup []]]),.va (.tup [MX,.tup [.str "if",.int 0,.tup [MX,.tup [.str "plus",.int 0,.int 2]],.tup [MX,.tup [.str "plus",.int 4,.int 0],.tup [.str "if",.int 5,.tup [.tup [.str "store",.int 3,.int 5]],.tup []]]],.tup [.str "plus",.int 0,.int 0]])]):=by kernel_rfl
end L2
namespace RR
open PySem L2
def eO(ns:List Int)(hl:ns.length<=63):KP [.lst (ns.map .int)]=b3 (.bl ba,[]):=by obtain⟨sure,t,s,h1,h2,B,r,s1,k1,E⟩:=nJ (n:=0) hl (by lia);obtain⟨q,rows,kds,k,F,v,q0,q1,k2,D⟩:=nX ns s 20 hl (by lia) (by decide) (by decide);obtain⟨c,rfl,wf⟩:=F.rws;rw[Ci]at v;have p:=Vw (sure:=sure) B h1 (by lia) r s1;have o:=Vw (sure:=q) (t:=IS c) (by rw[(QM c).2];lia) (ES wf) (by rw[(QM c).1];lia) q0 q1;rw[MD]at o;obtain⟨x,z,ex⟩:=YZ ns k AK hl (by lia) (by rw[pX];decide);obtain⟨y,w,C⟩:=YZ ns (k+1) BS hl (by lia) (by simp[BS]);have l:c6.lst []=XT 0:=rfl;have A:c6.lst (ns.map .int)=V6 ns:=rfl;obtain⟨u,m⟩:=jA (a:=.va (V6 ns)) (b:=.ow (XT (k+1+1))) (d:=.va (.tup [.int q,.tup (c.map Rw.dat)])) (e:=.va MX) (f:=.va (dpT 3)) (g:=.va (.int 2)) (h:=.va (lsT 3)) (i:=.va x) (j:=.va y) r s1 p;rw[A];unfold KP;rw[bK,kN,show bG [] 13 [V6 ns]=[.va (V6 ns),.no,.no,.no,.no,.no,.no,.no,.no,.no,.no,.no,.no] from rfl];rw[Y9,eS,TF,l,Y9,Zq E D,TF,Y9,pT p o,TF,Y9,nI,TF,Y9,eR,TF,Y9,iM,TF,Y9,nU,TF,Y9,iT,TF,Y9,mE,TF,Y9,dZ ex,TF,Y9,lU z,TF,Y9,fU C,TF,Y9,gU w,TF,Y9,m,TF,gY];rfl
end RR
namespace KK
open PySem PySem.W
noncomputable abbrev g(a i:Nat)(n:Ue)(d m:Ua):Ul:=⟨.type "function",b4,.func (fnOf n n (L2.YX (RR.top i)) (L2.aQ (RR.top i)) (L2.cV (RR.top i)) d .none .none m b4 (.ref (a-1)) .none),#[]⟩
def p(P:Py)(a i:Nat)(n:Ue)(m:Ua)(h1:nsIn (K P) Ug n=b3 (b3 (.ref a)):=by kernel_rfl)(h2:(K P).lookup a=b3 (g a i n .none m):=by kernel_rfl)(b:codeIn (K P) (.ref (a-1)) n=ba:=by kernel_rfl):L2.A4 (K P) n (RR.top i) a:=L2.a4 h1 h2 b (by unfold keepIn;simp only[h2])
end KK
namespace RR
open PySem L2
abbrev Zn(K:Ah)(x:Ue):Prop:=Gr K Ug x=b3 b4
abbrev Gn(K:Ah)(x:Ue)(v:Ua):Prop:=Gr K Ug x=b3 (b3 v)
theorem JF{α:Type}{P:List α->Prop}(z:∀a,P [a]):∀b:List α,b.length=1->P b
 |[a],_=>z a
theorem EY{α:Type}{P:List α->Prop}(z:∀a b,P [a,b]):∀c:List α,c.length=2->P c
 |[a,b],_=>z a b
theorem O7{α:Type}{P:List α->Prop}(z:∀a b c,P [a,b,c]):∀d:List α,d.length=3->P d
 |[a,b,c],_=>z a b c
theorem Len4{α:Type}{P:List α->Prop}(z:∀a b c d,P [a,b,c,d]):∀e:List α,e.length=4->P e
 |[a,b,c,d],_=>z a b c d
theorem Len5{α:Type}{P:List α->Prop}(z:∀a b c d e,P [a,b,c,d,e]):∀f:List α,f.length=5->P f
 |[a,b,c,d,e],_=>z a b c d e
theorem Len6{α:Type}{P:List α->Prop}(z:∀a b c d e f,P [a,b,c,d,e,f]):∀g:List α,g.length=6->P g
 |[a,b,c,d,e,f],_=>z a b c d e f
def zK2{l:Tl}{w:Uj}{K:Ah}{h:Uk}{mg:Ue->Option Ua}{fa:Ub}(X:K.In h)(G:h.Ns Ug mg)(d:mg "law"=b3 (.ref fa))(O:A4 K "is_whole" (top 19) 224)(P:A4 K "parts_of" (top 38) 305)(Q:A4 K "makes_word" (top 39) 312)(R:A4 K "may_name" (top 43) 338)(S:A4 K "fits" (top 44) 345)(V:A4 K "is_row" (top 45) 350)(W:A4 K "is_cells" (top 48) 355)(Y:A4 K "is_if" (top 57) 384)(Z:A4 K "sight_behind_if" (top 58) 391)(m:A4 K "sight_behind" (top 59) 398)(l9:A4 K "is_tree" (top 60) 405)(l8:A4 K "run_tree" (top 63) 424)(l7:A4 K "flattened" (top 65) 483)(l6:A4 K "_law_cell_at" (top 67) 490)(l5:A4 K "_law_mixed" (top 68) 497)(l4:A4 K "_law_draw" (top 69) 504)(kz:A4 K "_law_pick" (top 70) 511)(ky:A4 K "_law_place" (top 71) 518)(kx:A4 K "_law_row" (top 72) 523)(kr:A4 K "_law_next" (top 74) 537)(ku:A4 K "_law_rows" (top 73) 530)(ko:A4 K "_law_names" (top 76) 549)(km:A4 K "_law_may" (top 77) 554)(kl:A4 K "_law_must" (top 78) 559)(ki:A4 K "_law_mixed_order" (top 80) 571)(kg:A4 K "_law_renamed" (top 81) 576)(kq:A4 K "_law_block" (top 75) 542)(kj:A4 K "_law_which" (top 79) 566)(o:A4 K "_law_tree_rows" (top 82) 583)(kf:A4 K "_law_tree" (top 83) 590)(k9:A4 K "_law_ask" (top 84) 597)(k8:A4 K "_law_bad_trees" (top 85) 604)(mm:Gr K Ug "law"=b3 (b3 (.ref 609)))(lr:K.lookup 609=b3 ⟨.type "function",b4,.func (Ma "law" "law" (YX (top 86)) (aQ (top 86)) (cV (top 86)) .none .none .none (.str "law_lanepacks_k28_trees" 862) b4 (.ref 608) .none),#[]⟩)(mj:Od K (.ref 608) "law"=ba)(lu:Ja K (.ref 609)=ba)(jy:Zn K "len")(iu:Zn K "range")(jw:Zn K "min")(jx:Zn K "max")(jc:Zn K "list")(iq:Zn K "tuple")(gv:Zn K "sorted")(dh:Zn K "isinstance")(je:Zn K "bool")(jz:Zn K "int")(jv:Zn K "str")(dq:Zn K "enumerate")(ju:Zn K "zip")(k4:Zn K "all")(jd:Zn K "dict")(di:Zn K "ValueError")(fj:Gn K "MOST_WORD" (.int 999 460))(N:K.lookup 217=b3 ⟨.type "tuple",b4,.seq #[.str "plus" 462,.str "minus" 463,.str "times" 464,.str "least" 465,.str "most" 466,.str "less" 467,.str "over" 468] 0,#[]⟩)(iz:Gn K "DEEDS" (.ref 217))(fm:Gn K "MOST_SURE" (.int 64 570))(dj:Gn K "MOST_PLACE" (.int 63 574))(lm:K.lookup 289=b3 ⟨.type "tuple",b4,.seq #[.str "row" 576,.str "row" 577] 0,#[]⟩)(dn:Gn K "DEED_PARTS" (.ref 289))(ll:K.lookup 291=b3 ⟨.type "tuple",b4,.seq #[.str "word" 580] 0,#[]⟩)(lj:K.lookup 292=b3 ⟨.type "tuple",b4,.seq #[.str "row" 582,.str "row" 583,.str "row" 584] 0,#[]⟩)(li:K.lookup 293=b3 ⟨.type "tuple",b4,.seq #[.str "place" 586] 0,#[]⟩)(lh:K.lookup 294=b3 ⟨.type "tuple",b4,.seq #[.str "place" 588,.str "row" 589,.str "row" 590] 0,#[]⟩)(lg:K.lookup 295=b3 ⟨.type "tuple",b4,.seq #[.str "place" 592,.str "row" 593] 0,#[]⟩)(lf:K.lookup 296=b3 ⟨.type "tuple",b4,.seq #[.str "place" 595,.str "row" 596,.str "row" 597] 0,#[]⟩)(lc:K.lookup 290=b3 ⟨.type "dict",b4,.dict #[⟨Fg w.params "number",.str "number" 579,.ref 291⟩,⟨Fg w.params "pick",.str "pick" 581,.ref 292⟩,⟨Fg w.params "load",.str "load" 585,.ref 293⟩,⟨Fg w.params "take",.str "take" 587,.ref 294⟩,⟨Fg w.params "store",.str "store" 591,.ref 295⟩,⟨Fg w.params "put",.str "put" 594,.ref 296⟩] 6,#[]⟩)(lq:(290==Ga)=bb)(d5:Gn K "OTHER_PARTS" (.ref 290))(lb:K.lookup 298=b3 ⟨.type "tuple",b4,.seq #[.str "store" 608,.str "put" 609] 0,#[]⟩)(gq:Gn K "WRITERS" (.ref 298))(dm:Gn K "MOST_CELLS" (.int 64 671))(cb:Gn K "MOST_TREE_ROWS" (.int 20 713))(fo:Gn K "MOST_DEEP" (.int 3 715))(E:Gn K "Nothing" (.ref 214))(I:Gn K "NotValid" (.ref 202))(F:Gn K "TooLong" (.ref 183))(H:Gn K "TooMany" (.ref 171))(t:Gn K "NoName" (.ref 159))(x:Gn K "NoText" (.ref 140))(r:Gn K "NoLoop" (.ref 128))(y:Gn K "NoTree" (.ref 116))(J:Gn K "NoProgram" (.ref 104))(u:Gn K "NoPlan" (.ref 92))(C:Gn K "NoLanes" (.ref 80))(q:Gn K "NoRow" (.ref 68))(B:Gn K "NoCells" (.ref 49))(A:Gn K "NoBlock" (.ref 37))(j:XE K "NoCells" 49)(i:XE K "NoTree" 116)(L:xiOk K JC U1=ba):∃fd:Dw,(∀(s:Ae) (v:Ua),Pc s fd ⟨[v],[]⟩ [("_law_script",v)])/\∀base:Uk,K.In base->base.Ns Ug mg->aI l.prog w K mg base CX0 24 fa fd ["_law_script"] (spV K [] 1 KP):=by
 have e:=d.symm.trans (Eh X G mm);cases e;have T:Txt K mg:=⟨λ_ _ e=>Eh X G e,Dm X G jy,Dm X G iu,Dm X G jw,Dm X G jx,Dm X G jc,Dm X G iq,Dm X G gv,Dm X G dh,Dm X G je,Dm X G jz,Dm X G jv,Dm X G dq,Dm X G ju,Dm X G k4,Dm X G jd,Dm X G di,⟨_,.ref 217,Eh X G iz,rfl,λ_ _ _=>(.tup (xs:=[.str "plus",.str "minus",.str "times",.str "least",.str "most",.str "less",.str "over"]) (.inr ⟨_,_,_,N,rfl,rfl,(by show 7<=sizeLine;decide),(.cons ⟨_,rfl⟩ (.cons ⟨_,rfl⟩ (.cons ⟨_,rfl⟩ (.cons ⟨_,rfl⟩ (.cons ⟨_,rfl⟩ (.cons ⟨_,rfl⟩ (.cons ⟨_,rfl⟩ .nil)))))))⟩) (.cons (.str _) (.cons (.str _) (.cons (.str _) (.cons (.str _) (.cons (.str _) (.cons (.str _) (.cons (.str _) .nil))))))))⟩,⟨_,.ref 289,Eh X G dn,rfl,λ_ _ _=>(.tup (xs:=[.str "row",.str "row"]) (.inr ⟨_,_,_,lm,rfl,rfl,(by show 2<=sizeLine;decide),(.cons ⟨_,rfl⟩ (.cons ⟨_,rfl⟩ .nil))⟩) (.cons (.str _) (.cons (.str _) .nil)))⟩,⟨_,.int 64,Eh X G dm,⟨_,rfl⟩,λ_ _ _=>(.int _)⟩,⟨_,.int 3,Eh X G fo,⟨_,rfl⟩,λ_ _ _=>(.int _)⟩,⟨_,.int 63,Eh X G dj,⟨_,rfl⟩,λ_ _ _=>(.int _)⟩,⟨_,.int 64,Eh X G fm,⟨_,rfl⟩,λ_ _ _=>(.int _)⟩,⟨_,.int 20,Eh X G cb,⟨_,rfl⟩,λ_ _ _=>(.int _)⟩,⟨_,.int 999,Eh X G fj,⟨_,rfl⟩,λ_ _ _=>(.int _)⟩,⟨_,.ref 290,Eh X G d5,rfl,λ_ _ _=>(.ktb (D:=[("number",.ref 291),("pick",.ref 292),("load",.ref 293),("take",.ref 294),("store",.ref 295),("put",.ref 296)]) ⟨lq,_,_,_,lc,⟨rfl,rfl,rfl⟩,rfl,(.cons rfl rfl (.cons rfl rfl (.cons rfl rfl (.cons rfl rfl (.cons rfl rfl (.cons rfl rfl .nil))))))⟩ (.cons (.tup (xs:=[.str "word"]) (.inr ⟨_,_,_,ll,rfl,rfl,(by show 1<=sizeLine;decide),(.cons ⟨_,rfl⟩ .nil)⟩) (.cons (.str _) .nil)) (.cons (.tup (xs:=[.str "row",.str "row",.str "row"]) (.inr ⟨_,_,_,lj,rfl,rfl,(by show 3<=sizeLine;decide),(.cons ⟨_,rfl⟩ (.cons ⟨_,rfl⟩ (.cons ⟨_,rfl⟩ .nil)))⟩) (.cons (.str _) (.cons (.str _) (.cons (.str _) .nil)))) (.cons (.tup (xs:=[.str "place"]) (.inr ⟨_,_,_,li,rfl,rfl,(by show 1<=sizeLine;decide),(.cons ⟨_,rfl⟩ .nil)⟩) (.cons (.str _) .nil)) (.cons (.tup (xs:=[.str "place",.str "row",.str "row"]) (.inr ⟨_,_,_,lh,rfl,rfl,(by show 3<=sizeLine;decide),(.cons ⟨_,rfl⟩ (.cons ⟨_,rfl⟩ (.cons ⟨_,rfl⟩ .nil)))⟩) (.cons (.str _) (.cons (.str _) (.cons (.str _) .nil)))) (.cons (.tup (xs:=[.str "place",.str "row"]) (.inr ⟨_,_,_,lg,rfl,rfl,(by show 2<=sizeLine;decide),(.cons ⟨_,rfl⟩ (.cons ⟨_,rfl⟩ .nil))⟩) (.cons (.str _) (.cons (.str _) .nil))) (.cons (.tup (xs:=[.str "place",.str "row",.str "row"]) (.inr ⟨_,_,_,lf,rfl,rfl,(by show 3<=sizeLine;decide),(.cons ⟨_,rfl⟩ (.cons ⟨_,rfl⟩ (.cons ⟨_,rfl⟩ .nil)))⟩) (.cons (.str _) (.cons (.str _) (.cons (.str _) .nil)))) .nil)))))))⟩,⟨_,.ref 298,Eh X G gq,rfl,λ_ _ _=>(.tup (xs:=[.str "store",.str "put"]) (.inr ⟨_,_,_,lb,rfl,rfl,(by show 2<=sizeLine;decide),(.cons ⟨_,rfl⟩ (.cons ⟨_,rfl⟩ .nil))⟩) (.cons (.str _) (.cons (.str _) .nil)))⟩,⟨_,.ref 214,Eh X G E,rfl,λ_ _ _=>.fn E⟩,⟨_,.ref 202,Eh X G I,rfl,λ_ _ _=>.fn I⟩,⟨_,.ref 183,Eh X G F,rfl,λ_ _ _=>.fn F⟩,⟨_,.ref 171,Eh X G H,rfl,λ_ _ _=>.fn H⟩,⟨_,.ref 159,Eh X G t,rfl,λ_ _ _=>.fn t⟩,⟨_,.ref 140,Eh X G x,rfl,λ_ _ _=>.fn x⟩,⟨_,.ref 128,Eh X G r,rfl,λ_ _ _=>.fn r⟩,⟨_,.ref 116,Eh X G y,rfl,λ_ _ _=>.fn y⟩,⟨_,.ref 104,Eh X G J,rfl,λ_ _ _=>.fn J⟩,⟨_,.ref 92,Eh X G u,rfl,λ_ _ _=>.fn u⟩,⟨_,.ref 80,Eh X G C,rfl,λ_ _ _=>.fn C⟩,⟨_,.ref 68,Eh X G q,rfl,λ_ _ _=>.fn q⟩,⟨_,.ref 49,Eh X G B,rfl,λ_ _ _=>.fn B⟩,⟨_,.ref 37,Eh X G A,rfl,λ_ _ _=>.fn A⟩,⟨_,j,Eh X G j.xc.at_⟩,⟨_,i,Eh X G i.xc.at_⟩,XI.of (Ng.mpr ⟨⟨_,j.xc⟩,Ng.mpr ⟨⟨_,i.xc⟩,nofun⟩⟩) L⟩
 have mn:=JS (st:=top 86) lr mj lu;refine⟨Ma "law" "law" (YX (top 86)) (aQ (top 86)) (cV (top 86)) .none .none .none (.str "law_lanepacks_k28_trees" 862) b4 (.ref 608) .none,λs v=>.of_eq rfl,λbase _ _=>?_⟩;have c:bQ l.prog w K mg base "is_whole" 1 Qx0 [] bE 224:=YT X G O (λU=>kL U T) (O7 λ_ _ _=>rfl);have jt:bQ l.prog w K mg base "parts_of" 1 Qx1 [] aA 305:=YT X G P (λU=>jC U T) (JF λ_=>rfl);have js:bQ l.prog w K mg base "makes_word" 1 Qx2 [] YB 312:=YT X G Q (λU=>lA U T) (JF λ_=>rfl);have p:bQ l.prog w K mg base "may_name" 2 Qx3 [] ZJ 338:=YT X G R (λU=>fF U T c) (EY λ_ _=>rfl);have jr:bQ l.prog w K mg base "fits" 3 Qx4 [] WJ 345:=YT X G S (λU=>Zg U T c p) (O7 λ_ _ _=>rfl);have jq:bQ l.prog w K mg base "is_row" 4 Qx5 [] V5 350:=YT X G V (λU=>jF U T jt jr) (EY λ_ _=>rfl);have jo:bQ l.prog w K mg base "is_cells" 2 Qx6 [] Z1 355:=YT X G W (λU=>mK U T c) (EY λ_ _=>rfl);have jn:bQ l.prog w K mg base "is_if" 1 Qx7 [] TK 384:=YT X G Y (λU=>dQ U T) (JF λ_=>rfl);have M:∀n,bQ l.prog w K mg base "sight_behind" (4+2*n) Qx9 [] (bM n) 398:=λn=>by
  induction n with
  |zero=>exact(YT X G m (λU=>DS) (O7 λ_ _ _=>rfl))
  |succ n f=>
   have jm:bQ l.prog w K mg base "sight_behind_if" (4+2*n+1) Qx8 [] (Z5 (bM n)) 391:=(YT X G Z (λU=>mY (Iu _ _) U T p f) (O7 λ_ _ _=>rfl));exact(YT X G m (λU=>gE (Iu _ _) U T js jq jn jm) (O7 λ_ _ _=>rfl))
 have f:=M 8;have k:bQ l.prog w K mg base "is_tree" 21 E1 [] cI 405:=YT X G l9 (λU=>kR U T c f) (JF λ_=>rfl);have gf:DefX l.prog w K mg base "run_tree" 22 Qx11 X2 424:=Yc X G l8 (λU=>mB U T jo k) (EY λ_ _=>rfl);have gd:DefX l.prog w K mg base "flattened" 22 Qx12 WP 483:=Yc X G l7 (λU=>pP U T k) (JF λ_=>rfl);have ip:bQ l.prog w K mg base "_law_cell_at" 1 Qx13 [] aF 490:=YT X G l6 (λU=>Yv U T) (EY λ_ _=>rfl);have io:bQ l.prog w K mg base "_law_mixed" 2 Qx14 [] YN 497:=YT X G l5 (λU=>pW U T ip) (O7 λ_ _ _=>rfl);have b:bQ l.prog w K mg base "_law_draw" 3 MM [1] cC 504:=YT X G l4 (λU=>dN U T io) (O7 λ_ _ _=>rfl);have a:bQ l.prog w K mg base "_law_pick" 4 PY [1] cF 511:=YT X G kz (λU=>gD U T b) (O7 λ_ _ _=>rfl);have cy:bQ l.prog w K mg base "_law_place" 5 Qx17 [1,2] aU 518:=YT X G ky (λU=>jP U T b a) (Len5 λ_ _ _ _ _=>rfl);have z:bQ l.prog w K mg base "_law_row" 6 AD [1,3] YO 523:=YT X G kx (λU=>iZ U T b a cy) (Len5 λ_ _ _ _ _=>rfl);have il:bQ l.prog w K mg base "_law_next" 5 Qx20 [1,4] ZU 537:=YT X G kr (λU=>kF U T a) (Len6 λ_ _ _ _ _ _=>rfl);have im:bQ l.prog w K mg base "_law_rows" 7 Qx19 [1] X0 530:=YT X G ku (λU=>gR U T a z il) (Len4 λ_ _ _ _=>rfl);have ij:bQ l.prog w K mg base "_law_names" 1 Qx22 [] aT 549:=YT X G ko (λU=>qq U T) (JF λ_=>rfl);have df:bQ l.prog w K mg base "_law_may" 1 Qx23 [] ZC 554:=YT X G km (λU=>eM U T) (EY λ_ _=>rfl);have ii:bQ l.prog w K mg base "_law_must" 2 Qx24 [] XZ 559:=YT X G kl (λU=>jM U T ij df) (JF λ_=>rfl);have ig:bQ l.prog w K mg base "_law_mixed_order" 5 Qx26 [1] aM 571:=YT X G ki (λU=>Zy U T a ii) (O7 λ_ _ _=>rfl);have i9:bQ l.prog w K mg base "_law_renamed" 1 Qx27 [] b5 576:=YT X G kg (λU=>lT U T) (EY λ_ _=>rfl);have ik:bQ l.prog w K mg base "_law_block" 8 Qx21 [1] Z4 542:=YT X G kq (λU=>qo U T b a im ig i9) (O7 λ_ _ _=>rfl);have gj:DefH l.prog w K mg base "_law_which" 1 Qx25 (spV K [] 1 XV) 566:=fQ X G kj (λU=>nZ U T) (JF λ_=>rfl);have mo:∀n,bQ l.prog w K mg base "_law_tree_rows" (6+1*n) AE [1,4] (bB n) 583:=λn=>by
  induction n with
  |zero=>exact(YT X G o (λU=>DS) (Len6 λ_ _ _ _ _ _=>rfl))
  |succ n g=>
   exact(YT X G o (λU=>Yx (Iu _ _) U T b a z g) (Len6 λ_ _ _ _ _ _=>rfl))
 have g:=mo 8;have i8:bQ l.prog w K mg base "_law_tree" 15 Qx29 [1] ZI 590:=YT X G kf (λU=>pH U T b a g) (O7 λ_ _ _=>rfl);have fw:bQ l.prog w K mg base "_law_ask" 23 Qx30 [] bD 597:=YT X G k9 (λU=>fE U T gj gf gd) (O7 λ_ _ _=>rfl);have i7:bQ l.prog w K mg base "_law_bad_trees" 1 Qx31 [] aJ 604:=YT X G k8 (λU=>oH U T) (JF λ_=>rfl);exact mL mn T k a ik i8 fw i7
def zAQ(K:Ah)(H:Hp)(a:Ub)(ns:List Int)(hl:ns.length<=63)(f:Only H)(h:X9 K H a (ns.map V.int)):spV K [] 1 KP [.ref a] H (λv _=>v=.bl ba) λ_ _ _=>False:=by
 have c:cG K (Zp (λ_=>False) [] [.ref a]) H (ns.map V.int) (ns.map c6.int):=by
  clear h hl;induction ns with
  |nil=>exact .nil
  |cons n ns g=>exact .cons (.int n) g
 have hz:∀b,¬Zp (λ_=>False) [] [V.ref a] b:=λb h=>by
  rcases h with h|⟨i,h,_⟩
  ·exact h
  ·cases h
 refine⟨λ_=>False,[.lst (ns.map .int)],.bl ba,[],rfl,⟨rfl,(λi h=>nomatch h),λi d hi e=>?_,(λi d h=>nomatch h),(λi j b h=>nomatch h),λa h=>h.elim⟩,eO ns hl,λv H' _ _ r=>by cases r;rfl⟩;cases i with
 |zero=>
  cases e;refine⟨_,rfl,?_⟩;rcases h with((h|⟨_,_,_,_,(⟨_,h,_⟩|⟨h,_⟩)⟩)|⟨o,h⟩)|h
  ·exact .lst h (hz a) c
  ·rcases f a with z|⟨_,_,z⟩<;>rw[h]at z<;>cases z
  ·rcases f a with z|⟨_,_,z⟩<;>rw[h]at z<;>cases z
  ·exact .fzl (.inl ⟨o,h⟩) c
  ·exact .fzl (.inr h) c
 |succ i=>cases i<;>cases e
end RR
open PySem PySem.W PyProof.Rows
set_option maxRecDepth 100000 in
set_option maxHeartbeats 0 in
theorem PySem.Challenge.cw_lanepacks_k28_trees_holds : PySem.Challenge.rw_lanepacks_k28_trees.Holds := by
 w_on;refine holds_law KK.said λsaid=>?_
 refine holds_open (q:=KK.view) (loose:=KK.lo) (Xt:=KK.X) (XP:=XL KK.view []) (Yf:=KK.H.obs) (Ya:=KK.H.val) (YP:=KK.H.says) (N:=11300) KK.hl (Hook.of _) (Hook.keeps _) (λs e=>xl_of s (Du.mp e).1) XL.keeps (by rfl) (by rfl) (by rfl) (λs e=>recFacts_of (Du.mp e).2) (by rfl) (by first|assumption|decide+kernel) (by decide+kernel) ⟨rfl,rfl,rfl,rfl,rfl,by decide+kernel⟩ ?hw ?hc
 case hw=>w_witness2
 refine L2.zA3 (l:=Mz) (n:=63) (k:=24) (x:= "_law_script") (CX:=L2.CX0) (sp:=λK=>L2.spV K [] 1 L2.KP) rfl (by decide) rfl ⟨rfl,by decide,by decide⟩ (λw h Y=>W.kIn_of (K:=KK.K) (as:=KK.A) (e:=KK.kA) Y) ?F (λK H a ns hl ho hS=>RR.zAQ K H a ns hl ho hS) λ_ _ _ _ z=>z
 case F=>
  intro w mg fa h KX G hmg;refine RR.zK2 (K:=KK.K w.params) KX G hmg (KK.p _ 224 19 "is_whole" (.str "lanepacks.words" 458)) (KK.p _ 305 38 "parts_of" (.str "lanepacks.blocks" 568)) (KK.p _ 312 39 "makes_word" (.str "lanepacks.blocks" 568)) (KK.p _ 338 43 "may_name" (.str "lanepacks.blocks" 568)) (KK.p _ 345 44 "fits" (.str "lanepacks.blocks" 568)) (KK.p _ 350 45 "is_row" (.str "lanepacks.blocks" 568)) (KK.p _ 355 48 "is_cells" (.str "lanepacks.running" 669)) (KK.p _ 384 57 "is_if" (.str "lanepacks.trees" 711)) (KK.p _ 391 58 "sight_behind_if" (.str "lanepacks.trees" 711)) (KK.p _ 398 59 "sight_behind" (.str "lanepacks.trees" 711)) (KK.p _ 405 60 "is_tree" (.str "lanepacks.trees" 711)) (KK.p _ 424 63 "run_tree" (.str "lanepacks.trees" 711)) (KK.p _ 483 65 "flattened" (.str "lanepacks.trees" 711)) (KK.p _ 490 67 "_law_cell_at" KK.m) (KK.p _ 497 68 "_law_mixed" KK.m) (KK.p _ 504 69 "_law_draw" KK.m) (KK.p _ 511 70 "_law_pick" KK.m) (KK.p _ 518 71 "_law_place" KK.m) (KK.p _ 523 72 "_law_row" KK.m) (KK.p _ 537 74 "_law_next" KK.m) (KK.p _ 530 73 "_law_rows" KK.m) (KK.p _ 549 76 "_law_names" KK.m) (KK.p _ 554 77 "_law_may" KK.m) (KK.p _ 559 78 "_law_must" KK.m) (KK.p _ 571 80 "_law_mixed_order" KK.m) (KK.p _ 576 81 "_law_renamed" KK.m) (KK.p _ 542 75 "_law_block" KK.m) (KK.p _ 566 79 "_law_which" KK.m) (KK.p _ 583 82 "_law_tree_rows" KK.m) (KK.p _ 590 83 "_law_tree" KK.m) (KK.p _ 597 84 "_law_ask" KK.m) (KK.p _ 604 85 "_law_bad_trees" KK.m) ?_ ?_ ?_ ?_ ?_ ?_ ?_ ?_ ?_ ?_ ?_ ?_ ?_ ?_ ?_ ?_ ?_ ?_ ?_ ?_ ?_ ?_ ?_ ?_ ?_ ?_ ?_ ?_ ?_ ?_ ?_ ?_ ?_ ?_ ?_ ?_ ?_ ?_ ?_ ?_ ?_ ?_ ?_ ?_ ?_ ?_ ?_ ?_ ?_ ?_ ?_ ?_ ?_ ?_ ?_ ⟨⟨by kernel_rfl,⟨by kernel_rfl,by kernel_rfl,by kernel_rfl,by kernel_rfl,by kernel_rfl,by kernel_rfl,by kernel_rfl⟩,by kernel_rfl,24,⟨by kernel_rfl,by kernel_rfl,by kernel_rfl,by kernel_rfl,by kernel_rfl⟩⟩,by kernel_rfl⟩ ⟨⟨by kernel_rfl,⟨by kernel_rfl,by kernel_rfl,by kernel_rfl,by kernel_rfl,by kernel_rfl,by kernel_rfl,by kernel_rfl⟩,by kernel_rfl,24,⟨by kernel_rfl,by kernel_rfl,by kernel_rfl,by kernel_rfl,by kernel_rfl⟩⟩,by kernel_rfl⟩ ?_;iterate 34 kernel_rfl
  decide;iterate 21 kernel_rfl
end
