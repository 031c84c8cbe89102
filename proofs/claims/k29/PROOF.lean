import PyProof.Rows.All
import KE.KFromBytes
import KE.KTab
import KE.KIsAll
import KE.KDictOf
import KE.KEqDeep
import KE.KItem
import KE.KUnpackStar
import Wide.FinOn
import Wide.Line
import KE.KSortTup
import PyProof.AttrMissSeq
import OpenK.KOwn
import Open.TreeImp
import PySem.Challenge.RW_lanepacks_k29_whole_tree_runs
set_option Elab.async false
set_option linter.all false
set_option maxRecDepth 100000
set_option maxHeartbeats 4000000
set_option bootstrap.genMatcherCode false
set_option compiler.extract_closed false
open Option renaming some->b0,none->b3
open Bool renaming true->b5,false->ba
open PySem renaming Value->Se,Addr->Sf,wpAny->Sg,assignEach->Sh,Str->Si,Expr->Sj,model->Sk,World->Sm,mainGlobals->So,Heap->Sq,Obj->Sr,foldedSetIterable->Ss,Stmt->Su,cellsFrom->Sv,NameKind->Sw,Scope->Sx,assignInOrder->Sy,Sem->Sz
open Option renaming bind_eq_some_iff->Aa,bind_some->Ai,map_eq_some_iff->Am,isSome_some->Nl,getD_none->Pe,map_some->Qo
open PySem renaming wpAny_bind->Ac,Shared->Ah,wpAny_pure->As,starEach->Bb,Program->Bh,bootBuiltins->Bj,wpAny_holding->Bv,sizeLine_eq->Cr,wpAny_mono->Cu,mem_of_lookup->Cv,wpAny_callSpecial?_slot->Cw,Around->Dh,compareOp->Di,wpAny_newObj_type->Ds,swapsWithSole->Eg,swappedStores->Eh,wpAny_field->Em,wpAny_call_entry->Eo,backTo->Ex,FuncData->Ey,wpAny_seqItems->Fd,wpAny_truthy_bool->Fe,wpAny_Call_Name_kw->Fi,wpAny_setField_rec->Fj,binaryOp->Fn,Builtin->Fo,wpAny_passesOwn->Fp,wpAny_standAt->Fy,sysModules->Gb,wpAny_pyIter_list->Gp,attributeBase->Gq,swapsWith->Gv,sliceBounds->Hb,call_meets->He,importedModules->Hg,wpAny_pyIter_tuple->Hi,behindInMarks->Hj,tupleKind_room_in1->Hl,Spec->Hu,holding->Hv,wpAny_assign_Name->Hw,wpAny_rule->Hy,wpAny_sequenceKey->Ib,keywordEach->Ic,Keyword->Ie,wpAny_bindName->Ik,wpAny_updateSeq_pair->Ix,bindName->Iy,unpackItems->Jj,letOwnedTupleGo->Jk,wpAny_typeOf->Ka,wpAny_comprehension_free->Kk,fenceModules?->Kt,getItem->Kv,wpAny_onRaise->Ky,wpAny_eqBool_int->Ld,noFill_tuple_add->Le,wpAny_pyNext_list_item->Lg,DictEntry->Ln,wpAny_execs_nil->Lq,wpAny_pyNext_list_end->Lr,concat_meets->Lu,seqIndex_neg->Lv,call_meetsIn->Lw,backToKw->Mg,ZipApart->Mh,PyData->Mn,newFunctionEnv->Mq,setItem->Mt,codeAny->Mv,seqIndex_of->Mw,callerA->My,wpAny_letGo->Nb,bltViewBooted->Nf,seq_tuple_add->Ni,evalPart_none->Nj,wpAny_attempt->Np,getattributeRaised->Nt,list_append->Ob,valueAt->Od,wpAny_Call_method->Oe,wpAny_pyIter_enum->Oj,slot_list_setitem->Ot,codeAny_mono->Oy,Params->Ps,standAt->Px,PassesOwn->Py,lastMarks->Qa,BindsTo->Qb,pushCells->Qh,wpAny_Name->Rc,typeIs_int->Rf,call->Rg,Within->Rp,stored->Rr
open PySem.Heap renaming get?_push_of_some->Ad,lt_size->Av,get?_push_size->Ax,get?_update_other->Dv,size_push->Ee,SameBut->Fw,get?_update_self->Gh,get?_push_ne->Ih,ExtBut->Jm,get?_update_ne->Nd
open List renaming getElem?_append_left->Ae,getElem?_eq_some_iff->Af,mem_cons->Aj,replicate->Ak,mem_singleton->An,mem_cons_of_mem->Ap,size_toArray->Aq,append_assoc->Ar,getElem?_append_right->At,mem_cons_self->Aw,length_append->Ay,not_mem_nil->Az,map_cons->Ba,length_cons->Bg,range->Bm,mem_append->Bo,length_singleton->Bp,mem_append_right->Br,take_of_length_le->Bx,map_nil->By,mem_append_left->Bz,getElem?_set_ne->Ca,nodup_cons->Cd,length_map->Ce,length_set->Cf,getElem?_eq_getElem->Cm,mem_of_getElem?->Cn,lookup_cons->Co,perm_append_comm->Cq,mem_map->Cs,length_take->Ct,replicate_succ->Cy,append_nil->Cz,take_append_of_le_length->Db,nil_append->Dc,getElem?_map->De,getElem?_set_self->Dg,getElem?_take_of_lt->Dk,take_append_drop->Dn,mem_range->Dq,lookup_cons_self->Eb,getElem?_eq_none->Ec,eq_of_mem_replicate->Ed,getElem?_replicate->El,cons_append->Ep,set_comm->Es,length_replicate->Et,set_append_right->Ew,drop_eq_getElem_cons->Fm,map_append->Ft,flatten_cons->Fu,replicate_append_replicate->Fv,length_eq_zero_iff->Fz,dropLast_concat_getLast->Gg,find?_cons->Gi,length_nil->Gj,drop_length->Gy,getElem_mem->Gz,mem_filter->Hh,length_range->Ig,take_left->Im,drop_left->Io,singleton_append->Iq,all_eq_true->Ir,any_cons->Iz,all_cons->Jb,filterMap_cons->Ji,forIn_cons->Jl,map_congr_left->Jn,idxOf_lt_length_of_mem->Js,mem_or_eq_of_mem_set->Kf,reverse_perm->Km,getElem?_cons_succ->La,range_succ_eq_map->Lk,of_mem_zip->Ls,mem_iff_getElem?->Ma,all_map->Mb,take_left'->Md,map_set->Mf,getElem?_mapIdx->Mj,drop_zero->Mo,forIn_nil->Mp,take_take->Mr,lookup->Mz,mem_filterMap->Nh,getElem_idxOf->Nv,set_cons_succ->Nw,set_cons_zero->Nx,ext_getElem?->Oi,nodup_append->Om,getElem_inj->Pb,length_drop->Pd,isEmpty_iff->Pf,zipIdx_cons->Pg,zipIdx_nil->Qe,drop_left'->Qi,mapM_cons->Qr,take_succ->Qs,drop_take->Qt,drop_drop->Qv,nodup_nil->Qw,map_map->Rt
open Bool renaming and_eq_true->Ag,and_eq_true_iff->Dt,false_eq_true->Du,false_ne_true->Ei,or_eq_true->Hn,beq_eq_decide_eq->Me,false_or->Rl,true_and->Rn
open PySem.W renaming Frag->Ao,kia_one->Fq,keepIn->Il,kas_item->Jd,opening->Jg,fnOf->Jz,codeIn->Ku,nsIn->Ly,SharedT->Ms,kitx_list->Mu,Frag->Ox,cellsFrom_some->Pc,openEnds->Pp,methodObj->Pw,kasC_bind->Qj,kasC_modify->Qk,kas_item_eq->Qm,looseW->Qx,absHeap->Rh,instObj->Ro,OpenLaw->Rs
open Nat renaming le_refl->Au,lt_of_lt_of_le->Bi,ne_of_lt->Bn,lt_irrefl->Cp,zero_le->Dx,le_trans->Fc,sub_self->Fx,le_add_right->Ga,le_succ->Gk,ne_of_gt->Hc,min_eq_left->Hq,le_of_succ_le->Ij,zero_add->Jx,add_comm->Kb,add_assoc->Nq,lt_succ_of_lt->Op,le_of_lt->Ow,lt_trans->Oz,add_zero->Pa,succ_le_succ->Pj,not_lt_zero->Qf,min_le_left->Qg
open PySem.F renaming slot_list_append->Be,type_list_append->Bf,slot_dict_get->Ea,entry_dict_get->Fg,slot_tuple_iterator_next->Fh,args_tuple_add_2->Hd,entry_tuple_add->Hk,args_dict_get_2->Hm,plainAttrs_list->Ho,slot_tuple_add->Hs,args_tuple_iterator_next_1->Ja,entry_tuple_iterator_next->Jo,slot_zip_next->Jp,slot_dict_getitem->Ke,slot_list_extend->Kq,type_list_extend->Kr,args_dict_get_3->Kw,plainAttrs_dict->Kx,type_dict_get->Lx,args_list_append_2->Mi,entry_list_append->Mx,slot_list_append->Nk,args_zip_next_1->Ol,entry_zip_next->Ph,slot_int_rmul->Qn
open PySem.Str renaming ofString->Bk,ofString_eq_toList->Ht
open PySem.Value renaming ref->Bq,type->Kg,str->Lo,int->Pt,bool->Rb,isStrOf->Rj,isInt->Rx,float->Ry
open PySem.NameKind renaming free->Bt,cell->Ck
open Option.some renaming inj->Bu,injEq->Ki
open PySem.AutoSeq1 renaming wpAny_loadPart'->Bw,sub_tuple_tuple->Kn,sub_tuple_list->Lb,sub_list_tuple->Lc,sub_list_list->Lm,idx_int->Po
open PySem.PyData renaming keyHash->Cb,depthAll->Ff,canLay0->Gc,canLayAll0->Ii,depth->Ip,eqv->Je,int->Oh,strOk->Ru
open PySem.Builtin.SmallTypes renaming nextOf->Cc,ownedTupleIsFree->Dy,ownedTupleHandOut->Gx
open Prod renaming fst->Cg,snd->Dd
open Array renaming toList_append->Ci,toList_push->Gr,toList_reverse->Gu,length_toList->Ha,perm_iff_toList_perm->Jw,eraseIdxIfInBounds->Kj,getD->Kl,size_extract->Nu,size_append->Oq,toList_inj->Pn,toList->Rq
open PySem.PassesOwn renaming never->Cj
open PySem.Obj renaming mapSeq->Df,data_mapFields->No
open Ne renaming symm->Dj
open List.Perm renaming append_left->Dm,append_right->Ge,trans->Jq,append->Pk,cons->Qu
open ForInStep renaming yield->Dw
open PySem.Builtin.List renaming listTooLong->Dz,listSameRef->Ko
open PyProof.Rows renaming assignInOrder_cons->Ef,callWith_type1->Ek,slot_tuple_getitem->Er,SortSt->Fa,seqObj->Hf,assignInOrder_nil->Hx,envOfC->Iu,subscriptTail_builtinR->Lj,AllBare->Lp,listUpdate_at->Nr,unpackItems_tuple->Oa,IntsAre->Of,pairsOf->Oo,SortKind->Pr,seqEpoch_at->Ql,expectedOf->Qy,plainGoodE->Qz,plainGoodD->Ra,drecsOf->Ri,tail_any->Rk
open PySem.Builtin.Range renaming rangeSize->Ej,small->Sa
open PySem.SeqAt renaming shaped->Eu
open Int renaming emod_lt_of_pos->Ez,eq_ofNat_of_zero_le->Fb,emod_nonneg->Hr,toNat_natCast->Ia,ediv_nonneg->Mc
open PySem.Builtin.Slice renaming slicePlaces->Fk,sliceAdjust->Gw,sliceApplied->Ju,slicePartIndex->Pq,sliceFields->Qq
open PyProof.Rows.KTD renaming datumAt->Fl
open PySem.Builtin.Tuple renaming tupleExact->Fs,tupleItemsOf->Jv,tupleIsExact->Qp
open PySem.Calls renaming callWith_builtin->Gd,spliced_cons->Gf,evalArgs_plain->Gs,spliced_nil->Hz,Name_function_global->Jt
open Pure renaming pure->Gm
open False renaming elim->Go
open PyProof.Rows.SortSt renaming mk'->Jf
open Prod.mk renaming inj->Jh
open List.cons renaming injEq->Jr
open PySem.Challenge renaming pw_lanepacks_k29_whole_tree_runs->Jy,rw_lanepacks_k29_whole_tree_runs->Kc
open PyProof.Rows.IsTup renaming new->Kh
open List.Pairwise renaming map->Ks,nil->Og
open PySem.Builtin.Dict renaming updateFrom->Kz,pairItems->Ll,missed->Nc
open PyProof renaming noPylong_small->Li
open Classical renaming choose_spec->Lz
open PySem.Around renaming under_plainId->Mk
open Or renaming inl->Ml,inr->Mm
open PySem.Heap.SameBut renaming update->Na
open PySem.Paired renaming length->Ng,snoc->Rz
open Sum renaming inl->Ny,inr->Nz
open Char renaming toNat->Ov
open PySem.IsRange renaming new->Pz
open PySem.Heap.DictOf renaming new->Qc
open PySem.Shared renaming heap->Qd
open Function renaming comp->Rm
open PySem.MeetsSeq.EqGives renaming int->Rv
open PySem.Heap.IsSliceOf renaming new->Sb
open PySem.W.WShape renaming has->Sc
noncomputable section
namespace KK
open PySem PySem.W
noncomputable def D8:List Sr->Nat->BT->Option BT
 |[],_,t=>b0 t
 |o::l,n,t=>match((t.ins n o).get n).isSome with
  |true=>D8 l (n+1) (t.ins n o)
  |false=>b3
theorem IJ{life:Life}:∀{l:List Sr}{n:Nat}{t t':BT},D8 l n t=b0 t'->Rh t' (n+l.length) life=⟨(Rh t n life).objs++l.toArray,life⟩
 |[],n,t,t',h=>by cases h;simp[Rh]
 | o :: l,n,t,t',h => by
  unfold D8 at h;split at h
  ·rename_i g
   have a:=IJ (life:=life) h;rw[show n+(o::l).length=n+1+l.length by simp;lia,a,absHeap_ins g];simp[Heap.push]
  ·cases h
def toT(s:Ah):Option Ms:=(D8 s.heap.objs.toList 0 .nil).map λt=>⟨t,s.heap.objs.size,s.heap.life,s.gens,s.drawn,s.toks,s.os⟩
def BZ{s:Ah}{u:Ms}(h:toT s=b0 u):u.abs=s:=by
 unfold toT at h;cases e:D8 s.heap.objs.toList 0 .nil with
 |none=>rw[e]at h;cases h
 |some t=>
  rw[e]at h;cases h;have:=IJ (life:=s.heap.life) e
  simp only[Jx,Ha]at this;obtain⟨⟨a,life⟩,gens,drawn,toks,os⟩:=s;show(⟨Rh t a.size life,gens,drawn,toks,os⟩:Ah)=_;rw[this];simp[Rh,BT.list]
noncomputable def UB(tb:String->Option Fo)(p:Bh)(w:Sm)(a:Nat)(b:Option Se):Nat->Ms->Thread->Option Ms
 |0,_,_=>b3
 | n + 1,s,t => match through t with
  |true=>b0 s
  | false => match stepOk a b t with
   |false=>b3
   |true=>match stepT (denote tb) p w s t with
    |some (s',t')=>UB tb p w a b n s' t'
    |none=>b3
theorem L3{tb:String->Option Fo}{p:Bh}{w:Sm}{a:Nat}{b:Option Se}:∀{n:Nat}{s s':Ms}{t:Thread},UB tb p w a b n s t=b0 s'->topRun tb p w a b n s.abs t=b0 s'.abs
 |0,_,_,_,h=>by cases h
 | n + 1,s,s',t,h => by
  unfold UB at h;unfold topRun;cases f:through t with
  |true=>rw[f]at h;cases h;rfl
  |false=>
   rw[f]at h;cases hk:stepOk a b t with
   |false=>rw[hk]at h;cases h
   |true=>
    rw[hk]at h;cases c:stepT (denote tb) p w s t with
    |none=>rw[c]at h;cases h
    |some r=>obtain⟨e,d⟩:=r;rw[c]at h;rw[stepT_spec c];exact L3 h
noncomputable def CV(tb:String->Option Fo)(p:Bh)(w:Sm):Nat->Ms->Thread->Option Ms
 |0,_,_=>b3
 | n + 1,s,t => match t.atExitBegin with
  |some []=>b0 s
  |some (_::_)=>b3
  |none=>match stepT (denote tb) p w s t with
   |some (s',t')=>CV tb p w n s' t'
   |none=>b3
theorem AL{tb:String->Option Fo}{p:Bh}{w:Sm}:∀{n:Nat}{s s':Ms}{t:Thread},CV tb p w n s t=b0 s'->importEnds tb p w n s.abs t=b0 s'.abs
 |0,_,_,_,h=>by cases h
 | n + 1,s,s',t,h => by
  unfold CV at h;unfold importEnds;cases d:t.atExitBegin with
  |some x=>
   rw[d]at h;cases x with
   |nil=>cases h;rfl
   |cons=>cases h
  |none=>
   rw[d]at h;cases a:stepT (denote tb) p w s t with
   |none=>rw[a]at h;cases h
   |some r=>obtain⟨c,b⟩:=r;rw[a]at h;dsimp only;rw[stepT_spec a];exact AL h
def KP(tb:String->Option Fo)(p:Bh)(w:Sm)(N:Nat):Option Ah:=
 (toT (start (Jg p)).1).bind λu=>(CV tb (Jg p) w N u (start (Jg p)).2).bind λb=>(Kt p b.abs).bind λs₀=>
 match s₀.heap.isNs So&&s₀.gens.size==0 with
 | true => (toT s₀).bind λv => (UB tb p w s₀.heap.objs.size (s₀.heap.nsMap So "__annotations__") N v (topStub p)).bind λa =>
  match staticsOk (Hg p.main.body) s₀.heap a.abs.heap&&namesBound p a.abs.heap&&gensDone a.abs&&laidKept s₀.heap a.abs.heap with
   |true=>b0 a.abs
   |false=>b3
 |false=>b3
def EK{tb:String->Option Fo}{p:Bh}{w:Sm}{N:Nat}{s:Ah}(h:KP tb p w N=b0 s):Pp tb p w N=b0 s:=by
 unfold KP at h;unfold Pp fencedOpening;cases d:toT (start (Jg p)).1 with
 |none=>rw[d]at h;cases h
 |some u=>
  rw[d,Ai]at h;cases c:CV tb (Jg p) w N u (start (Jg p)).2 with
  |none=>rw[c]at h;cases h
  |some j=>
   rw[c,Ai]at h;have i:=AL c;rw[BZ d]at i;rw[i,Ai];cases g:Kt p j.abs with
   |none=>rw[g]at h;cases h
   |some s₀=>
    rw[g,Ai]at h;rw[Ai];unfold topFrom;cases f:(s₀.heap.isNs So&&s₀.gens.size==0)with
    |false=>rw[f]at h;cases h
    |true=>
     rw[f]at h;dsimp only at h⊢;cases b:toT s₀ with
     |none=>rw[b]at h;cases h
     |some v=>
      rw[b,Ai]at h;cases a:UB tb p w s₀.heap.objs.size (s₀.heap.nsMap So "__annotations__") N v (topStub p)with
      |none=>rw[a]at h;cases h
      |some k=>
       rw[a,Ai]at h;have e:=L3 a;rw[BZ b]at e;rw[e,Ai];exact h
def E2{α:Type}{tb:String->Option Fo}{p:Bh}{w:Sm}{N:Nat}{f:Ah->α}{v:α}(h:(KP tb p w N).map f=b0 v):(Pp tb p w N).map f=b0 v:=by
 cases e:KP tb p w N with
 |none=>rw[e]at h;cases h
 |some s=>
  rw[e]at h;rw[EK e];exact h
noncomputable def chkU(p:Bh)(s₀ s:Ah):Bool:=staticsOk (Hg p.main.body) s₀.heap s.heap&&namesBound p s.heap&&gensDone s&&laidKept s₀.heap s.heap
def EL(tb:String->Option Fo)(p:Bh)(w:Sm)(N:Nat):Option (Ah×Ah):=
 (toT (start (Jg p)).1).bind λu=>(CV tb (Jg p) w N u (start (Jg p)).2).bind λb=>(Kt p b.abs).bind λs₀=>
 match s₀.heap.isNs So&&s₀.gens.size==0 with
 |true=>(toT s₀).bind λv=>(UB tb p w s₀.heap.objs.size (s₀.heap.nsMap So "__annotations__") N v (topStub p)).bind λa=>b0 (s₀,a.abs)
 |false=>b3
def jk{tb:String->Option Fo}{p:Bh}{w:Sm}{N:Nat}{q:Ah×Ah}(h:EL tb p w N=b0 q)(hc:chkU p q.1 q.2=b5):KP tb p w N=b0 q.2:=by
 unfold EL at h;unfold KP;cases f:toT (start (Jg p)).1 with
 |none=>rw[f]at h;cases h
 |some u=>
  rw[f,Ai]at h;rw[Ai];cases e:CV tb (Jg p) w N u (start (Jg p)).2 with
  |none=>rw[e]at h;cases h
  |some g=>
   rw[e,Ai]at h;rw[Ai];cases d:Kt p g.abs with
   |none=>rw[d]at h;cases h
   |some s₀=>
    rw[d,Ai]at h;rw[Ai];cases c:(s₀.heap.isNs So&&s₀.gens.size==0)with
    |false=>rw[c]at h;cases h
    |true=>
     rw[c]at h;dsimp only at h⊢;cases b:toT s₀ with
     |none=>rw[b]at h;cases h
     |some v=>
      rw[b,Ai]at h;rw[Ai];cases a:UB tb p w s₀.heap.objs.size (s₀.heap.nsMap So "__annotations__") N v (topStub p)with
      |none=>rw[a]at h;cases h
      |some i=>
       rw[a,Ai]at h;cases h;rw[Ai];unfold chkU at hc;rw[hc]
def mapU{α:Type}{tb:String->Option Fo}{p:Bh}{w:Sm}{N:Nat}{f:Ah->α}{v:α}(h:(EL tb p w N).map (λq=>f q.2)=b0 v)(hc:(EL tb p w N).map (λq=>chkU p q.1 q.2)=b0 b5):(Pp tb p w N).map f=b0 v:=by
 cases e:EL tb p w N with
 |none=>rw[e]at h;cases h
 |some q=>
  rw[e]at h hc;rw[EK (jk e (Bu hc))];exact h
end KK
namespace RR
open PySem
def top(i:Nat):Su:=PySem.Challenge.pw_lanepacks_k29_whole_tree_runs.main.body.getD i (.Pass ⟨0,0,0,0⟩)
end RR
namespace KK
open PySem PySem.W PySem.Calls PyProof.Rows
def dA(s:Su):Arguments:=match s with
 |.FunctionDef _ a _ _ _ _ _ _ _ _=>a
 |_=>⟨[],[],b3,[],[],b3,[]⟩
def dB(s:Su):List Su:=match s with
 |.FunctionDef _ _ b _ _ _ _ _ _ _=>b
 |_=>[]
def dS(s:Su):Sx:=match s with
 |.FunctionDef _ _ _ _ _ _ c _ _ _=>c
 |_=>{kind:=.function,names:=[],isGenerator:=ba,isCoroutine:=ba}
abbrev s(x:Si)(t:Nat):Se:=.str x t
abbrev e(P:Ps)(x:Si)(t:Nat)(v:Se):Ln:=⟨PyData.keyHash P x,s x t,v⟩
abbrev f(a i:Nat)(n:Si)(d m:Se):Nat×Sr:=(a,⟨.type "function",b3,.func (fnOf n n (dA (RR.top i)) (dB (RR.top i)) (dS (RR.top i)) d .none .none m b3 (.ref (a-1)) .none),#[]⟩)
abbrev fk(a i:Nat)(n:Si)(d k m:Se):Nat×Sr:=(a,⟨.type "function",b3,.func (fnOf n n (dA (RR.top i)) (dB (RR.top i)) (dS (RR.top i)) d k .none m b3 (.ref (a-1)) .none),#[]⟩)
abbrev co(a:Nat)(n:Si)(t:Nat)(l k:Int)(u:Nat)(x y z v:Se):Nat×Sr:=(a,⟨.type "code",b3,.fields #[s n t,s n (t+1),s "/claim/cut.py" (t+2),.int l 0,.int k 0,.int 0 0,.int 0 0,.int 3 0,x,.bool b5,.int 181 0,y,.none,z,v,.ref (a-1),.int u 0,.int l 0,s "/claim/cut.py" (u+1)],#[]⟩)
abbrev c(a:Nat)(n:Si)(t:Nat)(l k:Int)(u:Nat):Nat×Sr:=co a n t l k u (.ref (a-5)) (.ref (a-4)) (.ref (a-3)) (.ref (a-2))
abbrev b(a:Nat)(n:Si)(t:Nat)(l k:Int)(u:Nat):Nat×Sr:=co a n t l k u (.ref (a-3)) (.ref (a-2)) .none .none
abbrev m:Se:=s "law_lanepacks_k29_whole_tree_runs" 605
noncomputable def K(P:Ps):Frag:=[(3,⟨.type "dict",b3,.dict #[e P "__name__" 165 (s "law_lanepacks_k29_whole_tree_runs" 605),e P "__doc__" 166 (.none),e P "__package__" 167 (.none),e P "__loader__" 168 (.builtin "__main__.__loader__#opaque"),e P "__spec__" 169 (.none),e P "__annotations__" 170 (.ref 6),e P "__builtins__" 171 (.ref 4),e P "__file__" 173 (s "/claim/cut.py" 172),e P "__cached__" 174 (.none),e P "PackError" 206 (.ref 24),e P "NoBlock" 222 (.ref 37),e P "NoCells" 238 (.ref 49),e P "NoTree" 254 (.ref 61),e P "MOST_WORD" 258 (.int 999 257),e P "DEEDS" 266 (.ref 64),e P "is_whole" 275 (.ref 71),e P "plus" 283 (.ref 78),e P "minus" 291 (.ref 85),e P "times" 299 (.ref 92),e P "least" 307 (.ref 99),e P "most" 315 (.ref 106),e P "less" 323 (.ref 113),e P "over" 331 (.ref 120),e P "pick" 340 (.ref 127),e P "MADE" 355 (.ref 128),e P "done" 364 (.ref 135),e P "MOST_SURE" 368 (.int 64 367),e P "MOST_ROWS" 370 (.int 40 369),e P "MOST_PLACE" 372 (.int 63 371),e P "DEED_PARTS" 375 (.ref 136),e P "OTHER_PARTS" 401 (.ref 137),e P "READERS" 404 (.ref 144),e P "WRITERS" 407 (.ref 145),e P "parts_of" 414 (.ref 152),e P "makes_word" 421 (.ref 159),e P "place_of" 428 (.ref 166),e P "names_of" 434 (.ref 171),e P "may_name" 442 (.ref 178),e P "fits" 451 (.ref 185),e P "is_row" 457 (.ref 190),e P "is_block" 468 (.ref 197),e P "MOST_CELLS" 472 (.int 64 471),e P "is_cells" 478 (.ref 202),e P "touches" 486 (.ref 209),e P "do_on_cell" 496 (.ref 216),e P "do_row" 510 (.ref 224),e P "do_rows" 516 (.ref 229),e P "check_run" 524 (.ref 236),e P "run" 535 (.ref 243),e P "MOST_TREE_ROWS" 539 (.int 20 538),e P "MOST_DEEP" 541 (.int 3 540),e P "is_if" 548 (.ref 250),e P "sight_behind_if" 560 (.ref 257),e P "sight_behind" 571 (.ref 264),e P "is_tree" 578 (.ref 271),e P "listed" 588 (.ref 278),e P "do_tree" 594 (.ref 283),e P "run_tree" 604 (.ref 290),e P "_law_cell_at" 616 (.ref 297),e P "_law_mixed" 626 (.ref 304),e P "_law_draw" 635 (.ref 311),e P "_law_pick" 644 (.ref 318),e P "_law_place" 655 (.ref 325),e P "_law_row" 661 (.ref 330),e P "_law_rows" 675 (.ref 337),e P "_law_next" 692 (.ref 344),e P "_law_block" 698 (.ref 349),e P "_law_cells" 704 (.ref 354),e P "_law_deed" 715 (.ref 361),e P "_law_step" 727 (.ref 368),e P "_law_names" 734 (.ref 375),e P "_law_may" 740 (.ref 380),e P "_law_must" 746 (.ref 385),e P "_law_mixed_order" 752 (.ref 390),e P "_law_renamed" 758 (.ref 395),e P "_law_tree_rows" 778 (.ref 402),e P "_law_tree" 789 (.ref 409),e P "_law_many" 795 (.ref 414),e P "_law_tree_play" 801 (.ref 419),e P "law" 816 (.ref 426)] 80,#[]⟩),(64,⟨.type "tuple",b3,.seq #[s "plus" 259,s "minus" 260,s "times" 261,s "least" 262,s "most" 263,s "less" 264,s "over" 265] 0,#[]⟩),f 71 8 "is_whole" (.none) (s "lanepacks.words" 255),c 70 "is_whole" 267 13 3 273,f 78 9 "plus" (.none) (s "lanepacks.words" 255),c 77 "plus" 276 17 2 281,f 85 10 "minus" (.none) (s "lanepacks.words" 255),c 84 "minus" 284 19 2 289,f 92 11 "times" (.none) (s "lanepacks.words" 255),c 91 "times" 292 21 2 297,f 99 12 "least" (.none) (s "lanepacks.words" 255),c 98 "least" 300 23 2 305,f 106 13 "most" (.none) (s "lanepacks.words" 255),c 105 "most" 308 25 2 313,f 113 14 "less" (.none) (s "lanepacks.words" 255),c 112 "less" 316 27 2 321,f 120 15 "over" (.none) (s "lanepacks.words" 255),c 119 "over" 324 29 2 329,f 127 16 "pick" (.none) (s "lanepacks.words" 255),c 126 "pick" 332 31 3 338,(128,⟨.type "dict",b3,.dict #[e P "plus" 341 (.ref 78),e P "minus" 342 (.ref 85),e P "times" 343 (.ref 92),e P "least" 344 (.ref 99),e P "most" 345 (.ref 106),e P "less" 346 (.ref 113),e P "over" 347 (.ref 120)] 7,#[]⟩),f 135 18 "done" (.none) (s "lanepacks.words" 255),c 134 "done" 356 34 2 362,(136,⟨.type "tuple",b3,.seq #[s "row" 373,s "row" 374] 0,#[]⟩),(137,⟨.type "dict",b3,.dict #[e P "number" 376 (.ref 138),e P "pick" 378 (.ref 139),e P "load" 382 (.ref 140),e P "take" 384 (.ref 141),e P "store" 388 (.ref 142),e P "put" 391 (.ref 143)] 6,#[]⟩),(138,⟨.type "tuple",b3,.seq #[s "word" 377] 0,#[]⟩),(139,⟨.type "tuple",b3,.seq #[s "row" 379,s "row" 380,s "row" 381] 0,#[]⟩),(140,⟨.type "tuple",b3,.seq #[s "place" 383] 0,#[]⟩),(141,⟨.type "tuple",b3,.seq #[s "place" 385,s "row" 386,s "row" 387] 0,#[]⟩),(142,⟨.type "tuple",b3,.seq #[s "place" 389,s "row" 390] 0,#[]⟩),(143,⟨.type "tuple",b3,.seq #[s "place" 392,s "row" 393,s "row" 394] 0,#[]⟩),(144,⟨.type "tuple",b3,.seq #[s "load" 402,s "take" 403] 0,#[]⟩),(145,⟨.type "tuple",b3,.seq #[s "store" 405,s "put" 406] 0,#[]⟩),f 152 27 "parts_of" (.none) (s "lanepacks.blocks" 365),c 151 "parts_of" 408 47 1 412,f 159 28 "makes_word" (.none) (s "lanepacks.blocks" 365),c 158 "makes_word" 415 51 1 419,f 166 29 "place_of" (.none) (s "lanepacks.blocks" 365),c 165 "place_of" 422 53 1 426,f 171 30 "names_of" (.none) (s "lanepacks.blocks" 365),b 170 "names_of" 429 55 1 432,f 178 31 "may_name" (.none) (s "lanepacks.blocks" 365),c 177 "may_name" 435 58 2 440,f 185 32 "fits" (.none) (s "lanepacks.blocks" 365),c 184 "fits" 443 60 3 449,f 190 33 "is_row" (.none) (s "lanepacks.blocks" 365),b 189 "is_row" 452 66 2 455,f 197 34 "is_block" (.none) (s "lanepacks.blocks" 365),c 196 "is_block" 458 74 1 466,f 202 37 "is_cells" (.none) (s "lanepacks.running" 469),b 201 "is_cells" 473 90 2 476,f 209 38 "touches" (.none) (s "lanepacks.running" 469),c 208 "touches" 479 94 2 484,f 216 39 "do_on_cell" (.none) (s "lanepacks.running" 469),c 215 "do_on_cell" 487 100 4 494,(217,⟨.type "tuple",b3,.seq #[.int 0 497] 0,#[]⟩),f 224 40 "do_row" (.ref 217) (s "lanepacks.running" 469),c 223 "do_row" 498 109 4 508,f 229 41 "do_rows" (.none) (s "lanepacks.running" 469),b 228 "do_rows" 511 118 2 514,f 236 42 "check_run" (.none) (s "lanepacks.running" 469),c 235 "check_run" 517 126 2 522,f 243 43 "run" (.none) (s "lanepacks.running" 469),c 242 "run" 525 131 2 533,f 250 47 "is_if" (.none) (s "lanepacks.trees" 536),c 249 "is_if" 542 139 1 546,f 257 48 "sight_behind_if" (.none) (s "lanepacks.trees" 536),c 256 "sight_behind_if" 549 143 3 558,f 264 49 "sight_behind" (.none) (s "lanepacks.trees" 536),c 263 "sight_behind" 561 153 3 569,f 271 50 "is_tree" (.none) (s "lanepacks.trees" 536),c 270 "is_tree" 572 167 1 576,f 278 51 "listed" (.none) (s "lanepacks.trees" 536),c 277 "listed" 579 171 2 586,f 283 52 "do_tree" (.none) (s "lanepacks.trees" 536),b 282 "do_tree" 589 179 2 592,f 290 53 "run_tree" (.none) (s "lanepacks.trees" 536),c 289 "run_tree" 595 189 2 602,f 297 55 "_law_cell_at" (.none) m,c 296 "_law_cell_at" 607 198 2 614,f 304 56 "_law_mixed" (.none) m,c 303 "_law_mixed" 617 207 3 624,f 311 57 "_law_draw" (.none) m,c 310 "_law_draw" 627 210 3 633,f 318 58 "_law_pick" (.none) m,c 317 "_law_pick" 636 213 3 642,f 325 59 "_law_place" (.none) m,c 324 "_law_place" 645 215 5 653,f 330 60 "_law_row" (.none) m,b 329 "_law_row" 656 218 5 659,f 337 61 "_law_rows" (.none) m,c 336 "_law_rows" 662 236 4 673,f 344 62 "_law_next" (.none) m,c 343 "_law_next" 676 248 6 690,f 349 63 "_law_block" (.none) m,b 348 "_law_block" 693 259 3 696,f 354 64 "_law_cells" (.none) m,b 353 "_law_cells" 699 268 3 702,f 361 65 "_law_deed" (.none) m,c 360 "_law_deed" 705 272 2 713,f 368 66 "_law_step" (.none) m,c 367 "_law_step" 716 284 4 725,f 375 67 "_law_names" (.none) m,c 374 "_law_names" 728 299 1 732,f 380 68 "_law_may" (.none) m,b 379 "_law_may" 735 303 2 738,f 385 69 "_law_must" (.none) m,b 384 "_law_must" 741 308 1 744,f 390 70 "_law_mixed_order" (.none) m,b 389 "_law_mixed_order" 747 320 3 750,f 395 71 "_law_renamed" (.none) m,b 394 "_law_renamed" 753 327 2 756,f 402 72 "_law_tree_rows" (.none) m,c 401 "_law_tree_rows" 759 332 6 776,f 409 73 "_law_tree" (.none) m,c 408 "_law_tree" 779 352 3 787,f 414 74 "_law_many" (.none) m,b 413 "_law_many" 790 356 1 793,f 419 75 "_law_tree_play" (.none) m,b 418 "_law_tree_play" 796 358 4 799,f 426 76 "law" (.none) m,c 425 "law" 802 377 1 814]
noncomputable def A:List Nat:=[3,64,71,70,78,77,85,84,92,91,99,98,106,105,113,112,120,119,127,126,128,135,134,136,137,138,139,140,141,142,143,144,145,152,151,159,158,166,165,171,170,178,177,185,184,190,189,197,196,202,201,209,208,216,215,217,224,223,229,228,236,235,243,242,250,249,257,256,264,263,271,270,278,277,283,282,290,289,297,296,304,303,311,310,318,317,325,324,330,329,337,336,344,343,349,348,354,353,361,360,368,367,375,374,380,379,385,384,390,389,395,394,402,401,409,408,414,413,419,418,426,425]
noncomputable def view:Bh:={Jy with main:={PySem.Challenge.pw_lanepacks_k29_whole_tree_runs.main with body:=[1,2,3,4,6,7,8,9,10,11,12,13,14,15,16,17,18,20,21,22,23,24,25,26,27,28,29,30,31,32,33,34,36,37,38,39,41,42,43,45,46,47,48,49,50,51,52,53,55,56,57,58,59,60,61,62,63,64,65,66,67,68,69,70,71,72,73,74,75,76].map RR.top}}
abbrev lo:List Si:=["MADE","OTHER_PARTS","do_row"]
def kA(P:Ps):A=(K P).map (·.1):=by kernel_rfl
noncomputable def X(s:Ah):Bool:=xlAt view [] s&&recOk (RowW.records (OpenRow.toRowW PySem.Challenge.rw_lanepacks_k29_whole_tree_runs.row)) s
noncomputable abbrev H:Hook:=kHook K A kA
abbrev pr:Bh:=PySem.Challenge.rw_lanepacks_k29_whole_tree_runs.row.prog
abbrev go(w:Sm)(b:Bool):Option Ah:=KP treeTable pr (w.withFollow "special-get-raises" b) 5880
noncomputable abbrev fA(s:Ah):=seen ((recsOf view).map (·.name)) (ownsOf view) [] {s with gens:= #[]}
noncomputable abbrev fB(s:Ah):=(s.heap.bltView,tabsOk view s)
noncomputable abbrev fC(s:Ah):Bool:=s.heap.keysOk (Qx view lo) ((recsOf view).map (·.name)) ((litsOf view).map (·.1)) ((clssOf view (Qx view lo)).map (·.name))&&s.heap.accountedOkI (Hg pr.main.body)&&s.heap.isNs So&&s.heap.isNs builtinsNs&&tablesOk view s.heap&&X s&&(if b5 then s.gens.size==0 else !leftWithCleanup s.gens)
noncomputable abbrev fD(s:Ah):=(pinSeenD view (Ri view) s,plainSeenE view (Qx view lo) s,plainSeenD view lo s,wideSeen view s,clsSeenW view lo s,H.obs s)
set_option maxRecDepth 100000 in
set_option maxHeartbeats 0 in
theorem rAf(w:Sm):(go w ba).map fA=b0 (Qy view):=by kernel_rfl
set_option maxRecDepth 100000 in
set_option maxHeartbeats 0 in
theorem rBf(w:Sm):(go w ba).map fB=b0 ((Nf,b5)):=by kernel_rfl
set_option maxRecDepth 100000 in
set_option maxHeartbeats 0 in
theorem rCf(w:Sm):(go w ba).map fC=b0 (b5):=by kernel_rfl
set_option maxRecDepth 100000 in
set_option maxHeartbeats 0 in
theorem rDf(w:Sm):(go w ba).map fD=b0 ((pinGoodD (Ri view),Qz view (Qx view lo),Ra view lo,wideGood view,clsGoodW view lo,H.val (w.withFollow "special-get-raises" ba))):=by kernel_rfl
set_option maxRecDepth 100000 in
set_option maxHeartbeats 0 in
theorem rAt(w:Sm):(go w b5).map fA=b0 (Qy view):=by kernel_rfl
set_option maxRecDepth 100000 in
set_option maxHeartbeats 0 in
theorem rBt(w:Sm):(go w b5).map fB=b0 ((Nf,b5)):=by kernel_rfl
set_option maxRecDepth 100000 in
set_option maxHeartbeats 0 in
theorem rCt(w:Sm):(go w b5).map fC=b0 (b5):=by kernel_rfl
set_option maxRecDepth 100000 in
set_option maxHeartbeats 0 in
theorem rDt(w:Sm):(go w b5).map fD=b0 ((pinGoodD (Ri view),Qz view (Qx view lo),Ra view lo,wideGood view,clsGoodW view lo,H.val (w.withFollow "special-get-raises" b5))):=by kernel_rfl
def jn{o:Option Ah}{v:H.α}(b:o.map fA=b0 (Qy view))(c:o.map fB=b0 (Nf,b5))(hc:o.map fC=b0 b5)(hd:o.map fD=b0 (pinGoodD (Ri view),Qz view (Qx view lo),Ra view lo,wideGood view,clsGoodW view lo,v)):o.map (λs=>(openSeen view lo (Hg pr.main.body) X b5 s,H.obs s))=b0 (openGood view lo,v):=by
 cases o with
 |none=>cases b
 |some s=>
  have f:fA s=_:=Bu b;have e:fB s=_:=Bu c;have d:fC s=_:=Bu hc;have a:fD s=_:=Bu hd;obtain⟨n,m⟩:=Jh e;obtain⟨l,a⟩:=Jh a;obtain⟨k,a⟩:=Jh a;obtain⟨j,a⟩:=Jh a;obtain⟨i,a⟩:=Jh a;obtain⟨h,g⟩:=Jh a;show b0 ((fA s,s.heap.bltView,fC s,tabsOk view s,pinSeenD view (Ri view) s,plainSeenE view (Qx view lo) s,plainSeenD view lo s,wideSeen view s,clsSeenW view lo s),H.obs s)=_;rw[f,n,d,m,l,k,j,i,h,g];rfl
def hl:LeftO pr view lo X H.obs H.val 5880:=λw=>byRow2 "special-get-raises" (P:=λw=>(Pp treeTable pr w 5880).map (λs=>(openSeen view lo (Hg pr.main.body) X b5 s,H.obs s))=b0 (openGood view lo,H.val w)) (λw=>jn (E2 (rAf w)) (E2 (rBf w)) (E2 (rCf w)) (E2 (rDf w))) (λw=>jn (E2 (rAt w)) (E2 (rBt w)) (E2 (rCt w)) (E2 (rDt w))) w
set_option maxRecDepth 100000 in
set_option maxHeartbeats 0 in
theorem said:PySem.Challenge.rw_lanepacks_k29_whole_tree_runs.wellSaid=b5:=by kernel_rfl
abbrev m0:Se:=.str "lanepacks.blocks" 365
abbrev m1:Se:=.str "lanepacks.running" 469
abbrev m2:Se:=.str "lanepacks.trees" 536
abbrev m3:Se:=.str "lanepacks.words" 255
abbrev m4:Se:=.str "law_lanepacks_k29_whole_tree_runs" 605
end KK
namespace L2
open PySem PySem.Spec PyProof.Rows
abbrev aS:=Sum Int Si
noncomputable def JE:aS->Se->Bool
 |.inl k,v=>Rx k v
 |.inr x,v=>Rj x v
def keyH(w:Sm):aS->Int
 |.inl k=>hashInt k
 |.inr x=>hashStr w x
theorem ZH:∀{k:aS}{v:Se},JE k v=b5->(∃i t,k=Ny i/\v=Pt i t)∨(∃x t,k=Nz x/\v=Lo x t)
 |.inl i,v,h=>by obtain⟨t,e⟩:=Value.isInt_shape (k:=i) (v:=v) h;exact .inl ⟨i,t,rfl,e⟩
 |.inr x,v,h=>by obtain⟨t,e⟩:=Value.isStrOf_shape (x:=x) (v:=v) h;exact .inr ⟨x,t,rfl,e⟩
def kQ(i:Int)(t:Tok):JE (.inl i) (.int i t)=b5:=by simp[JE,Rx]
def mL(x:Si)(t:Tok):JE (.inr x) (.str x t)=b5:=by simp[JE,Rj]
def kz(a b:Int):decide ((Ny a:aS)=Ny b)=(a==b):=by
 by_cases e:a=b
 ·subst e;simp
 ·have h : ¬ (Ny a : aS) = Ny b := λq => e (Sum.inl.inj q)
  rw[decide_eq_false h];exact(beq_eq_false_iff_ne.mpr e).symm
def dH(a b:Si):decide ((Nz a:aS)=Nz b)=decide (a=b):=by
 by_cases e:a=b
 ·subst e;simp
 ·have h : ¬ (Nz a : aS) = Nz b := λq => e (Sum.inr.inj q)
  rw[decide_eq_false h,decide_eq_false e]
def Ys(a:Int)(b:Si):decide ((Ny a:aS)=Nz b)=ba:=decide_eq_false (λq=>nomatch q)
def lK(a:Si)(b:Int):decide ((Nz a:aS)=Ny b)=ba:=decide_eq_false (λq=>nomatch q)
def Z9(prog:Bh)(w:Sm):PySem.KeyKind prog w aS where
 is:=JE
 hash:=keyH w
 inj:=λv a b l f=>by
  rcases ZH l with⟨i,t,rfl,rfl⟩|⟨x,t,rfl,rfl⟩
  ·rcases ZH f with⟨j,u,rfl,e⟩|⟨y,u,rfl,e⟩
   ·injection e with c _;rw[c]
   ·exact nomatch e
  ·rcases ZH f with⟨j,u,rfl,e⟩|⟨y,u,rfl,e⟩
   ·exact nomatch e
   ·injection e with c _;rw[c]
 byValue:=λk v h=>by
  rcases ZH h with⟨i,t,rfl,rfl⟩|⟨x,t,rfl,rfl⟩<;>rfl
 pyHash:=λd h=>by
  rcases ZH d with⟨i,t,rfl,rfl⟩|⟨x,t,rfl,rfl⟩
  ·exact wpAny_pyHash_int h
  ·exact wpAny_pyHash_str h
 eqBool:=λg d h=>by
  rcases ZH g with⟨i,t,rfl,rfl⟩|⟨x,t,rfl,rfl⟩
  ·rcases ZH d with⟨j,u,rfl,rfl⟩|⟨y,u,rfl,rfl⟩
   ·rw[kz]at h;exact Ld h
   ·rw[Ys]at h;exact SeqAt.EqAt.int_str i t y u _ _ _ _ h
  ·rcases ZH d with⟨j,u,rfl,rfl⟩|⟨y,u,rfl,rfl⟩
   ·rw[lK]at h;exact SeqAt.EqAt.str_int x t j u _ _ _ _ h
   ·rw[dH]at h;exact wpAny_eqBool_str h
 «strs» :=λk x t v h=>by
  rcases ZH h with⟨i,u,rfl,e⟩|⟨y,u,rfl,e⟩
  ·exact nomatch e
  ·injection e with c _
   subst c;cases v<;>rfl
def E5(prog:Bh)(w:Sm)(i:Int)(t:Tok):(Z9 prog w).is (.inl i) (.int i t)=b5:=kQ i t
def E6(prog:Bh)(w:Sm)(x:Si)(t:Tok):(Z9 prog w).is (.inr x) (.str x t)=b5:=mL x t
inductive V where
 |non|bl (b:Bool)|int (i:Int)|str (x:Si)|byt (b:Array UInt8)|flt (b:UInt64)|ref (a:Sf)|ty (n:String)
 deriving DecidableEq
def aW:V->Se->Prop
 |.non,u=>u=Value.none
 |.bl b,u=>u=Rb b
 |.int i,u=>∃t,u=Pt i t
 |.str x,u=>∃t,u=Lo x t
 |.byt b,u=>∃t,u=Value.bytes b t
 |.flt b,u=>∃t,u=Ry b t
 |.ref a,u=>u=Bq a
 |.ty n,u=>u=Kg n
abbrev a7:List V->List Se->Prop:=Paired aW
def a7.length{xs:List V}{us:List Se}(r:a7 xs us):xs.length=us.length:=Ng r
theorem a7.get:∀{xs:List V}{us:List Se}{i:Nat}{x:V},a7 xs us->xs[i]?=b0 x->∃u,us[i]?=b0 u/\aW x u
 |_,_,_,_,.nil,e=>by simp at e
 |_,_,0,_,.cons r _,e=>by simp at e;subst e;exact⟨_,rfl,r⟩
 |_,_,i+1,x,.cons _ t,e=>by obtain⟨u,h1,h2⟩:=a7.get (i:=i) (x:=x) t (by simpa using e);exact⟨u,by simpa using h1,h2⟩
theorem a7.set{x:V}{u:Se}(r:aW x u):∀{xs:List V}{us:List Se}(i:Nat),a7 xs us->a7 (xs.set i x) (us.set i u)
 |_,_,_,.nil=>.nil
 |_,_,0,.cons _ t=>.cons r t
 |_,_,i+1,.cons q t=>.cons q (a7.set r i t)
theorem a7.append:∀{xs ys:List V}{us ws:List Se},a7 xs us->a7 ys ws->a7 (xs++ys) (us++ws)
 |_,_,_,_,.nil,s=>s
 |_,_,_,_,.cons r t,s=>.cons r (a7.append t s)
theorem a7.take:∀{xs:List V}{us:List Se}(n:Nat),a7 xs us->a7 (xs.take n) (us.take n)
 |_,_,0,_=>.nil
 |_,_,_+1,.nil=>.nil
 |_,_,n+1,.cons r t=>.cons r (a7.take n t)
theorem a7.drop:∀{xs:List V}{us:List Se}(n:Nat),a7 xs us->a7 (xs.drop n) (us.drop n)
 |_,_,0,r=>r
 |_,_,_+1,.nil=>.nil
 |_,_,n+1,.cons _ t=>a7.drop n t
def MR:Option V->Option Se->Prop
 |some v,b0 u=>aW v u
 |none,b3=>True
 |_,_=>False
def KV{κ:Type}:List (κ×V)->List (κ×Se)->Prop:=Paired λ(p:κ×V) (q:κ×Se)=>p.1=q.1/\aW p.2 q.2
noncomputable def kV:aS->V
 |.inl i=>.int i
 |.inr x=>.str x
inductive HO where
 |lst (xs:List V)
 |tup (xs:List V)
 |dK (kvs:List (aS×V))|dT (kvs:List (List aS×V))
 |set (S:Int->Bool) (n:Nat)
 |ins (C dx:Sf) (fs:List (Si×V))
 |own (x:Sf)
 |met (f x:Sf)
 |nst (xs:List V) (sub:Sf->Option (List V))
 |rng (lo hi:Int)
 |frz (o:Sr) (u:HO)
 |tbl (ps:Array Se)
 |ext (φ:Sq->Prop)
abbrev Hp:=Sf->Option HO
def aG(H:Hp)(a:Sf)(o:HO):Hp:=λb=>if b=a then b0 o else H b
def bU{H:Hp}{a:Sf}{o:HO}:aG H a o a=b0 o:=by unfold aG;rw[if_pos rfl]
def bC{H:Hp}{a b:Sf}{o:HO}(h:b≠a):aG H a o b=H b:=by unfold aG;rw[if_neg h]
def OV{H:Hp}{a b:Sf}{o u:HO}(h:H a=b0 o)(h':H b=b0 u)(d:o≠u):a≠b:=by intro e;subst e;rw[h]at h';exact d (Bu h')
def YJ{H:Hp}{a b:Sf}{o:HO}(h:H a=b0 o)(h':H b=b3):a≠b:=by intro e;subst e;rw[h]at h';cases h'
section
variable(P:Bh)(w:Sm)
def ZJ(H:Hp)(h:Sq)(a:Sf):HO->Prop
 |.lst xs=>xs.length<=sizeLine/\∃(its:List Se) (n:Nat),a7 xs its/\h.get? a=b0 {cls:=.type "list",data:=.seq its.toArray n}
 |.tup xs=>xs.length<=sizeLine/\∃its:List Se,a7 xs its/\IsTup h a its.toArray
 |.dK kvs=>kvs.length<=sizeLine/\(a==Gb)=ba/\∃vs,KV kvs vs/\h.DictOf (Z9 P w) a vs
 | .dT kvs => kvs.length <= sizeLine /\ (a == Gb) = ba /\ ∃ xs : List (List aS × Sf × Se),
   Paired (λ(p:List aS×V) (q:List aS×Sf×Se)=>p.1=q.1/\H q.2.1=b0 (.tup (p.1.map kV))/\aW p.2 q.2.2) kvs xs∧
   ∃o es d,h.get? a=b0 o/\o.ExactDict/\o.data=.dict es d/\es.toList=xs.map (entryOfKey (tupleKind (Z9 P w)))/\(xs.map (·.1)).Nodup
 |.set S n=>h.SetOf (intKind P w) a S n
 | .ins C dx fs => H dx = b0 (.own a) /\ fs.length <= 1000 /\ dx ≠ a /\ h.get? a = b0 (Ro C dx) ∧
   ∃c,h.Ns1 dx c/\(∀f,MR (fs.lookup f) (c f))/\Rp c (fs.map (·.1))
 |.own _=>∃o,h.get? a=b0 o
 |.rng lo hi=>∃t u v,h.get? a=b0 {cls:=.type "range",data:=.fields #[.int lo t,.int hi u,.int 1 v]}
 |.frz o u=>h.get? a=b0 o/\ZJ H h a u
 |.tbl ps=>h.get? a=b0 {cls:=.none,data:=.fields ps}
 |.met f x=>h.get? a=b0 (Pw (.ref f) (.ref x))
 | .nst xs sub => (xs.length <= sizeLine /\ ∃ (its : List Se) (n : Nat),a7 xs its /\ h.get? a = b0 { cls := .type "list",data := .seq its.toArray n }) ∧
   ∀p zs,sub p=b0 zs->p≠a/\H p=b0 (.own a)/\zs.length<=sizeLine/\∃(its:List Se) (n:Nat),a7 zs its/\h.get? p=b0 {cls:=.type "list",data:=.seq its.toArray n}
 |.ext b=>b h/\(∃o,h.get? a=b0 o)/\∀h1 h2:Sq,b h1->(∀o,h1.get? a=b0 o->h2.get? a=b0 o)->b h2
def QU(H:Hp)(h:Sq):Prop:=∀a o,H a=b0 o->ZJ P w H h a o
end
section
variable{P:Bh}{w:Sm}{H H':Hp}{h h':Sq}{a:Sf}{o:HO}
def ZJ.lt(x:ZJ P w H h a o):a<h.objs.size:=by
 cases o with
 |lst xs=>obtain⟨_,_,_,_,e⟩:=x;exact Av e
 |tup xs=>obtain⟨_,_,_,p⟩:=x;exact p.lt
 |dK kvs=>obtain⟨_,_,_,_,o,_,_,e,_⟩:=x;exact Av e
 |dT kvs=>obtain⟨_,_,_,_,o,_,_,e,_⟩:=x;exact Av e
 |set S n=>obtain⟨o,_,_,_,e,_⟩:=x;exact Av e
 |ins C dx fs=>obtain⟨_,_,_,e,_⟩:=x;exact Av e
 |own y=>obtain⟨_,e⟩:=x;exact Av e
 |rng lo hi=>obtain⟨_,_,_,e⟩:=x;exact Av e
 |frz c u=>obtain⟨e,_⟩:=x;exact Av e
 |tbl ps=>exact Av (show h.get? a=b0 _ from x)
 |met f y=>exact Av (show h.get? a=b0 _ from x)
 |nst xs sub=>obtain⟨⟨_,_,_,_,e⟩,_⟩:=x;exact Av e
 |ext b=>obtain⟨_,⟨_,e⟩,_⟩:=x;exact Av e
theorem Paired.mapP{α β:Type}{F G:α->β->Prop}:∀{d:List α}{c:List β},Paired F d c->(∀a b,F a b->G a b)->Paired G d c
 |_,_,.nil,_=>.nil
 |_,_,.cons r t,f=>.cons (f _ _ r) (Paired.mapP t f)
def ZJ.stay(x:ZJ P w H h a o)(k:∀b u,(b=a∨H b=b0 (.own a))->h.get? b=b0 u->h'.get? b=b0 u)(l:∀b,H b=b0 (.own a)->H' b=b0 (.own a))(K:∀b xs,H b=b0 (.tup xs)->H' b=b0 (.tup xs)):ZJ P w H' h' a o:=by
 induction o with
 |lst xs=>obtain⟨z,its,n,r,e⟩:=x;exact⟨z,its,n,r,k _ _ (.inl rfl) e⟩
 |tup xs=>obtain⟨z,its,r,g,e,c⟩:=x;exact⟨z,its,r,g,k _ _ (.inl rfl) e,c⟩
 |dK kvs=>obtain⟨z,y,vs,r,g,es,i,e,c⟩:=x;exact⟨z,y,vs,r,g,es,i,k _ _ (.inl rfl) e,c⟩
 |dT kvs=>
  obtain⟨z,y,xs,r,g,es,i,e,c⟩:=x;exact⟨z,y,xs,Paired.mapP r λp q z=>⟨z.1,K _ _ z.2.1,z.2.2⟩,g,es,i,k _ _ (.inl rfl) e,c⟩
 |set S n=>obtain⟨g,es,i,t,e,c⟩:=x;exact⟨g,es,i,t,k _ _ (.inl rfl) e,c⟩
 |ins C dx fs=>
  obtain⟨d,z,A,e,E,⟨od,es,i,j,c⟩,r⟩:=x;exact⟨l _ d,z,A,k _ _ (.inl rfl) e,E,⟨od,es,i,k _ _ (.inr d) j,c⟩,r⟩
 |own y=>obtain⟨g,e⟩:=x;exact⟨g,k _ _ (.inl rfl) e⟩
 |rng lo hi=>obtain⟨t,u,v,e⟩:=x;exact⟨t,u,v,k _ _ (.inl rfl) e⟩
 |frz g u G=>obtain⟨e,q⟩:=x;exact⟨k _ _ (.inl rfl) e,G q⟩
 |tbl ps=>
  have e:h.get? a=b0 {cls:=.none,data:=.fields ps}:=x;show h'.get? a=b0 {cls:=.none,data:=.fields ps};exact k a _ (.inl rfl) e
 |met f y=>
  have e:h.get? a=b0 (Pw (.ref f) (.ref y)):=x;show h'.get? a=b0 (Pw (.ref f) (.ref y));exact k a _ (.inl rfl) e
 |nst xs sub=>
  obtain⟨⟨z,J,D,s,N⟩,F⟩:=x;exact⟨⟨z,J,D,s,k _ _ (.inl rfl) N⟩,λp zs L=>let ⟨Q,j,O,I,B,m,M⟩:=F p zs L;⟨Q,l _ j,O,I,B,m,k _ _ (.inr j) M⟩⟩
 |ext R=>obtain⟨p,⟨o,e⟩,st⟩:=x;exact⟨st _ _ p λo q=>k _ _ (.inl rfl) q,⟨o,k _ _ (.inl rfl) e⟩,st⟩
def QU.lt(x:QU P w H h)(e:H a=b0 o):a<h.objs.size:=(x a o e).lt
def QU.fresh(x:QU P w H h)(e:h.objs.size<=a):H a=b3:=by
 cases q:H a with
 |none=>rfl
 |some u=>exact absurd (Bi (x.lt q) e) (Cp _)
def QU.kept(x:QU P w H h)(k:∀b u,h.get? b=b0 u->h'.get? b=b0 u):QU P w H h':=λa o e=>
 (x a o e).stay (λb u _ q=>k b u q) (λ_ q=>q) λ_ _ q=>q
def QU.laid(x:QU P w H h)(k:∀b u,h.get? b=b0 u->h'.get? b=b0 u)(g:h.objs.size<=a)(new:ZJ P w (aG H a o) h' a o):QU P w (aG H a o) h':=λb u e=>by
 have d:=x.fresh g;by_cases f:b=a
 ·subst f;rw[bU]at e;cases e;exact new
 ·rw[bC f]at e
  exact(x b u e).stay (λc v _ q=>k c v q) (λc q=>by rw[bC (YJ q d)];exact q) λc xs q=>by rw[bC (YJ q d)];exact q
end
def Prt(H:Hp)(a:Sf)(u:HO):Prop:=∃xs sub zs,u=.lst zs/\((∃x,H a=b0 (.own x)/\H x=b0 (.nst xs sub)/\sub a=b0 zs)∨(H a=b0 (.nst xs sub)/\zs=xs))
def Rd(H:Hp)(a:Sf)(u:HO):Prop:=(H a=b0 u∨Prt H a u)∨∃o,H a=b0 (.frz o u)
def Rd.of{H:Hp}{a:Sf}{u:HO}(h:H a=b0 u):Rd H a u:=.inl (.inl h)
def Rd.ok{P:Bh}{w:Sm}{H:Hp}{h:Sq}{a:Sf}{u:HO}(r:Rd H a u)(x:QU P w H h):ZJ P w H h a u:=by
 rcases r with(r|⟨xs,sub,zs,rfl,(⟨y,_,e,s⟩|⟨e,rfl⟩)⟩)|⟨o,r⟩
 ·exact x a u r
 ·obtain⟨_,b⟩:=x y _ e
  obtain⟨_,_,z,i,n,v,g⟩:=b _ _ s;exact⟨z,i,n,v,g⟩
 ·exact(show ZJ P w H h a (.nst _ sub) from x a _ e).1
 ·obtain⟨_,q⟩:=x a _ r
  exact q
def Mut:Option HO->Prop
 |some (.lst _)=>True
 |some (.dK _)=>True
 |some (.dT _)=>True
 |some (.set _ _)=>True
 |some (.ins _ _ _)=>True
 |some (.nst _ _)=>True
 |some (.ext _)=>True
 |_=>False
section
variable{P:Bh}{w:Sm}{H:Hp}{h h':Sq}{x e:Sf}{o':HO}
def QU.write(ok:QU P w H h)(d:Mut (H x))(j:e=x∨H e=b0 (.own x))(k:∀b u,b≠e->h.get? b=b0 u->h'.get? b=b0 u)(g:∃u,h'.get? e=b0 u)
  (new:ZJ P w (aG H x o') h' x o'):QU P w (aG H x o') h':=λb u q=>by
 have l:∀c y,H c=b0 (.own y)->c≠x:=λc y r z=>by subst z;rw[r]at d;exact d
 have n:∀c xs,H c=b0 (.tup xs)->c≠x:=λc xs r z=>by subst z;rw[r]at d;exact d
 by_cases f:b=x
 ·subst f;rw[bU]at q;cases q;exact new
 ·rw[bC f]at q
  by_cases a:b=e
  ·have i:H b=b0 (.own x):=by
    rcases j with z|z
    ·exact absurd (a.trans z) f
    ·rw[a];exact z
   rw[q]at i;cases i;obtain⟨v,m⟩:=g;exact⟨v,by rw[a];exact m⟩
  ·refine (ok b u q).stay (λc v hc r => k c v ?_ r) (λc r => by rw [bC (l c b r)];exact r) λc xs r => by rw [bC (n c xs r)];exact r
   rcases hc with rfl|hc
   ·exact a
   ·rintro rfl
    rcases j with z|z
    ·exact l c b hc z
    ·rw[hc]at z;cases z;exact f rfl
end
structure Un(fs ex:List Sf)(H H':Hp)(h h':Sq):Prop where
 keep:∀b o,h.get? b=b0 o->H b=b3->b∉fs->b∉ex->h'.get? b=b0 o
 slot:∀b o,h.get? b=b0 o->H b=b3->b∈fs->b∉ex->∃sl,h'.get? b=b0 {o with slots:=sl}
 free:∀b o,h.get? b=b0 o->H b=b3->b∉ex->H' b=b3
 there:∀b o,h.get? b=b0 o->b∉ex->∃o',h'.get? b=b0 o'
 tups:∀b xs,H b=b0 (.tup xs)->H' b=b0 (.tup xs)
 frzs:∀b o u,H b=b0 (.frz o u)->H' b=b0 (.frz o u)
 tbls:∀b ps,H b=b0 (.tbl ps)->∃more,H' b=b0 (.tbl (ps++more))
section
variable{fs fs' ex ex':List Sf}{H H1 H2:Hp}{h h1 h2 h':Sq}{a x e:Sf}{o:HO}
def Un.any(u:Un fs ex H H1 h h1){b:Sf}{a:Sr}(q:h.get? b=b0 a)(n:H b=b3)(c:b∉ex):∃e,h1.get? b=b0 {a with slots:=e}:=by
 by_cases d:b∈fs
 ·exact u.slot b a q n d c
 ·exact⟨a.slots,u.keep b a q n d c⟩
def Un.kept(k:∀b u,h.get? b=b0 u->h'.get? b=b0 u):Un fs ex H H h h':=
 ⟨λb a q _ _ _=>k b a q,λb a q _ _ _=>⟨a.slots,k b a q⟩,λ_ _ _ n _=>n,λb a q _=>⟨a,k b a q⟩,λ_ _ q=>q,λ_ _ _ q=>q,λ_ ps q=>⟨#[],by rw[q];simp⟩⟩
def Un.refl:Un fs ex H H h h:=Un.kept λ_ _ q=>q
def Un.laid(k:∀b u,h.get? b=b0 u->h'.get? b=b0 u)(d:h.objs.size<=a)(c:H a=b3):Un fs ex H (aG H a o) h h' where
 keep:=λb u q _ _ _=>k b u q
 slot:=λb u q _ _ _=>⟨u.slots,k b u q⟩
 free:=λb u q n _=>by rw[bC (Bn (Bi (Av q) d))];exact n
 there:=λb u q _=>⟨u,k b u q⟩
 tups:=λb xs q=>by rw[bC (YJ q c)];exact q
 frzs:=λb u xs q=>by rw[bC (YJ q c)];exact q
 tbls:=λb ps q=>⟨#[],by rw[bC (YJ q c),q];simp⟩
def Un.write(c:Mut (H x))(j:e=x∨H e=b0 (.own x))(k:∀b u,b≠e->h.get? b=b0 u->h'.get? b=b0 u)(f:∃u,h'.get? e=b0 u):Un fs ex H (aG H x o) h h':=by
 have g:∀b,H b=b3->b≠x:=λb n z=>by subst z;rw[n]at c;exact c
 have i:∀b,H b=b3->b≠e:=λb n z=>by
  subst z;rcases j with r|r
  ·exact g b n r
  ·rw[n]at r;cases r
 have d:∀b u,H b=b0 u->¬Mut (b0 u)->b≠x:=λb u q nm z=>by subst z;rw[q]at c;exact nm c
 refine⟨λb u q n _ _=>k b u (i b n) q,λb u q n _ _=>⟨u.slots,k b u (i b n) q⟩,λb u q n _=>by rw[bC (g b n)];exact n,λb u q _=>?_,λb xs q=>by rw[bC (d b _ q λz=>z)];exact q,λb u xs q=>by rw[bC (d b _ q λz=>z)];exact q,λb ps q=>⟨#[],by rw[bC (d b _ q λz=>z),q];simp⟩⟩
 by_cases a:b=e
 ·subst a;exact f
 ·exact⟨u,k b u a q⟩
end
def trk(h:Sq)(H:Hp):List Sf:=(Bm h.objs.size).filter λa=>(H a).isSome
def HD(h:Sq)(H:Hp):Sq:=W.hideAll h (trk h H)
def dU(h:Sq)(H:Hp):(HD h H).objs.size=h.objs.size:=W.hideAll_size _ _
def jB{h:Sq}{H:Hp}{b:Sf}{o:Sr}(e:h.get? b=b0 o)(n:H b=b3):(HD h H).get? b=b0 o:=
 W.hideAll_get _ e λa=>by have q:(H b).isSome=b5:=(Hh.mp a).2;rw[n]at q;simp at q
def lx{h:Sq}{H:Hp}{b:Sf}{o:Sr}(e:(HD h H).get? b=b0 o):h.get? b=b0 o/\H b=b3:=by
 have a:h.get? b=b0 o:=W.of_hideAll (trk h H) e;refine⟨a,?_⟩;cases q:H b with
 |none=>rfl
 |some x=>
  have c:b∈trk h H:=Hh.mpr ⟨Dq.mpr (Av a),by simp[q]⟩;have z:(HD h H).get? b=b3:=W.hideAll_none (trk h H) c;rw[z]at e;cases e
structure Mod(K:Ao)(mg:Si->Option Se)(base:Sq):Prop where
 kin:K.In base
 glob:base.Ns So mg
 blt:∃mb,base.Ns builtinsNs mb/\∀x:Si,x≠ "__name__" ->mb x=Bj x
 nolimit:base.NoLimit
structure Cx where
 prog:Bh
 w:Sm
 K:Ao
 mg:Si->Option Se
 base:Sq
 A:Dh
 N:List Si
 s₀:Ah
 H₀:Hp
 env:Env
 outer:List Env
 stack:List Env
 ex:List Sf
 fn:Si->Bool
 calm:Bool
 pn:List (Sf×Sr)
 xe:Se->Ah->Prop
def frs(l:List Env):List Sf:=l.filterMap (·.frame)
abbrev Cx.fs(X:Cx):List Sf:=frs X.outer
def Vis(a:Sx)(x:Si):Prop:=a.names.lookup x=b0 .local∨a.names.lookup x=b0 .cell∨a.names.lookup x=b0 .free
def Loc(a:Sx)(x:Si):Prop:=a.names.lookup x=b0 .local∨a.names.lookup x=b0 .cell
def Look(env:Env)(h:Sq)(m:Si->Option Se)(x:Si)(u:Se):Prop:=
 (env.kindOf x=b0 .local/\m x=b0 u)∨((env.kindOf x=b0 .cell∨env.kindOf x=b0 .free)/\∃c,env.cells.lookup x=b0 c/\h.IsCell c (b0 u))
structure Cx.Ok(X:Cx):Prop where
 mod:Mod X.K X.mg X.base
 kind:X.env.scope.kind=.function
 glob:X.env.globals=So
 blt:X.env.builtins=builtinsNs
 above:X.s₀.heap.objs.size<=X.env.locals
 inj:∀x y c,X.env.cells.lookup x=b0 c->X.env.cells.lookup y=b0 c->x=y
 has:∀x,(X.env.kindOf x=b0 .cell∨X.env.kindOf x=b0 .free)->∃c,X.env.cells.lookup x=b0 c
 cab:∀x c,X.fn x=b5->X.env.cells.lookup x=b0 c->X.s₀.heap.objs.size<=c
 hd:X.calm=b5->X.A.handled=b3
 frames:X.A.frames=b0 X.stack
 stk:X.stack=X.outer∨(X.stack=X.env::X.outer/\X.env.frame=b0 X.env.locals)
 exf:∀b∈X.ex,b≠X.env.locals/\∀x c,X.env.cells.lookup x=b0 c->c≠b
 bs:∀b o,X.base.get? b=b0 o->X.s₀.heap.get? b=b0 o/\X.H₀ b=b3
 bsz:X.base.objs.size<=X.s₀.heap.objs.size
 noex:∀b o,X.base.get? b=b0 o->b∉X.ex
 exfs:∀b∈X.ex,b∉X.fs
 funs:X.s₀.heap.FunFrames X.base X.outer
 frf:∀b∈X.fs,X.H₀ b=b3
structure bP(X:Cx)(aa:List (Sf×Sr))(σ:List (Option V))(H:Hp)(s:Ah):Prop where
 ok:X.Ok
 os:s.os=X.s₀.os
 bare:Lp s.gens
 base:Un X.fs X.ex X.H₀ H X.s₀.heap s.heap
 loc:∃m,s.heap.Ns X.env.locals m/\∀(i:Nat) (x:Si) (v:V),X.N[i]?=b0 x->σ[i]?=b0 (b0 v)->Vis X.env.scope x->∃u,aW v u/\Look X.env s.heap m x u
 cell:∀x c,X.env.cells.lookup x=b0 c->∃v,s.heap.IsCell c v
 free:H X.env.locals=b3
 freeC:∀x c,X.env.cells.lookup x=b0 c->H c=b3
 pin:∀p∈X.pn++aa,s.heap.get? p.1=b0 p.2/\H p.1=b3/\p.1≠X.env.locals/\p.1∉X.fs/\∀v,p.2.data≠ .cell v
 hok:QU X.prog X.w H s.heap
 len:σ.length=X.N.length
section
variable{X:Cx}{aa:List (Sf×Sr)}{σ:List (Option V)}{H H':Hp}{s:Ah}{h':Sq}
def Cx.Ok.nofr(ok:X.Ok){b:Sf}{o:Sr}(e:X.base.get? b=b0 o):b∉X.fs:=λa=>by
 have:=(ok.funs.mem a).1
 rw[e]at this;cases this
def bP.bs(I:bP X aa σ H s):∀b o,X.base.get? b=b0 o->s.heap.get? b=b0 o/\H b=b3:=λb o e=>
 ⟨I.base.keep b o (I.ok.bs b o e).1 (I.ok.bs b o e).2 (I.ok.nofr e) (I.ok.noex b o e),I.base.free b o (I.ok.bs b o e).1 (I.ok.bs b o e).2 (I.ok.noex b o e)⟩
def bP.bk(I:bP X aa σ H s):∀b o,X.base.get? b=b0 o->s.heap.get? b=b0 o:=λb o e=>(I.bs b o e).1
def bP.mod(I:bP X aa σ H s):Mod X.K X.mg X.base:=I.ok.mod
def bP.kIn(I:bP X aa σ H s):X.K.In s.heap:=I.ok.mod.kin.keeps I.bk
def bP.lt(I:bP X aa σ H s):X.env.locals<s.heap.objs.size:=let ⟨_,a,_⟩:=I.loc;a.lt
def bP.sz(I:bP X aa σ H s):X.s₀.heap.objs.size<=s.heap.objs.size:=Fc I.ok.above (Ow I.lt)
def bP.nofs(I:bP X aa σ H s){a:Sf}(h:s.heap.objs.size<=a):a∉X.fs:=λc=>by obtain⟨_,o,b,_⟩:=I.ok.funs.mem c;exact absurd (Bi (Av b) (Fc I.sz h)) (Cp _)
def bP.cne(I:bP X aa σ H s):∀x c,X.env.cells.lookup x=b0 c->c≠X.env.locals:=λx c e z=>by obtain⟨v,o,d,hd⟩:=I.cell x c e;obtain⟨m,⟨o',es,f,a,b,_⟩,_⟩:=I.loc;rw[z,a]at d;cases d;rw[b]at hd;cases hd
def bP.funs(I:bP X aa σ H s):s.heap.FunFrames X.base X.outer:=by
 have all:∀(l:List Env),(∀b∈frs l,b∈X.fs)->X.s₀.heap.FunFrames X.base l->s.heap.FunFrames X.base l:=by
  intro l;induction l with
  |nil=>intro _ _;trivial
  |cons env r g=>
   intro f hl;obtain⟨hk,⟨L,o,a,j,i,hd⟩,h⟩:=hl;have d:L∈X.fs:=f L (by unfold frs;rw[Ji,a];exact Aw);obtain⟨k,e⟩:=I.base.slot L o i (I.ok.frf L d) d λz=>I.ok.exfs L z d;exact⟨hk,⟨L,_,a,j,e,hd⟩,g (λb c=>f b (by unfold frs;rw[Ji,a];exact Ap _ c)) h⟩
 exact all X.outer (λ_ c=>c) I.ok.funs
def bP.stack(I:bP X aa σ H s):s.heap.FunFrames X.base X.stack:=by
 rcases I.ok.stk with e|⟨e,b⟩
 ·rw[e];exact I.funs
 ·rw[e]
  obtain⟨m,a,_⟩:=I.loc;refine .cons (by rw[I.ok.kind];decide) b a ?_ I.funs;exact Heap.get?_none_of_le (Fc I.ok.bsz I.ok.above)
def bP.stkSub(I:bP X aa σ H s):∀b∈frs X.stack,b∈X.env.locals::X.fs:=λb a=>by
 rcases I.ok.stk with e|⟨e,c⟩
 ·rw[e]at a;exact Ap _ a
 ·rw[e]at a
  unfold frs at a;rw[Ji,c]at a;exact a
def bP.stkFree(I:bP X aa σ H s):∀b∈frs X.stack,H b=b3:=λb a=>by
 rcases Aj.mp (I.stkSub b a)with e|a
 ·rw[e];exact I.free
 ·obtain⟨_,o,c,_⟩:=I.ok.funs.mem a
  exact I.base.free b o c (I.ok.frf b a) λz=>I.ok.exfs b z a
def bP.step{g':Array GenState}{t':Nat}{d':Drawn}{ch:List Sf}(I:bP X aa σ H s)(h:∀b∈ch,(b∈X.ex∨X.s₀.heap.objs.size<=b)/\b≠X.env.locals/\(∀x c,X.env.cells.lookup x=b0 c->c≠b)/\∀p∈X.pn++aa,p.1≠b)(keep:∀b o,b≠X.env.locals->b∉X.fs->b∉ch->s.heap.get? b=b0 o->H b=b3->h'.get? b=b0 o)(slot:∀b o,b≠X.env.locals->b∈X.fs->b∉ch->s.heap.get? b=b0 o->H b=b3->∃G,h'.get? b=b0 {o with slots:=G})(f:∀b o,b∉ch->s.heap.get? b=b0 o->H b=b3->H' b=b3)(there:∀b o,b∉ch->s.heap.get? b=b0 o->∃o',h'.get? b=b0 o')(tups:∀b xs,H b=b0 (.tup xs)->H' b=b0 (.tup xs))(D:∀b o u,H b=b0 (.frz o u)->H' b=b0 (.frz o u))(B:∀b ps,H b=b0 (.tbl ps)->∃more,H' b=b0 (.tbl (ps++more)))(ns:∀m,s.heap.Ns X.env.locals m->h'.Ns X.env.locals m)(J:QU X.prog X.w H' h')(P:Lp g'):bP X aa σ H' {s with heap:=h',gens:=g',drawn:=d',toks:=t'}:=by
 have C:∀b o,X.s₀.heap.get? b=b0 o->b≠X.env.locals:=λb o e=>Bn (Bi (Av e) I.ok.above);have j:∀b o,X.s₀.heap.get? b=b0 o->b∉X.ex->b∉ch:=λb o e a y=>by
  rcases(h b y).1 with z|z
  ·exact a z
  ·exact absurd (Bi (Av e) z) (Cp _)
 have N:∀x c,X.env.cells.lookup x=b0 c->∀v,s.heap.IsCell c v->h'.IsCell c v:=λx c e v q0=>by
  obtain⟨o,A,hd⟩:=q0;have g:c∉ch:=λz=>(h c z).2.2.1 x c e rfl;by_cases hc:c∈X.fs
  ·obtain⟨G,q⟩:=slot c o (I.cne x c e) hc g A (I.freeC x c e)
   exact⟨_,q,hd⟩
  ·exact⟨o,keep c o (I.cne x c e) hc g A (I.freeC x c e),hd⟩
 refine⟨I.ok,I.os,P,⟨λb o e n y a=>?_,λb o e n y a=>?_,λb o e n a=>?_,λb o e a=>?_,λb xs e=>tups b xs (I.base.tups b xs e),λb o xs e=>D b o xs (I.base.frzs b o xs e),λb ps e=>?_⟩,?_,λx c e=>?_,?_,λx c e=>?_,λp M=>?_,J,I.len⟩
 ·exact keep b o (C b o e) y (j b o e a) (I.base.keep b o e n y a) (I.base.free b o e n a)
 ·obtain⟨G,t⟩:=I.base.slot b o e n y a
  obtain⟨F,E⟩:=slot b _ (C b o e) y (j b o e a) t (I.base.free b o e n a);exact⟨F,E⟩
 ·obtain⟨o',t⟩:=I.base.there b o e a
  exact f b o' (j b o e a) t (I.base.free b o e n a)
 ·obtain⟨o',t⟩:=I.base.there b o e a
  exact there b o' (j b o e a) t
 ·obtain⟨m1,t⟩:=I.base.tbls b ps e
  obtain⟨m2,E⟩:=B b _ t;exact⟨m1++m2,by rw[E,Array.append_assoc]⟩
 ·obtain⟨m,O,hl⟩:=I.loc
  refine⟨m,ns m O,λi x v t E Q=>?_⟩;obtain⟨u,r,l⟩:=hl i x v t E Q;refine⟨u,r,?_⟩;rcases l with l|⟨k,c,e,z⟩
  ·exact .inl l
  ·exact .inr ⟨k,c,e,N x c e _ z⟩
 ·obtain⟨v,z⟩:=I.cell x c e
  exact⟨v,N x c e v z⟩
 ·obtain⟨m,⟨o,_,_,A,_⟩,_⟩:=I.loc
  exact f _ o (λz=>(h _ z).2.1 rfl) A I.free
 ·obtain⟨v,o,A,hd⟩:=I.cell x c e
  exact f c o (λz=>(h c z).2.2.1 x c e rfl) A (I.freeC x c e)
 ·obtain⟨e,n,L,K,d⟩:=I.pin p M
  have g:p.1∉ch:=λz=>(h p.1 z).2.2.2 p M rfl;exact⟨keep p.1 p.2 L K g e n,f p.1 p.2 g e n,L,K,d⟩
def bP.un{t':Nat}(I:bP X aa σ H s)(u:Un X.fs [] H H' s.heap h')(c:QU X.prog X.w H' h'):bP X aa σ H' {s with heap:=h',toks:=t'}:=by
 obtain⟨m,⟨o,es,p,h,r⟩,_⟩:=id I.loc;obtain⟨k,j⟩:=u.any h I.free (by simp);exact I.step (g':=s.gens) (d':=s.drawn) (ch:=[]) (λ_ z=>nomatch z) (λb o _ d _ e n=>u.keep b o e n d (by simp)) (λb o _ d _ e n=>u.slot b o e n d (by simp)) (λb o _ e n=>u.free b o e n (by simp)) (λb o _ e=>u.there b o e (by simp)) u.tups u.frzs u.tbls (λl i=>by obtain⟨o',f,g,a,r'⟩:=i;rw[h]at a;cases a;exact⟨_,f,g,j,r'⟩) c I.bare
def bP.call{g':Array GenState}{t':Nat}{d':Drawn}{ch:List Sf}(I:bP X aa σ H s)(u:Un (frs X.stack) ch H H' s.heap h')(f:QU X.prog X.w H' h')(l:Lp g')(d:∀b∈ch,(b∈X.ex∨X.s₀.heap.objs.size<=b)/\b≠X.env.locals/\(∀x c,X.env.cells.lookup x=b0 c->c≠b)/\∀p∈X.pn++aa,p.1≠b):bP X aa σ H' {s with heap:=h',gens:=g',drawn:=d',toks:=t'}:=by
 obtain⟨m,⟨o,es,y,j,r⟩,_⟩:=id I.loc;obtain⟨t,g⟩:=u.any j I.free λz=>(d _ z).2.1 rfl;exact I.step (ch:=ch) d (λb o g q hc e n=>u.keep b o e n (λz=>(Aj.mp (I.stkSub b z)).elim g q) hc) (λb o _ _ hc e n=>u.any e n hc) (λb o hc e n=>u.free b o e n hc) (λb o hc e=>u.there b o e hc) u.tups u.frzs u.tbls (λv k=>by obtain⟨o',h,i,a,r'⟩:=k;rw[j]at a;cases a;exact⟨_,h,i,g,r'⟩) f l
def bP.turned{t':Nat}{it:Sf}(I:bP X aa σ H s)(k:∀b o,b≠it->s.heap.get? b=b0 o->h'.get? b=b0 o)(g:H it=b3)(d:it≠X.env.locals)(h1:it∈X.ex∨X.s₀.heap.objs.size<=it)(h2:∀x c,X.env.cells.lookup x=b0 c->c≠it)(j:∀p∈X.pn++aa,p.1≠it):bP X aa σ H {s with heap:=h',toks:=t'}:=by
 have a:∀b u,H b=b0 u->b≠it:=λb u e z=>by rw[z,g]at e;cases e
 refine I.step (g':=s.gens) (d':=s.drawn) (ch:=[it]) (λb i=>?_) (λb o _ _ hc e _=>k b o (λz=>hc (by simp[z])) e) (λb o _ _ hc e _=>⟨o.slots,k b o (λz=>hc (by simp[z])) e⟩) (λ_ _ _ _ n=>n)
  (λb o hc e=>⟨o,k b o (λz=>hc (by simp[z])) e⟩) (λ_ _ e=>e) (λ_ _ _ e=>e) (λb ps e=>⟨#[],by rw[e];simp⟩) (λm h=>?_) (λb u e=>?_) I.bare
 ·have e : b = it := by simpa using i
  subst e;exact⟨h1,d,h2,j⟩
 ·obtain⟨o,es,l,f,r⟩:=h
  exact⟨o,es,l,k _ o (Dj d) f,r⟩
 ·refine (I.hok b u e).stay (λc v hc q => k c v ?_ q) (λ_ q => q) λ_ _ q => q
  rcases hc with z|z
  ·rw[z];exact a b u e
  ·exact a c _ z
def bP.tok(I:bP X aa σ H s)(t:Nat):bP X aa σ H {s with toks:=t}:=I.un (h':=s.heap) (t':=t) Un.refl I.hok
def bP.kept{t':Nat}(I:bP X aa σ H s)(k:∀b u,s.heap.get? b=b0 u->h'.get? b=b0 u):bP X aa σ H {s with heap:=h',toks:=t'}:=I.un (Un.kept k) (I.hok.kept k)
def bP.laid{a:Sf}{o:HO}{t':Nat}(I:bP X aa σ H s)(k:∀b u,s.heap.get? b=b0 u->h'.get? b=b0 u)(c:s.heap.objs.size<=a)(new:ZJ X.prog X.w (aG H a o) h' a o):bP X aa σ (aG H a o) {s with heap:=h',toks:=t'}:=I.un (Un.laid k c (I.hok.fresh c)) (I.hok.laid k c new)
def bP.write{x e:Sf}{o:HO}{t':Nat}(I:bP X aa σ H s)(c:Mut (H x))(d:e=x∨H e=b0 (.own x))(k:∀b u,b≠e->s.heap.get? b=b0 u->h'.get? b=b0 u)(a:∃u,h'.get? e=b0 u)(new:ZJ X.prog X.w (aG H x o) h' x o):bP X aa σ (aG H x o) {s with heap:=h',toks:=t'}:=I.un (Un.write c d k a) (I.hok.write c d k a new)
def bP.weak{a:List (Option V)}(I:bP X aa σ H s)(hl:a.length=σ.length)(w:∀(i:Nat) v,a[i]?=b0 (b0 v)->σ[i]?=b0 (b0 v)):bP X aa a H s:=
 ⟨I.ok,I.os,I.bare,I.base,let ⟨m,c,b⟩:=I.loc;⟨m,c,λi x v f e d=>b i x v f (w i v e) d⟩,I.cell,I.free,I.freeC,I.pin,I.hok,hl.trans I.len⟩
def bP.pins_of{a:List (Sf×Sr)}(I:bP X aa σ H s)(h:∀p∈a,s.heap.get? p.1=b0 p.2/\H p.1=b3/\p.1≠X.env.locals/\p.1∉X.fs/\∀v,p.2.data≠ .cell v):bP X a σ H s:=
 ⟨I.ok,I.os,I.bare,I.base,I.loc,I.cell,I.free,I.freeC,λp b=>(Bo.mp b).elim (λz=>I.pin p (Bz _ z)) (h p),I.hok,I.len⟩
def E9{N:List Si}(c:N.Nodup){i j:Nat}{x:Si}(a:N[i]?=b0 x)(b:N[j]?=b0 x):i=j:=by obtain⟨h1,e⟩:=Af.mp a;obtain⟨h2,d⟩:=Af.mp b;exact(Pb c).mp (e.trans d.symm)
def JS{M:Model}{A:Dh}{E:Se->Ah->Prop}{i:Nat}{x:Si}{v:V}{u:Se}{Q:Unit->Ah->Prop}(I:bP X aa σ H s)(hN:X.N.Nodup)(hi:X.N[i]?=b0 x)(l:Loc X.env.scope x)(r:aW v u)(h:∀s',bP X aa (σ.set i (b0 v)) H s'->(∃a,Fw a s.heap s'.heap/\(a=X.env.locals∨X.env.cells.lookup x=b0 a))->Q () s')(hf:X.fn x=b5∨X.env.scope.names.lookup x=b0 .local:=by first|exact .inl rfl|exact .inr rfl|assumption):Sg M A (storeName X.env x u) Q E s:=by
 obtain⟨m,hn,hl⟩:=id I.loc;have iu:(X.env.scope.kind== .class || (X.env.scope.kind== .module&&X.env.locals !=X.env.globals))=ba:=by rw[I.ok.kind];rfl
 have B:i<σ.length:=by rw[I.len];exact(Af.mp hi).1
 have cne:=I.cne;have cq:∀{a:Sf}{h':Sq},(∃o,s.heap.get? a=b0 o/\H a=b3)->Fw a s.heap h'->QU X.prog X.w H h':=λ{a h'} ha f b ob e=>by
  obtain⟨_,_,bm⟩:=ha;refine(I.hok b ob e).stay (λc L hc q=>(f.2 c ?_).trans q) (λ_ q=>q) λ_ _ q=>q;rintro rfl;rcases hc with rfl|hc
  ·rw[bm]at e;cases e
  ·rw[bm]at hc;cases hc
 rcases l with hk|hk
 ·refine wpAny_storeName_local hk hn (λh' Z f => ?_) iu
  obtain⟨oL,_,_,Y,_⟩:=id hn;refine h _ ⟨I.ok,I.os,I.bare,⟨λb o e n F l=>?_,λb o e n F l=>?_,I.base.free,λb o e l=>?_,I.base.tups,I.base.frzs,I.base.tbls⟩,⟨_,Z,λj y R g t e3=>?_⟩,λy c e=>?_,I.free,I.freeC,λp W=>?_,cq ⟨oL,Y,I.free⟩ f,by simpa using I.len⟩ ⟨_,f,.inl rfl⟩
  ·exact(f.2 b (Bn (Bi (Av e) I.ok.above))).trans (I.base.keep b o e n F l)
  ·obtain⟨T,g⟩:=I.base.slot b o e n F l
   exact⟨T,(f.2 b (Bn (Bi (Av e) I.ok.above))).trans g⟩
  ·obtain⟨o',g⟩:=I.base.there b o e l
   exact⟨o',(f.2 b (Bn (Bi (Av e) I.ok.above))).trans g⟩
  ·by_cases C:j=i
   ·subst C
    rw[hi]at g;cases g;rw[Dg B]at t;cases t;exact⟨u,r,.inl ⟨hk,by simp⟩⟩
   ·rw[Ca (Dj C)]at t
    obtain⟨S,r',q⟩:=hl j y R g t e3;refine⟨S,r',?_⟩;rcases q with⟨k,e⟩|⟨k,c,e,z⟩
    ·refine .inl ⟨k,?_⟩
     have:y≠x:=λe=>C (E9 hN g (e▸hi))
     simp[this,e]
    ·exact .inr ⟨k,c,e,z.sameBut f (cne y c e)⟩
  ·obtain⟨L,z⟩:=I.cell y c e
   exact⟨L,z.sameBut f (cne y c e)⟩
  ·obtain⟨e,n,O,U,d⟩:=I.pin p W
   exact⟨(f.2 p.1 O).trans e,n,O,U,d⟩
 ·have D:X.fn x=b5:=by
   rcases hf with z|z
   ·exact z
   ·rw[z]at hk;cases hk
  obtain⟨c,hc⟩:=I.ok.has x (.inl hk);obtain⟨L,z⟩:=I.cell x c hc;refine wpAny_storeName_cell I.ok.kind hk hc z (λh' K f=>?_);obtain⟨oc,G,i9⟩:=id z;refine h {s with heap:=h'} ⟨I.ok,I.os,I.bare,⟨λb o e n F l=>?_,λb o e n F l=>?_,I.base.free,λb o e l=>?_,I.base.tups,I.base.frzs,I.base.tbls⟩,⟨m,hn.sameBut f (Dj (cne x c hc)),λj y R g t e3=>?_⟩,λy P e=>?_,I.free,I.freeC,λp W=>?_,cq ⟨oc,G,I.freeC x c hc⟩ f,by simpa using I.len⟩ ⟨c,f,.inr hc⟩
  ·exact(f.2 b (Bn (Bi (Av e) (I.ok.cab x c D hc)))).trans (I.base.keep b o e n F l)
  ·obtain⟨T,g⟩:=I.base.slot b o e n F l
   exact⟨T,(f.2 b (Bn (Bi (Av e) (I.ok.cab x c D hc)))).trans g⟩
  ·obtain⟨o',g⟩:=I.base.there b o e l
   exact⟨o',(f.2 b (Bn (Bi (Av e) (I.ok.cab x c D hc)))).trans g⟩
  ·by_cases C:j=i
   ·subst C
    rw[hi]at g;cases g;rw[Dg B]at t;cases t;exact⟨u,r,.inr ⟨.inl hk,c,hc,K⟩⟩
   ·rw[Ca (Dj C)]at t
    obtain⟨S,r',q⟩:=hl j y R g t e3;refine⟨S,r',?_⟩;rcases q with q|⟨k,P,e,z'⟩
    ·exact .inl q
    ·refine .inr ⟨k,P,e,z'.sameBut f ?_⟩
     rintro rfl;exact C (E9 hN g (I.ok.inj _ _ _ e hc▸hi))
  ·by_cases J:P=c
   ·subst J;exact⟨_,K⟩
   ·obtain⟨w2,z2⟩:=I.cell y P e
    exact⟨w2,z2.sameBut f J⟩
  ·obtain⟨e,n,O,U,d⟩:=I.pin p W
   refine⟨(f.2 p.1 ?_).trans e,n,O,U,d⟩;intro q;rw[q,G]at e;have q':oc=p.2:=Bu e;exact d L (by rw[<-q'];exact i9)
def XN{M:Model}{A:Dh}{E:Se->Ah->Prop}{i:Nat}{x:Si}{v:V}{u:Se}{Q:Unit->Ah->Prop}(I:bP X aa σ H s)(c:X.N.Nodup)(hi:X.N[i]?=b0 x)(a:Loc X.env.scope x)(r:aW v u)(h:∀s',bP X aa (σ.set i (b0 v)) H s'->Q () s')(b:X.fn x=b5∨X.env.scope.names.lookup x=b0 .local:=by first|exact .inl rfl|exact .inr rfl|assumption):Sg M A (storeName X.env x u) Q E s:=
 JS I c hi a r (λs' d _=>h s' d) b
def bP.call'{s':Ah}{ch:List Sf}(I:bP X aa σ H s)(f:s'.os=s.os)(u:Un (frs X.stack) ch H H' s.heap s'.heap)(a:QU X.prog X.w H' s'.heap)(g:Lp s'.gens)(d:∀b∈ch,(b∈X.ex∨X.s₀.heap.objs.size<=b)/\b≠X.env.locals/\(∀x c,X.env.cells.lookup x=b0 c->c≠b)/\∀p∈X.pn++aa,p.1≠b):bP X aa σ H' s':=by obtain⟨h',g',d',t',o'⟩:=s';have e:o'=s.os:=f;subst e;exact I.call (g':=g') (t':=t') (d':=d') u a g d
end
abbrev XK:=Se->Option Sf->Hp->Prop
abbrev St:=List (Option V)
abbrev VK:=V->Hp->Prop
abbrev TE:=St->Hp->VK->Prop
abbrev TT:=St->Hp->(Bool->Hp->Prop)->Prop
abbrev TA:=St->Hp->(List V->Hp->Prop)->Prop
structure DV where
 nx:St->Hp->Prop
 rt:VK
 bk:St->Hp->Prop:=λ_ _=>False
 ct:St->Hp->Prop:=λ_ _=>False
abbrev TS:=DV->St->Hp->Prop
inductive EPi(X:Cx)(aa:List (Sf×Sr))(σ:St)(Q:VK)(u:Se)(s':Ah):Prop
 |mk (v:_) (H':_) (h0:bP X aa σ H' s') (h1:aW v u) (h2:Q v H'):EPi X aa σ Q u s'
def EP(X:Cx)(aa:List (Sf×Sr))(σ:St)(Q:VK)(u:Se)(s':Ah):Prop:=EPi X aa σ Q u s'
def TP(X:Cx)(aa:List (Sf×Sr))(σ:St)(Q:Bool->Hp->Prop)(b:Bool)(s':Ah):Prop:=∃H',bP X aa σ H' s'/\Q b H'
inductive APi(X:Cx)(aa:List (Sf×Sr))(σ:St)(Q:List V->Hp->Prop)(us:List Se)(s':Ah):Prop
 |mk (vs:_) (H':_) (h0:bP X aa σ H' s') (h1:a7 vs us) (h2:Q vs H'):APi X aa σ Q us s'
def AP(X:Cx)(aa:List (Sf×Sr))(σ:St)(Q:List V->Hp->Prop)(us:List Se)(s':Ah):Prop:=APi X aa σ Q us s'
def SP(X:Cx)(aa:List (Sf×Sr))(D:DV)(f:Flow)(s':Ah):Prop:=
 match f with
 |.next=>∃a H',bP X aa a H' s'/\D.nx a H'
 |.brk=>∃a H',bP X aa a H' s'/\D.bk a H'
 |.cont=>∃a H',bP X aa a H' s'/\D.ct a H'
 |.ret u=>∃v a H',bP X aa a H' s'/\aW v u/\D.rt v H'
def PE(X:Cx)(e:Sj)(t:TE):Prop:=
 ∀(aa:List (Sf×Sr)) (s:Ah) (σ:St) (H:Hp) (Q:VK),bP X aa σ H s->t σ H Q->Sg (Sk X.prog X.w) X.A (eval e X.env) (EP X aa σ Q) X.xe s
def PT(X:Cx)(e:Sj)(t:TT):Prop:=
 ∀(aa:List (Sf×Sr)) (s:Ah) (σ:St) (H:Hp) (Q:Bool->Hp->Prop),bP X aa σ H s->t σ H Q->Sg (Sk X.prog X.w) X.A (isTrue e X.env (eval e X.env)) (TP X aa σ Q) X.xe s
def PW(X:Cx)(e:Sj)(t:TT):Prop:=
 ∀(a:Sz Se) (aa:List (Sf×Sr)) (s:Ah) (σ:St) (H:Hp) (Q:Bool->Hp->Prop),bP X aa σ H s->t σ H Q->Sg (Sk X.prog X.w) X.A (isTrue e X.env a) (TP X aa σ Q) X.xe s
def PW.pt{X:Cx}{e:Sj}{t:TT}(h:PW X e t):PT X e t:=h _
def PA(X:Cx)(es:List Sj)(t:TA):Prop:=
 ∀(pos:Pos) (aa:List (Sf×Sr)) (s:Ah) (σ:St) (H:Hp) (Q:List V->Hp->Prop),bP X aa σ H s->t σ H Q->Sg (Sk X.prog X.w) X.A (spliced (Ex pos (Bb es X.env))) (AP X aa σ Q) X.xe s
def PS(X:Cx)(st:Su)(t:TS):Prop:=
 ∀(aa:List (Sf×Sr)) (s:Ah) (σ:St) (H:Hp) (D:DV),bP X aa σ H s->t D σ H->Sg (Sk X.prog X.w) X.A (exec st X.env) (SP X aa D) X.xe s
def NH(X:Cx)(st:List Su)(t:TS):Prop:=
 ∀(aa:List (Sf×Sr)) (s:Ah) (σ:St) (H:Hp) (D:DV),bP X aa σ H s->t D σ H->Sg (Sk X.prog X.w) X.A (execs st X.env) (SP X aa D) X.xe s
def Y7{α:Type}{t:Sz α}{Q b:α->Ah->Prop}{M:Model}{A:Dh}{E:Se->Ah->Prop}{s:Ah}(h:Sg M A t Q E s)(c:∀a s,Q a s->b a s):Sg M A t b E s:=Cu h c λ_ _ x=>x
section
variable{X:Cx}
def WF(i:Nat):TE:=λσ H Q=>∃v,σ[i]?=b0 (b0 v)/\Q v H
def tC(v:V):TE:=λ_ H Q=>Q v H
def DA{i:Nat}{x:Si}{pos:Pos}(k:X.N[i]?=b0 x)(f:Vis X.env.scope x)(hd:(x==("__debug__":Si))=ba:=by decide)(b:(x==("__classdict__":Si))=ba:=by decide):PE X (.Name x pos) (WF i):=by
 intro aa s σ H Q I h;obtain⟨v,e,h⟩:=h;obtain⟨m,g,hl⟩:=I.loc;obtain⟨u,r,l⟩:=hl i x v k e f;have a:EP X aa σ Q u s:=⟨v,H,I,r,h⟩;rcases l with⟨hk,j⟩|⟨hk,c,hc,d⟩
 ·exact Rc (wpAny_loadName_local I.ok.kind hk g j a) hd
 ·rcases hk with hk|hk
  ·exact Rc (wpAny_loadName_cell I.ok.kind hk hc d a) hd
  ·exact Rc (wpAny_loadName_free I.ok.kind hk hc d a b) hd
def WZ{i j pos}:PE X (.Constant (.int i) j pos) (tC (.int i)):=λ_ _ _ H _ I h=>wpAny_Constant_int ⟨.int i,H,I.tok _,⟨_,rfl⟩,h⟩
def eC{b j pos}:PE X (.Constant (.bool b) j pos) (tC (.bl b)):=λ_ _ _ H _ I h=>Constant_bool ⟨.bl b,H,I,rfl,h⟩
def jZ{j pos}:PE X (.Constant .none j pos) (tC .non):=λ_ _ _ H _ I h=>Constant_none ⟨.non,H,I,rfl,h⟩
def Yz{x j pos}:PE X (.Constant (.str x) j pos) (tC (.str x)):=λ_ _ _ H _ I h=>Calls.Constant_str ⟨.str x,H,I.tok _,⟨_,rfl⟩,h⟩
def Gl(X:Cx)(x:Si):Prop:=X.env.kindOf x=b0 .globalImplicit
def AT{E:Se->Ah->Prop}{aa:List (Sf×Sr)}{s:Ah}{σ:St}{H:Hp}{x:Si}{u:Se}{pos:Pos}{Q:Se->Ah->Prop}(I:bP X aa σ H s)(b:Gl X x)(a:X.mg x=b0 u)(h:Q u s)(hd:(x==("__debug__":Si))=ba:=by decide):Sg (Sk X.prog X.w) X.A (eval (.Name x pos) X.env) Q E s:=
 Jt I.ok.kind b (Calls.loadGlobal_global (by rw[I.ok.glob];exact I.mod.glob.keeps I.bk) a h) hd
def QF{E:Se->Ah->Prop}{aa:List (Sf×Sr)}{s:Ah}{σ:St}{H:Hp}{x:Si}{u:Se}{pos:Pos}{Q:Se->Ah->Prop}(I:bP X aa σ H s)(d:Gl X x)(c:X.mg x=b3)(a:Bj x=b0 u)(h:Q u s)(b:x≠ "__name__":=by decide)(hd:(x==("__debug__":Si))=ba:=by decide):Sg (Sk X.prog X.w) X.A (eval (.Name x pos) X.env) Q E s:=by obtain⟨e,h1,h2⟩:=I.mod.blt;exact Jt I.ok.kind d (Calls.loadGlobal_builtin (by rw[I.ok.glob];exact I.mod.glob.keeps I.bk) c (by rw[I.ok.blt];exact h1.keeps I.bk) ((h2 x b).trans a) h) hd
def mK{x:Si}{v:V}{u:Se}{pos:Pos}(b:Gl X x)(a:X.mg x=b0 u)(r:aW v u)(hd:(x==("__debug__":Si))=ba:=by decide):PE X (.Name x pos) (tC v):=
 λ_ _ _ H _ I h=>AT I b a ⟨v,H,I,r,h⟩ hd
def lJ{x:Si}{v:V}{u:Se}{pos:Pos}(d:Gl X x)(c:X.mg x=b3)(a:Bj x=b0 u)(r:aW v u)(b:x≠ "__name__":=by decide)(hd:(x==("__debug__":Si))=ba:=by decide):PE X (.Name x pos) (tC v):=
 λ_ _ _ H _ I h=>QF I d c a ⟨v,H,I,r,h⟩ b hd
variable{a b:Sj}{ta tb:TE}{pos:Pos}
def tB(t:TE):TT:=λσ H Q=>t σ H λx H1=>∃c,x=.bl c/\Q c H1
def kR{e:Sj}{t:TE}(h:PE X e t)(c:∀a,isTrue e X.env a=(do let v<-a;Px e.pos;Hv [v] (truthy v)):=by intro _;rfl):PT X e (tB t):=by intro aa s σ H Q I hw;refine isTrue_plain (Y7 (h aa s σ H _ I hw) λv s1 ⟨x,H1,f,b,q1⟩=>?_) (c _);obtain⟨d,rfl,q⟩:=q1;cases b;exact Fe ⟨H1,f,q⟩
variable{tA tB':TT}{rest:List Sj}
def tAnd(t u:TT):TT:=λσ H Q=>t σ H λc H1=>if c=b5 then u σ H1 Q else Q ba H1
def tOr(t u:TT):TT:=λσ H Q=>t σ H λc H1=>if c=b5 then Q b5 H1 else u σ H1 Q
def tNot(t:TT):TT:=λσ H Q=>t σ H λc H1=>Q (!c) H1
def jS(b:PT X a tA):PW X (.BoolOp .And [a] pos) tA:=by
 intro d aa s σ H Q I h;refine isTrue_and (Y7 (b aa s σ H Q I h) λc s1 e=>?_);cases c with
 |true=>exact isTrue_and_nil e
 |false=>exact e
def Zk(b:PT X a tA):PW X (.BoolOp .Or [a] pos) tA:=by
 intro d aa s σ H Q I h;refine isTrue_or (Y7 (b aa s σ H Q I h) λc s1 e=>?_);cases c with
 |false=>exact isTrue_or_nil e
 |true=>exact e
def hU(g:PT X a tA)(f:PW X (.BoolOp .And (b::rest) pos) tB'):PW X (.BoolOp .And (a::b::rest) pos) (tAnd tA tB'):=by
 intro e aa s σ H Q I h;refine isTrue_and (Y7 (g aa s σ H _ I h) λc s1 ⟨H1,d,q1⟩=>?_);cases c with
 |true=>exact f e aa s1 σ H1 Q d q1
 |false=>exact⟨H1,d,q1⟩
def Yg(g:PT X a tA)(f:PW X (.BoolOp .Or (b::rest) pos) tB'):PW X (.BoolOp .Or (a::b::rest) pos) (tOr tA tB'):=by
 intro e aa s σ H Q I h;refine isTrue_or (Y7 (g aa s σ H _ I h) λc s1 ⟨H1,d,q1⟩=>?_);cases c with
 |true=>exact⟨H1,d,q1⟩
 |false=>exact f e aa s1 σ H1 Q d q1
def mI(b:PT X a tA):PT X (.UnaryOp .Not a pos) (tNot tA):=by intro aa s σ H Q I h;exact isTrue_not (b aa s σ H (λc H1=>Q (!c) H1) I h)
def kg(ta tb:TE):TE:=λσ H Q=>ta σ H λx H1=>∃c,x=.bl c/\if c=b5 then tb σ H1 Q else Q (.bl ba) H1
def iC{op}{t:TE}(h:PE X a t):PE X (.BoolOp op [a] pos) t:=λaa s σ H Q I hw=>BoolOp_one (h aa s σ H Q I hw)
def iN(g:PE X a ta)(f:PE X (.BoolOp .And (b::rest) pos) tb):PE X (.BoolOp .And (a::b::rest) pos) (kg ta tb):=by
 intro aa s σ H Q I h;refine BoolOp_and (Y7 (g aa s σ H _ I h) λv s1 ⟨x,H1,d,e,q1⟩=>?_);obtain⟨c,rfl,q1⟩:=q1;cases e;refine Fe ?_;cases c with
 |true=>exact f aa s1 σ H1 Q d q1
 |false=>exact⟨.bl ba,H1,d,rfl,q1⟩
def tIf(t:TT)(ta tb:TE):TE:=λσ H Q=>t σ H λc H1=>if c=b5 then ta σ H1 Q else tb σ H1 Q
def kD{c:Sj}(hc:PT X c tA)(g:PE X a ta)(f:PE X b tb):PE X (.IfExp c a b pos) (tIf tA ta tb):=by
 intro aa s σ H Q I h;refine wpAny_IfExp (Y7 (hc aa s σ H _ I h) λd s1 ⟨H1,e,q1⟩=>?_);cases d with
 |true=>exact g aa s1 σ H1 Q e q1
 |false=>exact f aa s1 σ H1 Q e q1
end
def W7(K:Ao)(H:Hp)(a:Sf)(xs:List V):Prop:=
 Rd H a (.lst xs)∨
  ∃(o:Sr) (its:Array Se) (n:Nat),K.lookup a=b0 o/\o.cls=.type "list" /\o.dict=b3/\o.data=.seq its n/\its.size<=sizeLine/\a7 xs its.toList
def UV(K:Ao)(H:Hp)(a:Sf)(xs:List V):Prop:=
 Rd H a (.tup xs)∨
  ∃(o:Sr) (its:Array Se) (n:Nat),K.lookup a=b0 o/\o.cls=.type "tuple" /\o.data=.seq its n/\its.size<=sizeLine/\a7 xs its.toList
noncomputable def absV:Se->Option V
 |.none=>b0 .non
 |.bool b=>b0 (.bl b)
 |.int i _=>b0 (.int i)
 |.str x _=>b0 (.str x)
 |.bytes b _=>b0 (.byt b)
 |.float b _=>b0 (.flt b)
 |.ref a=>b0 (.ref a)
 |.type n=>b0 (.ty n)
 |_=>b3
def aW.abs{x:V}{u:Se}(r:aW x u):absV u=b0 x:=by
 cases x with
 |non=>cases r;rfl
 |bl _=>cases r;rfl
 |int _=>obtain⟨t,rfl⟩:=r;rfl
 |str _=>obtain⟨t,rfl⟩:=r;rfl
 |byt _=>obtain⟨t,rfl⟩:=r;rfl
 |flt _=>obtain⟨t,rfl⟩:=r;rfl
 |ref _=>cases r;rfl
 |ty _=>cases r;rfl
def aW.inj{x y:V}{u:Se}(r:aW x u)(q:aW y u):x=y:=Bu (r.abs.symm.trans q.abs)
theorem a7.inj:∀{xs ys:List V}{us:List Se},a7 xs us->a7 ys us->xs=ys
 |_,_,_,.nil,.nil=>rfl
 |_,_,_,.cons r t,.cons r' t'=>by rw[r.inj r',a7.inj t t']
section
variable{X:Cx}{aa:List (Sf×Sr)}{σ:St}{H:Hp}{s:Ah}{a:Sf}{xs ys:List V}
def W7.of{K:Ao}(h:H a=b0 (.lst xs)):W7 K H a xs:=.inl (.inl (.inl h))
def UV.of{K:Ao}(h:H a=b0 (.tup xs)):UV K H a xs:=.inl (.inl (.inl h))
def bP.list(I:bP X aa σ H s)(h:W7 X.K H a xs):∃its:List Se,a7 xs its/\PlainL s.heap a its.toArray/\xs.length<=sizeLine:=by
 rcases h with h|⟨o,its,n,hk,hc,hd,b,hz,r⟩
 ·obtain⟨z,its,n,r,e⟩:=h.ok I.hok
  exact⟨its,r,⟨_,n,e,rfl,rfl,rfl⟩,z⟩
 ·refine ⟨its.toList,r,⟨o,n,I.kIn a o hk,hc,hd,by simpa using b⟩,?_⟩
  have e:=r.length;simp only[Ha]at e;lia
def bP.tuple(I:bP X aa σ H s)(h:UV X.K H a xs):∃its:List Se,a7 xs its/\IsTup s.heap a its.toArray/\xs.length<=sizeLine:=by
 rcases h with h|⟨o,its,n,hk,hc,b,hz,r⟩
 ·obtain⟨z,its,r,p⟩:=h.ok I.hok
  exact⟨its,r,p,z⟩
 ·refine ⟨its.toList,r,⟨o,I.kIn a o hk,hc,n,by simpa using b⟩,?_⟩
  have e:=r.length;simp only[Ha]at e;lia
def bP.list_inj(I:bP X aa σ H s)(h:W7 X.K H a xs)(h':W7 X.K H a ys):xs=ys:=by
 obtain⟨its,r,⟨o,n,e,_,_,d⟩,_⟩:=I.list h;obtain⟨its',r',⟨o',n',b,_,_,d'⟩,_⟩:=I.list h';rw[e]at b;cases b;rw[d]at d';injection d' with c _;have:its=its':=by simpa using congrArg Rq c
 subst this;exact r.inj r'
def bP.tuple_inj(I:bP X aa σ H s)(h:UV X.K H a xs)(h':UV X.K H a ys):xs=ys:=by
 obtain⟨its,r,⟨o,e,_,n,d⟩,_⟩:=I.tuple h;obtain⟨its',r',⟨o',b,_,n',d'⟩,_⟩:=I.tuple h';rw[e]at b;cases b;rw[d]at d';injection d' with c _;have:its=its':=by simpa using congrArg Rq c
 subst this;exact r.inj r'
end
abbrev Cx.wish(X:Cx)(E:Se->Ah->Prop):Cx:={X with xe:=E}
abbrev Cx.nox(X:Cx):Cx:=X.wish λ_ _=>False
def Cx.Ok.wish{X:Cx}(ok:X.Ok)(E:Se->Ah->Prop):(X.wish E).Ok:=
 ⟨ok.mod,ok.kind,ok.glob,ok.blt,ok.above,ok.inj,ok.has,ok.cab,ok.hd,ok.frames,ok.stk,ok.exf,ok.bs,ok.bsz,ok.noex,ok.exfs,ok.funs,ok.frf⟩
def Cx.Ok.unwish{X:Cx}{E:Se->Ah->Prop}(ok:(X.wish E).Ok):X.Ok:=
 ⟨ok.mod,ok.kind,ok.glob,ok.blt,ok.above,ok.inj,ok.has,ok.cab,ok.hd,ok.frames,ok.stk,ok.exf,ok.bs,ok.bsz,ok.noex,ok.exfs,ok.funs,ok.frf⟩
section
variable{X:Cx}{aa:List (Sf×Sr)}{σ:St}{H:Hp}{s:Ah}{E:Se->Ah->Prop}
def bP.wish(I:bP X aa σ H s)(E:Se->Ah->Prop):bP (X.wish E) aa σ H s:=⟨I.ok.wish E,I.os,I.bare,I.base,I.loc,I.cell,I.free,I.freeC,I.pin,I.hok,I.len⟩
def bP.unwish(I:bP (X.wish E) aa σ H s):bP X aa σ H s:=⟨I.ok.unwish,I.os,I.bare,I.base,I.loc,I.cell,I.free,I.freeC,I.pin,I.hok,I.len⟩
def SP.unwish{D:DV}{f:Flow}{s':Ah}(h:SP (X.wish E) aa D f s'):SP X aa D f s':=by
 cases f with
 |next=>obtain⟨a,H',I,q⟩:=h;exact⟨a,H',I.unwish,q⟩
 |brk=>obtain⟨a,H',I,q⟩:=h;exact⟨a,H',I.unwish,q⟩
 |cont=>obtain⟨a,H',I,q⟩:=h;exact⟨a,H',I.unwish,q⟩
 |ret u=>obtain⟨v,a,H',I,r,q⟩:=h;exact⟨v,a,H',I.unwish,r,q⟩
def NH.nox{st:List Su}{t:TS}(h:NH X.nox st t):NH X st t:=λaa s σ H D I hw=>
 Cu (h aa s σ H D (I.wish _) hw) (λ_ _ q=>q.unwish) λ_ _ z=>Go z
end
section
variable{X:Cx}{st:Su}{rest:List Su}{t u:TS}{e:Sj}{te:TE}{pos:Pos}
def gO:TS:=λD σ H=>D.nx σ H
def tSeq(t u:TS):TS:=λD σ H=>t {D with nx:=u D} σ H
def BA:NH X [] gO:=λ_ _ σ H _ I h=>Lq ⟨σ,H,I,h⟩
def FJ(h1:PS X st t)(h2:NH X rest u):NH X (st::rest) (tSeq t u):=by
 intro aa s σ H D I h;refine wpAny_execs_cons (Y7 (h1 aa s σ H {D with nx:=u D} I h) λf s1 q=>?_);cases f with
 |next=>
  obtain⟨a,H',b,q⟩:=q;exact h2 aa s1 a H' D b q
 |ret v=>exact q
 |brk=>exact q
 |cont=>exact q
def bP.quiet{aa:List (Sf×Sr)}{σ:St}{H:Hp}{s:Ah}(I:bP X aa σ H s):interactive X.env=ba:=by simp[interactive,I.ok.kind]
def dG(te:TE):TS:=λD σ H=>te σ H λ_ H1=>D.nx σ H1
def HM(b:PE X e te)(a:Gv e b3 pos.line X.env=pure ba:=by rfl):PS X (.Expr e pos) (dG te):=by intro aa s σ H D I h;exact wpAny_Expr_any (Y7 (b aa s σ H _ I h) λv s1 ⟨x,H1,c,d,q1⟩=>⟨σ,H1,c,q1⟩) I.quiet a
def tRet(te:TE):TS:=λD σ H=>te σ H D.rt
def Tz(b:PE X e te):PS X (.Return (b0 e) pos) (tRet te):=by intro aa s σ H D I h;exact wpAny_Return_some (Y7 (b aa s σ H _ I h) λv s1 ⟨x,H1,c,a,q1⟩=>⟨x,σ,H1,c,a,q1⟩)
def tIfS(c:TT)(t u:TS):TS:=λD σ H=>c σ H λb H1=>if b=b5 then t D σ H1 else u D σ H1
def dD{c:Sj}{a b:List Su}{tc:TT}(hc:PT X c tc)(g:NH X a t)(f:NH X b u):PS X (.If c a b pos) (tIfS tc t u):=by
 intro aa s σ H D I h;refine wpAny_If (Y7 (hc aa s σ H _ I h) λd s1 ⟨H1,e,q1⟩=>?_);cases d with
 |true=>exact g aa s1 σ H1 D e q1
 |false=>exact f aa s1 σ H1 D e q1
end
abbrev TG:=V->St->Hp->(St->Hp->Prop)->Prop
abbrev TGs:=List V->St->Hp->(St->Hp->Prop)->Prop
def PG(X:Cx)(b:Sj)(t:TG):Prop:=
 ∀(aa:List (Sf×Sr)) (s:Ah) (σ:St) (H:Hp) (v:V) (u:Se) (Q:St->Hp->Prop),bP X aa σ H s->aW v u->t v σ H Q->
  Sg (Sk X.prog X.w) X.A (assign b X.env u) (λ_ s'=>∃a H',bP X aa a H' s'/\Q a H') X.xe s
def PGs(X:Cx)(b:List Sj)(t:TGs):Prop:=
 ∀(aa:List (Sf×Sr)) (s:Ah) (σ:St) (H:Hp) (vs:List V) (us:List Se) (Q:St->Hp->Prop),bP X aa σ H s->a7 vs us->t vs σ H Q->
  Sg (Sk X.prog X.w) X.A (Sy ((Sh b X.env).map (·.2)) us) (λ_ s'=>∃a H',bP X aa a H' s'/\Q a H') X.xe s
abbrev TSet:=V->V->V->Hp->(Hp->Prop)->Prop
def PSet(X:Cx)(t:TSet):Prop:=
 ∀(aa:List (Sf×Sr)) (s:Ah) (σ:St) (H:Hp) (o i v:V) (a b u:Se) (Q:Hp->Prop),bP X aa σ H s->aW o a->aW i b->aW v u->t o i v H Q->
  Sg (Sk X.prog X.w) X.A (Mt a b u) (λ_ s'=>∃H',bP X aa σ H' s'/\Q H') X.xe s
section
variable{X:Cx}{pos:Pos}
def AH(i:Nat):TG:=λv σ H Q=>Q (σ.set i (b0 v)) H
def O7{i:Nat}{x:Si}(c:X.N.Nodup)(hi:X.N[i]?=b0 x)(a:Loc X.env.scope x)(b:X.fn x=b5∨X.env.scope.names.lookup x=b0 .local:=by first|exact .inl rfl|exact .inr rfl|assumption):PG X (.Name x pos) (AH i):=by intro aa s σ H v u Q I r h;exact Hw (XN I c hi a r (λs' d=>⟨_,H,d,h⟩) b)
def gNil:TGs:=λvs σ H Q=>vs=[]/\Q σ H
def cY(t:TG)(u:TGs):TGs:=λvs σ H Q=>∃v r,vs=v::r/\t v σ H λa H'=>u r a H' Q
def HK:PGs X [] gNil:=by intro aa s σ H vs us Q I r h;obtain⟨e,h⟩:=h;subst e;cases r;exact Hx ⟨σ,H,I,h⟩
def UN{e:Sj}{es:List Sj}{t:TG}{u:TGs}(h1:PG X e t)(h2:PGs X es u)(c:(Sh (e::es) X.env).map (·.2)=assign e X.env::(Sh es X.env).map (·.2):=by rfl):PGs X (e::es) (cY t u):=by
 intro aa s σ H vs us Q I r h;obtain⟨v,g,d,h⟩:=h;subst d;cases r with
 |cons r b=>
  rw[c];refine Ef (Y7 (h1 aa s σ H _ _ _ I r h) λ_ s1 ⟨a,H1,f,q1⟩=>?_);exact h2 aa s1 a H1 _ _ Q f b q1
def gTup(K:Ao)(n:Nat)(t:TGs):TG:=λv σ H Q=>∃a xs,v=.ref a/\UV K H a xs/\xs.length=n/\t xs σ H Q
def Wa{es:List Sj}{k:Nat}{t:TGs}{n:Nat}(hc:X.calm=b5)(h:PGs X es t)(j:(Sh es X.env).length=n:=by rfl)(c:(Sh es X.env).findIdx? (·.1)=b3:=by rfl):PG X (.Tuple es k pos) (gTup X.K n t):=by intro aa s σ H v u Q I r hw;obtain⟨a,xs,l,i,hl,hw⟩:=hw;subst l;cases r;obtain⟨its,d,g,hz⟩:=I.tuple i;refine assign_Tuple_tuple (I.ok.hd hc) g (by simp[j,<-hl,d.length]) c λh' f=>?_;have m:bP X aa σ H {s with heap:=h'}:=I.kept (t':=s.toks) λb o e=>f b o (Bn (Av e)) e;exact h aa _ σ H xs _ Q m (by simpa using d) hw
def gSub(to a:TE)(t:TSet):TG:=λv σ H Q=>to σ H λo H1=>a σ H1 λi H2=>t o i v H2 λb=>Q σ b
def DB{o i:Sj}{to c:TE}{t:TSet}(j:PE X o to)(hi:PE X i c)(g:PSet X t)(k:∀v,assign (.Subscript o i pos) X.env v=(do
   let a<-Hv [v] (eval o X.env)
   let b<-Hv [v,a] (eval i X.env)
   Px pos
   Hv [v,a,b] (Mt a b v)
   release [v,a,b] []):=by intro _;rfl):PG X (.Subscript o i pos) (gSub to c t):=by
 intro aa s σ H v u Q I r h;rw[k];refine Ac (Bv (Y7 (j aa s σ H _ I h) λa s1 ⟨x,H1,n,f,q1⟩=>?_));refine Ac (Bv (Y7 (hi aa s1 σ H1 _ n q1) λb d ⟨y,H2,m,e,q2⟩=>?_));refine Ac (Fy (Ac (Bv (Y7 (g aa d σ H2 x y v a b u _ m f e r q2) λ_ q ⟨p,l,q3⟩=>?_))));exact wpAny_release ⟨σ,p,l,q3⟩
def tAsg(te:TE)(g:TG):TS:=λD σ H=>te σ H λx H1=>g x σ H1 D.nx
def QL{tg e:Sj}{te:TE}{g:TG}(d:PE X e te)(c:PG X tg g)(b:Eg [tg] e pos.line X.env=pure ba:=by rfl)(hw:Eh [tg] e X.env=pure b3:=by rfl)(h1:(Sh [tg] X.env).map (·.2)=[assign tg X.env]:=by rfl):PS X (.Assign [tg] e pos) (tAsg te g):=by intro aa s σ H D I h;refine wpAny_Assign_stores (Y7 (d aa s σ H _ I h) λv s1 ⟨x,H1,f,a,q1⟩=>?_) b hw;rw[h1];exact Y7 (c aa s1 σ H1 x v _ f a q1) λ_ i q=>q
def mD{i:Nat}{x:Si}{e:Sj}{te:TE}{af:Pos}(g:X.N.Nodup)(hi:X.N[i]?=b0 x)(b:Loc X.env.scope x)(f:PE X e te)(c:Gv e (b0 (.Name x af)) pos.line X.env=pure ba:=by rfl)(d:X.fn x=b5∨X.env.scope.names.lookup x=b0 .local:=by first|exact .inl rfl|exact .inr rfl|assumption):PS X (.Assign [.Name x af] e pos) (tAsg te (AH i)):=by intro aa s σ H D I h;refine wpAny_Assign_Name (Y7 (f aa s σ H _ I h) λv s1 ⟨y,H1,k,a,q1⟩=>?_) c;exact XN k g hi b a (λl j=>⟨_,H1,j,q1⟩) d
def tPar(i j:Nat)(ta:TA):TS:=λD σ H=>ta σ H λvs H1=>∃v w,vs=[v,w]/\D.nx ((σ.set i (b0 v)).set j (b0 w)) H1
def gV{i j:Nat}{x y:Si}{a b:Sj}{ta:TA}{k g pt:Pos}{kt k2 pt2}(hc:X.calm=b5)(t:X.N.Nodup)(hi:X.N[i]?=b0 x)(F:X.N[j]?=b0 y)(m:i≠j)(r:X.env.scope.names.lookup x=b0 .local)(n:X.env.scope.names.lookup y=b0 .local)(G:PA X [a,b] ta)(hw:Eh [.Tuple [.Name x k,.Name y g] kt pt] (.Tuple [a,b] k2 pt2) X.env=pure (b0 [x,y]))(E:Eg [.Tuple [.Name x k,.Name y g] kt pt] (.Tuple [a,b] k2 pt2) pos.line X.env=pure ba:=by rfl):PS X (.Assign [.Tuple [.Name x k,.Name y g] kt pt] (.Tuple [a,b] k2 pt2) pos) (tPar i j ta):=by
 intro aa s σ H D I h;rw[exec_Assign_arm];refine Ac (Fy ?_);rw[E];refine Ac (As ?_);rw[if_neg (by decide)];refine Ac (Tuple_ (Y7 (G _ aa s σ H _ I h) λus s1 ⟨vs,H1,O,B,q1⟩=>?_));obtain⟨v,w,J,q1⟩:=q1;subst J;obtain⟨d,c,rfl,z,f⟩:∃d c,us=[d,c]/\aW v d/\aW w c:=by
  cases B with
  |cons p q=>
   cases q with
   |cons p' C=>
    cases C;exact⟨_,_,rfl,p,p'⟩
 refine Ds ?_ (by show 2<=sizeLine;decide);have M:bP X aa σ H1 {s1 with heap:=s1.heap.push {cls:=.type "tuple",data:=.seq [d,c].toArray}}:=O.kept (t':=s1.toks) λb o e=>Ad _ e;rw[hw];refine Ac (As ?_);show Sg (Sk X.prog X.w) X.A (do rule "assign.swapped-stores";let items<-Jj (.ref s1.heap.objs.size) 2 b3;Sy [λv=>Iy X.env y v,λv=>Iy X.env x v] items.reverse;pure Flow.next) _ _ _;refine Ac (Hy (Ac (Oa (items:= #[d,c]) (I.ok.hd hc) (Kh s1.heap _) λh' l=>?_)));have L:=M.kept (h':=h') (t':=s1.toks) λb o e=>l b o (Bn (Av e)) e;show Sg _ _ (Sy [λv=>Iy X.env y v,λv=>Iy X.env x v] [c,d]>>=λ_=>pure Flow.next) _ _ _;refine Ac (Ef (Ik (XN L t F (.inl n) f (λQ K=>?_) (.inr n))));refine Ef (Ik (XN K t hi (.inl r) z (λP u=>Hx (As ?_)) (.inr r)));rw[Es _ _ (Dj m)]at u;exact⟨_,H1,u,q1⟩
end
section
variable{X:Cx}{pos:Pos}
def fX(c:TT)(tb:TS):TS:=λD σ H=>∃W:Nat->St->Hp->Prop,(∃m,W m σ H)/\∀m σ H,W m σ H->
 c σ H λb H1=>if b=b5 then∃N:St->Hp->Prop,(∀a H',N a H'->∃d,d<m/\W d a H')/\tb {D with nx:=N,ct:=N,bk:=D.nx} σ H1 else D.nx σ H1
def gF{c:Sj}{body:List Su}{tc:TT}{tb:TS}(o:Py (Sk X.prog X.w) X.A X.env X.xe)(hc:PT X c tc)(x:NH X body tb):PS X (.While c body [] pos) (fX tc tb):=by
 intro aa s σ H D I h;obtain⟨W,⟨m0,t⟩,turn⟩:=h;refine wpAny_While (codeAny_whileLoop (λn s'=>∃e H',bP X aa e H' s'/\W n e H') ?_ m0 ⟨σ,H,I,t⟩);rintro n s1 ⟨d,H1,y,r⟩;refine Fp o (Y7 (hc aa s1 d H1 _ y (turn n d H1 r)) λb u ⟨H2,q,q2⟩=>?_);cases b with
 |true=>
  obtain⟨N,p,q2⟩:=q2;rw[if_pos rfl];refine Fp o (Y7 (x aa u d H2 _ q q2) λf z q3=>?_);cases f with
  |next=>
   obtain⟨a,g,m,j⟩:=q3;obtain⟨k,l,i⟩:=p a g j;exact⟨k,l,a,g,m,i⟩
  |cont=>
   obtain⟨a,g,m,j⟩:=q3;obtain⟨k,l,i⟩:=p a g j;exact⟨k,l,a,g,m,i⟩
  |brk=>exact q3
  |ret v=>exact q3
 |false=>
  rw[if_neg Ei];exact Lq ⟨d,H2,q,q2⟩
end
structure It where
 go:Nat->Hp->Prop
 yld:Nat->Hp->V->Hp->Prop
 stop:Nat->Hp->Prop
def J5(X:Cx)(aa:List (Sf×Sr))(H:Hp)(b:Sf):Prop:=
 H b=b3/\b≠X.env.locals/\b∉X.fs/\(b∈X.ex∨X.s₀.heap.objs.size<=b)/\(∀x c,X.env.cells.lookup x=b0 c->c≠b)/\∀p∈X.pn++aa,p.1≠b
def bP.fpOk{X:Cx}{aa:List (Sf×Sr)}{σ:St}{H H':Hp}{s:Ah}{b:Sf}(I:bP X aa σ H s)(a:s.heap.objs.size<=b)(f:H' b=b3):J5 X aa H' b:=by
 refine⟨f,Hc (Bi I.lt a),I.nofs a,.inr (Fc I.sz a),λx c e z=>?_,λp d z=>?_⟩
 ·obtain⟨v,q⟩:=I.cell x c e
  exact absurd (Bi q.lt (by rw[z];exact a)) (Cp _)
 ·exact absurd (Bi (Av (I.pin p d).1) (by rw[z];exact a)) (Cp _)
structure CB(P:Bh)(w:Sm)(K:Ao)(tg:Sj)(J:It)(fp:List Sf)(it:Sf)(tn:Nat->Sq->Prop):Prop where
 mem:it∈fp
 obj:∀i h,tn i h->∀b∈fp,∃o,h.get? b=b0 o/\∀v,o.data≠ .cell v
 keep:∀i h h',tn i h->(∀b∈fp,∀o,h.get? b=b0 o->h'.get? b=b0 o)->tn i h'
 item:∀(X:Cx),X.prog=P->X.w=w->X.K=K->X.calm=b5->∀(i:Nat) (aa:List (Sf×Sr)) (s:Ah) (σ:St) (H:Hp) (E:Se->Ah->Prop),bP X aa σ H s->(∀b∈fp,J5 X aa H b)->tn i s.heap->J.go i H->
  Sg (Sk P w) X.A (pyNext (.ref it)) (λr s1=>∃u,r=b0 u∧
   Sg (Sk P w) X.A (Jk tg (.ref it) u) (λ_ s2=>∃x H',bP X aa σ H' s2/\aW x u/\J.yld i H x H'/\tn (i+1) s2.heap/\∀b∈fp,H' b=b3) E s1) E s
 done:∀(X:Cx),X.prog=P->X.w=w->X.K=K->X.calm=b5->∀(i:Nat) (aa:List (Sf×Sr)) (s:Ah) (σ:St) (H:Hp) (E:Se->Ah->Prop),bP X aa σ H s->(∀b∈fp,J5 X aa H b)->tn i s.heap->J.stop i H->
  Sg (Sk P w) X.A (pyNext (.ref it)) (λr s1=>r=b3/\bP X aa σ H s1) E s
 self:∀(A:Dh) (i:Nat) (s:Ah) (Q:Se->Ah->Prop) (E:Se->Ah->Prop),tn i s.heap->Q (.ref it) s->Sg (Sk P w) A (pyIter (.ref it)) Q E s
abbrev TI:=St->Hp->(It->Hp->Prop)->Prop
def PIE(X:Cx)(aa:List (Sf×Sr))(σ:St)(tg:Sj)(R:It->Hp->Prop)(a:Se)(d:Ah):Prop:=
 ∃(it:Sf) (fp:List Sf) (c:Nat->Sq->Prop) (J:It) (H':Hp),a=.ref it/\bP X aa σ H' d/\CB X.prog X.w X.K tg J fp it c/\c 0 d.heap/\(∀b∈fp,J5 X aa H' b)/\R J H'
def PI(X:Cx)(tg iter:Sj)(a:TI):Prop:=
 ∀(aa:List (Sf×Sr)) (s:Ah) (σ:St) (H:Hp) (R:It->Hp->Prop),bP X aa σ H s->a σ H R->
  Sg (Sk X.prog X.w) X.A (eval iter X.env) (λv s1=>Sg (Sk X.prog X.w) X.A (pyIter v) (PIE X aa σ tg R) X.xe s1) X.xe s
def Tp{M:Model}{A:Dh}{E:Se->Ah->Prop}{s:Ah}{tg:Sj}{it:Sf}{u:Se}{o:Sr}{n:String}{vs:Array Se}{Q:Unit->Ah->Prop}(b:s.heap.get? it=b0 o)(hc:o.cls= .type n)(hd:o.data= .fields vs)(c:["enumerate","zip","dict_itemiterator","dict_reverseitemiterator","odict_iterator","itertools.zip_longest","itertools.pairwise"].contains n=ba)(a:Q () s):Sg M A (Jk tg (.ref it) u) Q E s:=by
  unfold Jk;cases tg<;>first
    |exact As a
    |(cases u<;>first
        |exact As a
        | (refine Ac (wpAny_load b ?_)
           rw[hc,hd];show Sg M A (if(["enumerate","zip","dict_itemiterator","dict_reverseitemiterator","odict_iterator","itertools.zip_longest","itertools.pairwise"].contains n&&vs[0]? ==b0 (rawInt _))=b5 then _ else _) Q E s;rw[if_neg (by intro h;rw[c,Bool.false_and]at h;cases h)];exact As a))
def Itl(K:Ao)(a:Sf):It:=
 ⟨λi H=>∃xs x,W7 K H a xs/\xs[i]?=b0 x,λi H x H'=>H'=H/\∀xs,W7 K H a xs->xs[i]?=b0 x,λi H=>∃xs,W7 K H a xs/\xs.length<=i⟩
def Itt(K:Ao)(a:Sf):It:=
 ⟨λi H=>∃xs x,UV K H a xs/\xs[i]?=b0 x,λi H x H'=>H'=H/\∀xs,UV K H a xs->xs[i]?=b0 x,λi H=>∃xs,UV K H a xs/\xs.length<=i⟩
def Itr(lo:Int)(n:Nat):It:=⟨λi _=>i<n,λi H x H'=>H'=H/\x=.int (lo+i),λi _=>n<=i⟩
def j8{P:Bh}{w:Sm}{K:Ao}{tg:Sj}(a it:Sf):CB P w K tg (Itl K a) [it] it (λi h=>h.IsListIter it a i) where
 mem:=by simp
 obj:=λi h st b f=>by
  have e:b=it:=by simpa using f
  subst e;obtain⟨o,e,c,d⟩:=st;exact⟨o,e,λv z=>by rw[d]at z;cases z⟩
 keep:=λi h h' st k=>st.at λo e=>k it (by simp) o e
 item:=by intro X r hw t hc i aa s σ H E I l st q;subst r hw t;obtain⟨xs,x,j,n⟩:=q;obtain⟨its,m,p,hz⟩:=I.list j;obtain⟨u,G,D⟩:=m.get n;obtain⟨B,f1,f2,f3,A,y⟩:=l it (by simp);refine Lg st p.isList (x:=u) (by simpa using G) λh' g C=>?_;have L:bP X aa σ H {s with heap:=h'}:=I.turned (t':=s.toks) (λb o f e=>(C.2 b f).trans e) B f1 f3 A y;obtain⟨o,e,c,d⟩:=id g;exact⟨u,rfl,Tp (s:={s with heap:=h'}) e c d (by decide) ⟨x,H,L,D,⟨rfl,λys F=>by rw[I.list_inj F j];exact n⟩,g,λb f=>(l b f).1⟩⟩
 done:=by intro X r hw t hc i aa s σ H E I l st q;subst r hw t;obtain⟨xs,j,n⟩:=q;obtain⟨its,m,p,hz⟩:=I.list j;obtain⟨B,f1,f2,f3,A,y⟩:=l it (by simp);have hl:=m.length;exact Lr (I.ok.hd hc) st p.isList (by simp;lia) λh' J=>⟨rfl,I.turned (t':=s.toks) (λb o f e=>J b o f e) B f1 f3 A y⟩
 self:=λ_ _ _ _ _ st h=>wpAny_pyIter_listiter st h
def DO{P:Bh}{w:Sm}{K:Ao}{tg:Sj}(a it:Sf):CB P w K tg (Itt K a) [it] it (λi h=>h.IsTupleIter it a i) where
 mem:=by simp
 obj:=λi h st b f=>by
  have e:b=it:=by simpa using f
  subst e;obtain⟨o,e,c,d⟩:=st;exact⟨o,e,λv z=>by rw[d]at z;cases z⟩
 keep:=λi h h' st k=>st.at λo e=>k it (by simp) o e
 item:=by intro X r hw t hc i aa s σ H E I l st q;subst r hw t;obtain⟨xs,x,j,n⟩:=q;obtain⟨its,m,p,hz⟩:=I.tuple j;obtain⟨u,G,D⟩:=m.get n;obtain⟨B,f1,f2,f3,A,y⟩:=l it (by simp);refine wpAny_pyNext_tuple_item st (show s.heap.IsTuple a its.toArray from p) (x:=u) (by simpa using G) λh' g C=>?_;have L:bP X aa σ H {s with heap:=h'}:=I.turned (t':=s.toks) (λb o f e=>(C.2 b f).trans e) B f1 f3 A y;obtain⟨o,e,c,d⟩:=id g;exact⟨u,rfl,Tp (s:={s with heap:=h'}) e c d (by decide) ⟨x,H,L,D,⟨rfl,λys F=>by rw[I.tuple_inj F j];exact n⟩,g,λb f=>(l b f).1⟩⟩
 done:=by intro X r hw t hc i aa s σ H E I l st q;subst r hw t;obtain⟨xs,j,n⟩:=q;obtain⟨its,m,p,hz⟩:=I.tuple j;obtain⟨B,f1,f2,f3,A,y⟩:=l it (by simp);have hl:=m.length;exact wpAny_pyNext_tuple_end (I.ok.hd hc) st (show s.heap.IsTuple a its.toArray from p) (by simp;lia) λh' J=>⟨rfl,I.turned (t':=s.toks) (λb o f e=>J b o f e) B f1 f3 A y⟩
 self:=λ_ _ _ _ _ st h=>wpAny_pyIter_tupleiter st h
def DN{P:Bh}{w:Sm}{K:Ox}{tg:Sj}(it:Sf)(lo:Int)(n:Nat):CB P w K tg (Itr lo n) [it] it (λi h=>IsRangeIter h it (lo+(i:Nat)*1) ((n:Int)-(i:Nat)) 1) where
 mem:=by simp
 obj:=λi h st b a=>by
  have e:b=it:=by simpa using a
  subst e;exact⟨_,st,λv z=>by have q:Data.fields _=Data.cell v:=z;cases q⟩
 keep:=λi h h' st k=>k it (by simp) _ st
 item:=by intro X g hw j hc i aa s σ H E I d st f;subst g hw j;obtain⟨p,f1,f2,f3,m,l⟩:=d it (by simp);have W:=Walks.range (prog:=X.prog) (w:=X.w) (I.ok.hd hc) it lo 1 n;refine W.item i s _ _ f st λv h' tk u c r=>?_;obtain⟨t,rfl⟩:=u;have y:bP X aa σ H {s with heap:=h',toks:=tk}:=I.turned (λb o a e=>r b o (by simpa using a) e) p f1 f3 m l;refine⟨_,rfl,Tp (s:={s with heap:=h',toks:=tk}) (n:= "range_iterator") c rfl rfl (by decide) ⟨.int (lo+i),H,y,⟨t,?_⟩,⟨rfl,rfl⟩,c,λb a=>(d b a).1⟩⟩;rw[Int.mul_one]
 done:=by intro X g hw j hc i aa s σ H E I d st f;subst g hw j;obtain⟨p,f1,f2,f3,m,l⟩:=d it (by simp);exact wpAny_pyNext_range_end (I.ok.hd hc) st (by have:n<=i:=f;lia) λh' x=>⟨rfl,I.turned (t':=s.toks) (λb o a e=>x b o a e) p f1 f3 m l⟩
 self:=λ_ _ _ _ _ st h=>wpAny_pyIter_rangeiter st h
section
variable{X:Cx}{tg:Sj}
def Uc(K:Ao)(tl:TE):TI:=λσ H R=>tl σ H λx H1=>∃a,x=.ref a/\(∃xs,W7 K H1 a xs)/\R (Itl K a) H1
def iTup(K:Ao)(tl:TE):TI:=λσ H R=>tl σ H λx H1=>∃a,x=.ref a/\(∃xs,UV K H1 a xs)/\R (Itt K a) H1
def Zy{l:Sj}{tl:TE}(hl:PE X l tl):PI X tg l (Uc X.K tl):=by
 intro aa s σ H R I h;refine Y7 (hl aa s σ H _ I h) λv s1 ⟨x,H1,c,d,q1⟩=>?_;obtain⟨a,e,⟨xs,f⟩,q⟩:=q1;subst e;cases d;obtain⟨its,i,p,hz⟩:=c.list f;refine Gp p.isList ?_;refine⟨s1.heap.objs.size,[s1.heap.objs.size],_,_,H1,rfl,c.kept (t':=s1.toks) λb o e=>Ad _ e,j8 a _,⟨_,Ax _ rfl,rfl,rfl⟩,λb g=>?_,q⟩;have e:b=s1.heap.objs.size:=by simpa using g
 subst e;exact c.fpOk (Au _) (c.hok.fresh (Au _))
def m7{l:Sj}{tl:TE}(hl:PE X l tl):PI X tg l (iTup X.K tl):=by
 intro aa s σ H R I h;refine Y7 (hl aa s σ H _ I h) λv s1 ⟨x,H1,c,d,q1⟩=>?_;obtain⟨a,e,⟨xs,f⟩,q⟩:=q1;subst e;cases d;obtain⟨its,i,p,hz⟩:=c.tuple f;refine Hi (show s1.heap.IsTuple a its.toArray from p) ?_;refine⟨s1.heap.objs.size,[s1.heap.objs.size],_,_,H1,rfl,c.kept (t':=s1.toks) λb o e=>Ad _ e,DO a _,⟨_,Ax _ rfl,rfl,rfl⟩,λb g=>?_,q⟩;have e:b=s1.heap.objs.size:=by simpa using g
 subst e;exact c.fpOk (Au _) (c.hok.fresh (Au _))
def FL{aa:List (Sf×Sr)}{σ:St}{H:Hp}{s:Ah}{R:It->Hp->Prop}{E:Se->Ah->Prop}{lo hi:Int}{t u v:Tok}{tk:Nat}(I:bP X aa σ H s)(h1: -(2 ^ 62)<=lo)(h2:lo<2 ^ 62)(f: -(2 ^ 62)<=hi)(d:hi<2 ^ 62)(q:R (Itr lo (hi-lo).toNat) H):Sg (Sk X.prog X.w) X.A (pyIter (.ref s.heap.objs.size)) (PIE X aa σ tg R) E {s with heap:=s.heap.push {cls:=.type "range",data:=.fields #[.int lo t,.int hi u,.int 1 v]},toks:=tk}:=by
 refine wpAny_pyIter_range (Pz ..) (small_one h1 h2 f d) ?_;have a:bP X aa σ H {s with heap:=s.heap.push {cls:=.type "range",data:=.fields #[.int lo t,.int hi u,.int 1 v]},toks:=tk}:=I.kept λb o e=>Ad _ e;refine⟨(s.heap.push {cls:=.type "range",data:=.fields #[.int lo t,.int hi u,.int 1 v]}).objs.size,[(s.heap.push {cls:=.type "range",data:=.fields #[.int lo t,.int hi u,.int 1 v]}).objs.size],_,_,H,rfl,a.kept (t':=tk) λb o e=>Ad _ e,DN _ lo (hi-lo).toNat,?_,λb c=>?_,q⟩
 ·have h : lo + ((0 : Nat) : Int) * 1 = lo := by simp
  have g:(((hi-lo).toNat:Nat):Int)-((0:Nat):Int)=Ej lo hi 1:=by rw[rangeSize_one];split<;>lia
  show IsRangeIter _ _ (lo+((0:Nat):Int)*1) ((((hi-lo).toNat:Nat):Int)-((0:Nat):Int)) 1;rw[h,g];exact Ax _ rfl
 ·have e : b = (s.heap.push { cls := .type "range",data := .fields #[.int lo t,.int hi u,.int 1 v] }).objs.size := by simpa using c
  subst e;exact a.fpOk (Au _) (a.hok.fresh (Au _))
def kI(ta:TA):TI:=λσ H R=>ta σ H λvs H1=>∃j:Int,vs=[.int j]/\ -(2 ^ 62)<=j/\j<2 ^ 62/\R (Itr 0 j.toNat) H1
def kC(ta:TA):TI:=λσ H R=>ta σ H λvs H1=>∃i j:Int,vs=[.int i,.int j]/\(-(2 ^ 62)<=i/\i<2 ^ 62/\ -(2 ^ 62)<=j/\j<2 ^ 62)/\R (Itr i (j-i).toNat) H1
def kY{a:Sj}{ta:TA}{p pos:Pos}(g:Gl X "range")(f:X.mg "range"=b3)(i:PA X [a] ta)(d:Bb [a] X.env=[(ba,eval a X.env)]:=by rfl):PI X tg (.Call (.Name "range" p) [a] [] pos) (kI ta):=by
 intro aa s σ H R I h;refine Call_ (QF I g f boot_range (Ek (Y7 (i pos aa s σ H _ I h) λus s1 ⟨vs,H1,k,c,q1⟩=>?_) d rfl));obtain⟨j,e,q1,q2,q⟩:=q1;subst e;cases c with
 |cons r b=>
  cases b;obtain⟨t,rfl⟩:=r;exact call_range_1 (FL k (by lia) (by lia) q1 q2 (by simpa using q))
def ls{a b:Sj}{ta:TA}{p pos:Pos}(m:Gl X "range")(l:X.mg "range"=b3)(n:PA X [a,b] ta)(k:Bb [a,b] X.env=[(ba,eval a X.env),(ba,eval b X.env)]:=by rfl)(c:Bb [b] X.env=[(ba,eval b X.env)]:=by rfl):PI X tg (.Call (.Name "range" p) [a,b] [] pos) (kC ta):=by
 intro aa s σ H R I h;refine Call_ (QF I m l boot_range (Ek (Y7 (n pos aa s σ H _ I h) λus s1 ⟨vs,H1,o,f,q1⟩=>?_) (by rw[k,c]) (by rw[c];rfl)));obtain⟨i,j,e,⟨q1,q2,q3,g⟩,q⟩:=q1;subst e;cases f with
 |cons r d=>
  cases d with
  |cons r' d=>
   cases d;obtain⟨t,rfl⟩:=r;obtain⟨t',rfl⟩:=r';exact call_range_2 (FL o q1 q2 q3 g q)
def tFor(d:TI)(g:TG)(tb:TS):TS:=λD σ H=>d σ H λJ H1=>∃W:Nat->Nat->St->Hp->Prop,(∃m,W 0 m σ H1)/\∀i m σ H,W i m σ H->
 (J.stop i H/\D.nx σ H)∨(J.go i H/\∃N:St->Hp->Prop,(∀a H',N a H'->∃c,c<m/\W (i+1) c a H')/\∀x H',J.yld i H x H'->g x σ H' λb H2=>tb {D with nx:=N,ct:=N,bk:=D.nx} b H2)
def LJ(fp:List Sf)(h:Sq):List (Sf×Sr):=fp.filterMap λb=>(h.get? b).map λo=>(b,o)
def T7{fp:List Sf}{h:Sq}{b:Sf}{o:Sr}(a:b∈fp)(e:h.get? b=b0 o):(b,o)∈LJ fp h:=Nh.mpr ⟨b,a,by rw[e];rfl⟩
def Yd{fp:List Sf}{h:Sq}{p:Sf×Sr}(a:p∈LJ fp h):p.1∈fp/\h.get? p.1=b0 p.2:=by
 obtain⟨b,c,e⟩:=Nh.mp a;cases q:h.get? b with
 |none=>rw[q]at e;cases e
 |some o=>
  rw[q]at e;have d:(b,o)=p:=Bu e;subst d;exact⟨c,q⟩
def bP.pinned{aa:List (Sf×Sr)}{σ:St}{H:Hp}{s:Ah}{fp:List Sf}(I:bP X aa σ H s)(h:∀b∈fp,J5 X aa H b)(g:∀b∈fp,∃o,s.heap.get? b=b0 o/\∀v,o.data≠ .cell v):bP X (aa++LJ fp s.heap) σ H s:=
 I.pins_of λp f=>(Bo.mp f).elim (λz=>I.pin p (Br _ z)) λz=>by obtain⟨a,e⟩:=Yd z;obtain⟨i,f1,f2,_⟩:=h p.1 a;obtain⟨o,c,d⟩:=g p.1 a;rw[e]at c;cases c;exact⟨e,i,f1,f2,d⟩
def bP.unpinned{aa a:List (Sf×Sr)}{σ:St}{H:Hp}{s:Ah}(I:bP X (aa++a) σ H s):bP X aa σ H s:=I.pins_of λp b=>I.pin p (Br _ (Bz _ b))
def mh{iter:Sj}{body:List Su}{Q:TI}{g:TG}{tb:TS}{pos:Pos}(C:Py (Sk X.prog X.w) X.A X.env X.xe)(hc:X.calm=b5)(hi:PI X tg iter Q)(hg:PG X tg g)(k:NH X body tb)(hs:∀x,Ss iter X.env x=pure x:=by intro _;rfl):PS X (.For tg iter body [] pos) (tFor Q g tb):=by
 intro aa s σ H D I h;refine wpAny_For (Y7 (hi aa s σ H _ I h) λv s1 h1=>Y7 h1 λitv s2 h2=>?_) hs;obtain⟨it,fp,R,J,H2,e,I2,T,K,f2,W,⟨m0,w0⟩,turn⟩:=h2;subst e;have stat:∀{H':Hp},(∀b∈fp,H' b=b3)->∀b∈fp,J5 X aa H' b:=λhn b k=>⟨hn b k,(f2 b k).2⟩;refine codeAny_forLoop_any (λn s'=>∃i j H',bP X aa j H' s'/\R i s'.heap/\(∀b∈fp,H' b=b3)/\W i n j H') ?_ m0 ⟨0,σ,H2,I2,K,λb k=>(f2 b k).1,w0⟩;rintro n U ⟨i,c,F,V,z,E,w3⟩;rcases turn i n c F w3 with⟨y,qn⟩|⟨go,N,hN,step⟩
 ·refine Fp C (Y7 (T.done X rfl rfl rfl hc i aa U c F X.xe V (stat E) z y) λr s4 ⟨M,I4⟩ => ?_)
  subst M;exact Lq ⟨c,F,I4,qn⟩
 ·refine Fp C (Y7 (T.item X rfl rfl rfl hc i aa U c F X.xe V (stat E) z go) λr s4 ⟨u,M,h4⟩ => ?_)
  subst M;refine Fp C (Y7 h4 λ_ S ⟨x,Y,I5,r5,Z,t,O⟩=>?_);have P:=I5.pinned (stat O) (T.obj _ _ t);refine Fp C (Y7 (hg _ S c Y x u _ P r5 (step x Y Z)) λ_ s6 ⟨G,H6,I6,q6⟩=>?_);refine Fp C (Y7 (k _ s6 G H6 _ I6 q6) λf L q=>?_);have XE:∀{a:St}{p:Hp},bP X (aa++LJ fp S.heap) a p L->N a p->∃m,m<n/\∃i j H',bP X aa j H' L/\R i L.heap/\(∀b∈fp,H' b=b3)/\W i m j H':=λ{a p} l B=>by obtain⟨m',hm,w7⟩:=hN a p B;refine⟨m',hm,i+1,a,p,l.unpinned,T.keep _ _ _ t λb k o e=>(l.pin (b,o) (Br _ (Br _ (T7 k e)))).1,λb k=>?_,w7⟩;obtain⟨o,e,d⟩:=T.obj _ _ t b k;exact(l.pin (b,o) (Br _ (Br _ (T7 k e)))).2.1
  cases f with
  |next=>obtain⟨a,p,l,B⟩:=q;exact XE l B
  |cont=>obtain⟨a,p,l,B⟩:=q;exact XE l B
  |brk=>obtain⟨a,p,l,q⟩:=q;exact⟨a,p,l.unpinned,q⟩
  |ret v=>obtain⟨x7,a,p,l,r7,q⟩:=q;exact⟨x7,a,p,l.unpinned,r7,q⟩
end
abbrev R2:=V->V->Hp->VK->Prop
def VY(X:Cx)(f:Se->Se->Sz Se)(r:R2):Prop:=
 ∀(aa:List (Sf×Sr)) (s:Ah) (σ:St) (H:Hp) (x y:V) (v u:Se) (Q:VK),bP X aa σ H s->aW x v->aW y u->r x y H Q->
  Sg (Sk X.prog X.w) X.A (f v u) (EP X aa σ Q) X.xe s
def UnR(X:Cx)(f:Se->Sz Se)(r:V->Hp->VK->Prop):Prop:=
 ∀(aa:List (Sf×Sr)) (s:Ah) (σ:St) (H:Hp) (x:V) (v:Se) (Q:VK),bP X aa σ H s->aW x v->r x H Q->
  Sg (Sk X.prog X.w) X.A (f v) (EP X aa σ Q) X.xe s
def Z2(X:Cx)(f:Se)(r:List V->Hp->VK->Prop):Prop:=
 ∀(aa:List (Sf×Sr)) (s:Ah) (σ:St) (H:Hp) (xs:List V) (us:List Se) (Q:VK),bP X aa σ H s->a7 xs us->r xs H Q->
  Sg (Sk X.prog X.w) X.A (call f us) (EP X aa σ Q) X.xe s
def tOp(r:R2)(ta tb:TE):TE:=λσ H Q=>ta σ H λx H1=>tb σ H1 λy H2=>r x y H2 Q
def tUn(r:V->Hp->VK->Prop)(ta:TE):TE:=λσ H Q=>ta σ H λx H1=>r x H1 Q
def rI(C:Int->Int->Prop)(g:Int->Int->V):R2:=λx y H Q=>∃i j,x=.int i/\y=.int j/\C i j/\Q (g i j) H
def DE(g:Int->Int->V):R2:=λx y H Q=>∃i j,x=.int i/\y=.int j/\Q (g i j) H
def rU(g:Int->V):V->Hp->VK->Prop:=λx H Q=>∃i,x=.int i/\Q (g i) H
section
variable{X:Cx}{a b c:Sj}{ta tb tc:TE}{pos:Pos}
def binT(l:PE X a ta)(k:PE X b tb){aa:List (Sf×Sr)}{s:Ah}{σ:St}{H:Hp}{R:V->V->Hp->Prop}(I:bP X aa σ H s)(h:ta σ H λx H1=>tb σ H1 λy H2=>R x y H2){Q:Se->Ah->Prop}{f:Se->Se->Sz Se}(j:∀v u e x y H2,bP X aa σ H2 e->aW x v->aW y u->R x y H2->Sg (Sk X.prog X.w) X.A (f v u) Q X.xe e):Sg (Sk X.prog X.w) X.A (eval a X.env) (λv d=>Sg (Sk X.prog X.w) X.A (eval b X.env) (λu c=>Sg (Sk X.prog X.w) X.A (f v u) Q X.xe c) X.xe d) X.xe s:=by refine Y7 (l aa s σ H _ I h) λv s1 ⟨x,H1,n,i,q1⟩=>?_;refine Y7 (k aa s1 σ H1 _ n q1) λu e ⟨y,H2,m,g,q2⟩=>?_;exact j v u e x y H2 m i g q2
def Up{op:Operator}{r:R2}(f:VY X (Fn op) r)(i:PE X a ta)(g:PE X b tb):PE X (.BinOp a op b pos) (tOp r ta tb):=by intro aa s σ H Q I h;exact wpAny_BinOp (binT i g I h λv u c x y H2 j e d q=>f aa c σ H2 x y v u Q j e d q)
def eU{op:UnaryOp}{r:V->Hp->VK->Prop}(c:UnR X (unaryOp op) r)(d:PE X a ta):PE X (.UnaryOp op a pos) (tUn r ta):=by intro aa s σ H Q I h;exact UnaryOp_ (Y7 (d aa s σ H _ I h) λv s1 ⟨x,H1,e,b,q1⟩=>c aa s1 σ H1 x v Q e b q1)
def opI{f:Se->Se->Sz Se}{C:Int->Int->Prop}{g:Int->Int->Int}(rule:∀(i j:Int) (t u:Tok) (s:Ah) (Q:Se->Ah->Prop) (E:Se->Ah->Prop),C i j->Q (.int (g i j) s.toks) {s with toks:=s.toks+1}->Sg (Sk X.prog X.w) X.A (f (.int i t) (.int j u)) Q E s):VY X f (rI C λi j=>.int (g i j)):=by intro aa s σ H x y v u Q I b a h;obtain⟨i,j,rfl,rfl,hc,q⟩:=h;obtain⟨t,rfl⟩:=b;obtain⟨t',rfl⟩:=a;exact rule i j t t' s _ _ hc ⟨.int (g i j),H,I.tok _,⟨_,rfl⟩,q⟩
def opI0{f:Se->Se->Sz Se}{g:Int->Int->Int}(rule:∀(i j:Int) (t u:Tok) (s:Ah) (Q:Se->Ah->Prop) (E:Se->Ah->Prop),Q (.int (g i j) s.toks) {s with toks:=s.toks+1}->Sg (Sk X.prog X.w) X.A (f (.int i t) (.int j u)) Q E s):VY X f (DE λi j=>.int (g i j)):=by intro aa s σ H x y v u Q I b a h;obtain⟨i,j,rfl,rfl,q⟩:=h;obtain⟨t,rfl⟩:=b;obtain⟨t',rfl⟩:=a;exact rule i j t t' s _ _ ⟨.int (g i j),H,I.tok _,⟨_,rfl⟩,q⟩
def opB0{f:Se->Se->Sz Se}{g:Int->Int->Bool}(rule:∀(i j:Int) (t u:Tok) (s:Ah) (Q:Se->Ah->Prop) (E:Se->Ah->Prop),Q (.bool (g i j)) s->Sg (Sk X.prog X.w) X.A (f (.int i t) (.int j u)) Q E s):VY X f (DE λi j=>.bl (g i j)):=by intro aa s σ H x y v u Q I b a h;obtain⟨i,j,rfl,rfl,q⟩:=h;obtain⟨t,rfl⟩:=b;obtain⟨t',rfl⟩:=a;exact rule i j t t' s _ _ ⟨.bl (g i j),H,I,rfl,q⟩
def CDiv(i j:Int):Prop:=0<j/\j<1073741824
def CPow(i j:Int):Prop:=0<=j/\j<=1000000/\i.natAbs<2 ^ 64
def CMul(i j:Int):Prop:=(-(2 ^ 64)<i/\i<2 ^ 64)∨(-(2 ^ 64)<j/\j<2 ^ 64)
def CMul.ok{i j:Int}(h:CMul i j):IntMulOk i j:=by
 rcases h with⟨h1,h2⟩|⟨h1,h2⟩
 ·exact .of_left (intBits_le_64 h1 h2)
 ·exact .of_right (intBits_le_64 h1 h2)
def zK0:VY X (Fn .Add) (DE λi j=>.int (i+j)):=opI0 λ_ _ _ _ _ _ _ q=>add_int q
def XJ:VY X (Fn .Sub) (DE λi j=>.int (i-j)):=opI0 λ_ _ _ _ _ _ _ q=>sub_int q
def iV:VY X (Fn .Mult) (rI CMul λi j=>.int (i*j)):=opI λ_ _ _ _ _ _ _ hc q=>mul_int q hc.ok
def OY:VY X (Fn .FloorDiv) (rI CDiv λi j=>.int (i/j)):=opI λi j _ _ _ _ _ hc q=>by have h1:(0:Int)<j:=hc.1;have h2:j<1073741824:=hc.2;exact floordiv_int (by lia) (by rw[Int.fdiv_eq_ediv_of_nonneg i (by lia)];exact q) (.inl (Li (by lia)))
def VQ:VY X (Fn .Mod) (rI (λ_ j=>0<j) λi j=>.int (i % j)):=opI λi j _ _ _ _ _ hc q=>by have h1:(0:Int)<j:=hc;exact mod_int' (by lia) (by rw[Int.fmod_eq_emod_of_nonneg i (by lia)];exact q)
def lQ:VY X (Fn .Pow) (rI CPow λi j=>.int (i ^ j.toNat)):=opI λ_ _ _ _ _ _ _ hc q=>pow_int_small hc.1 hc.2.1 hc.2.2 q
def unI{f:Se->Sz Se}{g:Int->Int}(rule:∀(i:Int) (t:Tok) (s:Ah) (Q:Se->Ah->Prop) (E:Se->Ah->Prop),Q (.int (g i) s.toks) {s with toks:=s.toks+1}->Sg (Sk X.prog X.w) X.A (f (.int i t)) Q E s):UnR X f (rU λi=>.int (g i)):=by intro aa s σ H x v Q I a h;obtain⟨i,rfl,q⟩:=h;obtain⟨t,rfl⟩:=a;exact rule i t s _ _ ⟨.int (g i),H,I.tok _,⟨_,rfl⟩,q⟩
def lw:UnR X (unaryOp .USub) (rU λi=>.int (-i)):=unI λ_ _ _ _ _ q=>neg_int q
end
section
variable{X:Cx}{a b c:Sj}{ta tb tc:TE}{pos:Pos}
def G7{aa:List (Sf×Sr)}{σ:St}{H:Hp}{s:Ah}{Q:VK}{k k':Bool}(I:bP X aa σ H s)(q:Q (.bl k) H)(e:k=k'):EP X aa σ Q (.bool k') s:=by subst e;exact⟨.bl k,H,I,rfl,q⟩
def JJ:VY X (Di .Lt) (DE λi j=>.bl (decide (i<j))):=opB0 λ_ _ _ _ _ _ _ q=>lt_int q
def FE:VY X (Di .LtE) (DE λi j=>.bl (decide (i<=j))):=opB0 λ_ _ _ _ _ _ _ q=>le_int q
def LD:VY X (Di .Gt) (DE λi j=>.bl (decide (j<i))):=opB0 λ_ _ _ _ _ _ _ q=>gt_int q
def Tt:VY X (Di .GtE) (DE λi j=>.bl (decide (j<=i))):=opB0 λ_ _ _ _ _ _ _ q=>ge_int q
def LF:VY X (Di .Is) (λx y H Q=>y=.non/\Q (.bl (decide (x=.non))) H):=by
 intro aa s σ H x y v u Q I a b h;obtain⟨rfl,q⟩:=h;cases b;refine is_none_gen (G7 I q ?_);cases x<;>first
  |(cases a;rfl)
  |(obtain⟨t,rfl⟩:=a;rfl)
def RH:VY X (Di .IsNot) (λx y H Q=>y=.non/\Q (.bl (!decide (x=.non))) H):=by
 intro aa s σ H x y v u Q I a b h;obtain⟨rfl,q⟩:=h;cases b;refine isnot_none_gen (G7 I q ?_);cases x<;>first
  |(cases a;rfl)
  |(obtain⟨t,rfl⟩:=a;rfl)
def VY.or{f:Se->Se->Sz Se}{r r':R2}(h:VY X f r)(h':VY X f r'):VY X f (λx y H Q=>r x y H Q∨r' x y H Q):=by
 intro aa s σ H x y v u Q I b a q;rcases q with q|q
 ·exact h aa s σ H x y v u Q I b a q
 ·exact h' aa s σ H x y v u Q I b a q
def HG(b:Sj){op:CmpOp}(h:op≠ .In:=by decide)(h2:op≠ .NotIn:=by decide):Hj op b=ba:=by
 have c:(op==CmpOp.In)=ba:=by cases op<;>first|rfl|exact absurd rfl h
 have a:(op==CmpOp.NotIn)=ba:=by cases op<;>first|rfl|exact absurd rfl h2
 cases b<;>simp[Hj,c,a]
def Zt{op:CmpOp}{r:R2}(f:VY X (Di op) r)(j:PE X a ta)(i:PE X b tb)(g:Hj op b=ba):PE X (.Compare a [op] [b] pos) (tOp r ta tb):=by intro aa s σ H Q I h;exact wpAny_Compare1 (binT j i I h λv u c x y H2 k e d q=>f aa c σ H2 x y v u Q k e d q) g
def Xn(t:TE):TT:=λσ H Q=>t σ H λx H'=>∃k,x=.bl k/\Q k H'
def eO{op:CmpOp}{r:R2}(j:VY X (Di op) r)(n:PE X a ta)(m:PE X b tb)(l:Hj op b=ba):PT X (.Compare a [op] [b] pos) (Xn (tOp r ta tb)):=by
 intro aa s σ H Q I h;refine wpAny_isTrue_Compare1 (Y7 (n aa s σ H _ I h) λv s1 ⟨x,H1,q,i,q1⟩=>Y7 (m aa s1 σ H1 _ q q1) λu d ⟨y,H2,p,g,q2⟩=>
  Y7 (j aa d σ H2 x y v u _ p i g q2) λc w ⟨z,t,o,f,k,e,q3⟩=>?_) l
 subst e;cases f;exact Fe ⟨t,o,q3⟩
def DM(r r':R2)(ta tb tc:TE):TE:=λσ H Q=>ta σ H λx H1=>tb σ H1 λy H2=>r x y H2 λz a=>∃k,z=.bl k∧
 (if k=b5 then tc σ a λb c=>r' y b c Q else Q (.bl ba) a)
def fE{op f:CmpOp}{r r':R2}(C:VY X (Di op) r)(g:VY X (Di f) r')(F:PE X a ta)(E:PE X b tb)(hc:PE X c tc)(D:Qa [op,f] [b,c]=ba:=by with_unfolding_all rfl):PE X (.Compare a [op,f] [b,c] pos) (DM r r' ta tb tc):=by
 intro aa s σ H Q I h;refine Compare_chain (Y7 (F aa s σ H _ I h) λv s1 ⟨x,H1,K,A,q1⟩=>chain_link (Y7 (E aa s1 σ H1 _ K q1) λu q ⟨y,H2,J,i,q2⟩=>
  Y7 (C aa q σ H2 x y v u _ J A i q2) λd p ⟨z,l,j,w,k,e,q3⟩=>?_)) D
 subst e;cases w;refine Fe ?_;cases k with
 |false=>exact ite_ff ⟨.bl ba,l,j,rfl,q3⟩
 |true=>exact ite_tt (chain_last (Y7 (hc aa p σ l _ j q3) λn o ⟨m,L,G,t,B⟩=>g aa o σ L y m u n Q G i t B))
def Zf{op f:CmpOp}{r r':R2}(F:VY X (Di op) r)(g:VY X (Di f) r')(K:PE X a ta)(J:PE X b tb)(hc:PE X c tc)(G:Qa [op,f] [b,c]=ba:=by with_unfolding_all rfl):PT X (.Compare a [op,f] [b,c] pos) (Xn (DM r r' ta tb tc)):=by
 intro aa s σ H Q I h;refine isTrue_chain (Y7 (K aa s σ H _ I h) λv s1 ⟨x,H1,R,B,q1⟩=>test_link (Y7 (J aa s1 σ H1 _ R q1) λu q ⟨y,H2,P,i,q2⟩=>
  Y7 (F aa q σ H2 x y v u _ P B i q2) λd p ⟨z,l,j,A,k,e,q3⟩=>?_)) G
 subst e;cases A;refine Fe ?_;cases k with
 |false=>
  obtain⟨k',M,E⟩:=q3;cases M;exact ite_ff ⟨l,j,E⟩
 |true=>
  refine ite_tt (test_last (Y7 (hc aa p σ l _ j q3) λn o ⟨m,T,O,w,D⟩=>Y7 (g aa o σ T y m u n _ O i w D) λd' V ⟨U,S,N,t,W,L,C⟩=>?_));subst L;cases t;exact Fe ⟨S,N,C⟩
def QG:(sizeLine:Nat)<2 ^ 63:=by rw[Cr];decide
def C6:VY X (Fn .Add) (λx y H Q=>∃i j,x=.str i/\y=.str j/\i.length+j.length<=sizeLine/\Q (.str (i++j)) H):=by intro aa s σ H x y v u Q I b a h;obtain⟨i,j,rfl,rfl,hz,q⟩:=h;obtain⟨t,rfl⟩:=b;obtain⟨t',rfl⟩:=a;exact add_str (λt' tk=>⟨.str (i++j),H,I.tok _,⟨_,rfl⟩,q⟩) hz
def UR{x:V}{us:List Se}(r:a7 [x] us):∃u,us=[u]/\aW x u:=by
 cases r with
 |cons b a=>cases a;exact⟨_,rfl,b⟩
def B6{x y:V}{us:List Se}(r:a7 [x,y] us):∃u a,us=[u,a]/\aW x u/\aW y a:=by
 cases r with
 |cons e d=>
  cases d with
  |cons c b=>cases b;exact⟨_,_,rfl,e,c⟩
def IK(hc:X.calm=b5):Z2 X (.builtin "max") (λxs H Q=>∃i j,xs=[.int i,.int j]/\Q (.int (if j>i then j else i)) H):=by
 intro aa s σ H xs us Q I r h;obtain⟨i,j,rfl,q⟩:=h;obtain⟨u,b,rfl,⟨t,rfl⟩,⟨t',rfl⟩⟩:=B6 r;refine max_two_ints (I.ok.hd hc) λh' tk k=>⟨_,H,I.kept k,?_,q⟩;by_cases a:j>i
 ·rw[if_pos a,if_pos a];exact⟨_,rfl⟩
 ·rw[if_neg a,if_neg a];exact⟨_,rfl⟩
def NJ(hc:X.calm=b5):Z2 X (.builtin "min") (λxs H Q=>∃i j,xs=[.int i,.int j]/\Q (.int (if j<i then j else i)) H):=by
 intro aa s σ H xs us Q I r h;obtain⟨i,j,rfl,q⟩:=h;obtain⟨u,b,rfl,⟨t,rfl⟩,⟨t',rfl⟩⟩:=B6 r;refine min_two_ints (I.ok.hd hc) λh' tk k=>⟨_,H,I.kept k,?_,q⟩;by_cases a:j<i
 ·rw[if_pos a,if_pos a];exact⟨_,rfl⟩
 ·rw[if_neg a,if_neg a];exact⟨_,rfl⟩
end
structure ObjM(h:Sq)(x dx C:Sf)(mA:Si->Option Se):Prop where
 obj:h.get? x=b0 (Ro C dx)
 ns:h.Ns1 dx mA
 ne:dx≠x
def jY{h:Sq}{dx:Sf}{b:Si->Option Se}(n:h.Ns1 dx b):∃od,h.get? dx=b0 od/\∀name,W.lookIn name od=b0 (b name):=by
 obtain⟨o,es,j,f,hd,hk,_,g⟩:=n;refine⟨o,f,λname=>?_⟩;have e:=g name;unfold nsFind findBy at e;rw[<-Array.find?_toList]at e;unfold W.lookIn;rw[hd];dsimp only;split
 ·rename_i y q
  rw[q]at e;exact congrArg b0 e
 ·rename_i q
  rw[q]at e;have a:es.toList.any (·.refKey)=ba:=by rw[List.any_eq_false];intro y d;obtain⟨z,t,c⟩:=hk y (Array.mem_toList_iff.mp d);simp[DictEntry.refKey,c]
  have i:¬es.toList.any (·.refKey)=b5:=by rw[a];exact Ei
  rw[if_neg i];exact congrArg b0 e
def ObjM.look{h:Sq}{x dx C:Sf}{a:Si->Option Se}(I:ObjM h x dx C a):∃od,W.InstAt h x (Ro C dx) C (b0 od)/\∀name,W.lookIn name od=b0 (a name):=
 let ⟨od,b,hl⟩:=jY I.ns
 ⟨od,⟨I.obj,rfl,rfl,b⟩,hl⟩
def MR.some_of{v:V}{o:Option Se}(r:MR (b0 v) o):∃u,o=b0 u/\aW v u:=by
 cases o with
 |none=>exact(show False from r).elim
 |some u=>exact⟨u,rfl,r⟩
section
variable{P:Bh}{w:Sm}{H H':Hp}{h h':Sq}{a C dx:Sf}{fs fs':List (Si×V)}
def jl(c:QU P w H h)(e:H a=b0 (.ins C dx fs)):∃b,ObjM h a dx C b/\(∀f,MR (fs.lookup f) (b f))/\Rp b (fs.map (·.1))/\fs.length<=1000/\H dx=b0 (.own a):=by obtain⟨d,z,i,g,b,n,r,q⟩:=(show ZJ P w H h a (.ins C dx fs) from c a _ e);exact⟨b,⟨g,n,i⟩,r,q,z,d⟩
end
structure Cls(K:Ao)(C:Sf):Prop where
 pg:W.plainGet K C Str.empty=b5
 hd:W.hasDictIn K C=b5
 po:W.plainOver K C=b5
 sa:W.findIn K (.ref C) "__setattr__"=b0 (b0 (.builtin "object.__setattr__"))
def Cls.get{K:Ao}{C:Sf}(c:Cls K C)(f:Si):W.plainGet K C f=b5:=c.pg
section
variable{X:Cx}{aa:List (Sf×Sr)}{σ:St}{H:Hp}{s:Ah}{A:Dh}{E:Se->Ah->Prop}{Q:Se->Ah->Prop}{c:Se}{b:Bool}
inductive MT(K:Ao)(H:Hp):V->Se->Prop where
 |non:MT K H .non (.type "NoneType")
 |bl (x:Bool):MT K H (.bl x) (.type "bool")
 |int (i:Int):MT K H (.int i) (.type "int")
 |str (x:Si):MT K H (.str x) (.type "str")
 |flt (x:UInt64):MT K H (.flt x) (.type "float")
 |lst {a:Sf}{xs:List V}(e:H a=b0 (.lst xs)):MT K H (.ref a) (.type "list")
 |frz {a:Sf}{o:Sr}{xs:List V}(e:H a=b0 (.frz o (.lst xs))):MT K H (.ref a) (.type "list")
 |tup {a:Sf}{xs:List V}(e:H a=b0 (.tup xs)):MT K H (.ref a) (.type "tuple")
 |dK {a:Sf}{kvs:List (aS×V)}(e:H a=b0 (.dK kvs)):MT K H (.ref a) (.type "dict")
 |dT {a:Sf}{kvs:List (List aS×V)}(e:H a=b0 (.dT kvs)):MT K H (.ref a) (.type "dict")
 |ins {a C dx:Sf}{fs:List (Si×V)}(e:H a=b0 (.ins C dx fs)) (cl:Cls K C) (ha:W.findIn K (.ref C) "__class__"=b0 (b0 (.builtin "object.__class__")))
   (hn:W.specialIn K (.builtin "object.__class__") "__get__"=b0 (b0 (.builtin "getset_descriptor.__get__"))) (htk:W.takesIn K (.builtin "object.__class__")=b0 b5)
   (hm:W.mroIn K C (.type "object")=b0 b5):MT K H (.ref a) (.ref C)
def RD{x:V}{u t:Se}(I:bP X aa σ H s)(d:aW x u)(ty:MT X.K H x t)(e:W.kitOne X.K t c=b0 b)(h:∀tk,Q (.bool b) {s with toks:=tk}):Sg (Sk X.prog X.w) A (call (.builtin "isinstance") [u,c]) Q E s:=by
 cases ty with
 |non=>cases (show u=Value.none from d);exact Fq W.kitx_none I.kIn True.intro e (λz=>nomatch z) h
 |bl y=>cases (show u=Rb y from d);exact Fq W.kitx_bool I.kIn True.intro e (λz=>nomatch z) h
 |int i=>obtain⟨t,q⟩:=(show∃t,u=Pt i t from d);cases q;exact Fq W.kitx_int I.kIn True.intro e (λz=>nomatch z) h
 |str y=>obtain⟨t,q⟩:=(show∃t,u=Lo y t from d);cases q;exact Fq W.kitx_str I.kIn True.intro e (λz=>nomatch z) h
 |flt y=>obtain⟨t,q⟩:=(show∃t,u=Ry y t from d);cases q;exact Fq W.kitx_float I.kIn True.intro e (λz=>nomatch z) h
 | @lst a xs f=>
  cases (show u=Bq a from d);obtain⟨_,_,n,_,h1⟩:=(show ZJ X.prog X.w H s.heap a (.lst xs) from I.hok a _ f);exact Fq Mu I.kIn ⟨_,h1,rfl⟩ e (λz=>nomatch z) h
 | @frz a j xs f=>
  cases (show u=Bq a from d);obtain⟨_,_,_,n,_,h1⟩:=(show ZJ X.prog X.w H s.heap a (.frz j (.lst xs)) from I.hok a _ f);exact Fq Mu I.kIn ⟨_,h1,rfl⟩ e (λz=>nomatch z) h
 | @tup a xs f=>
  cases (show u=Bq a from d);obtain⟨_,_,_,p⟩:=(show ZJ X.prog X.w H s.heap a (.tup xs) from I.hok a _ f);obtain⟨o,h1,h2,_⟩:=p;exact Fq W.kitx_tuple I.kIn ⟨o,h1,h2⟩ e (λz=>nomatch z) h
 | @dK a kvs f=>
  cases (show u=Bq a from d);obtain⟨_,_,vs,_,p⟩:=(show ZJ X.prog X.w H s.heap a (.dK kvs) from I.hok a _ f);obtain⟨o,es,r,h1,h2,_⟩:=p;exact Fq W.kitx_dict I.kIn ⟨o,h1,h2.1⟩ e (λz=>nomatch z) h
 | @dT a kvs f=>
  cases (show u=Bq a from d);obtain⟨_,_,xs,_,o,es,r,h1,h2,_⟩:=(show ZJ X.prog X.w H s.heap a (.dT kvs) from I.hok a _ f);exact Fq W.kitx_dict I.kIn ⟨o,h1,h2.1⟩ e (λz=>nomatch z) h
 | @ins a C dx fs f cl m k g l=>
  cases (show u=Bq a from d);obtain⟨v,O,_⟩:=jl I.hok f;obtain⟨od,J,_⟩:=O.look;exact Fq (W.kitx_own (cl.get _) cl.hd m k g l) I.kIn J e (λz=>nomatch z) h
end
structure X5(k:Nat)(A:Dh):Prop where
 hd:A.handled=b3
 dp:A.depth+3*k+5<recursionLimit
 un:A.units+16*k+200<cLine
def X5.mono{j k:Nat}{A:Dh}(r:X5 k A)(h:j<=k):X5 j A:=⟨r.hd,by have:=r.dp;lia,by have:=r.un;lia⟩
def X5.deeper{k:Nat}{A:Dh}(r:X5 (k+1) A)(env:Env):X5 k (A.deeper env):=
 ⟨r.hd,by have:=r.dp;show A.depth+1+3*k+5<_;lia,by have:=r.un;show A.units+3+16*k+200<_;lia⟩
def X5.depth{k:Nat}{A:Dh}(r:X5 k A):A.depth<recursionLimit:=by have:=r.dp;lia
def X5.units{k:Nat}{A:Dh}(r:X5 k A):A.units+64<cLine:=by have:=r.un;lia
def tNil:TA:=λ_ H Q=>Q [] H
def JU(ta:TE)(a:TA):TA:=λσ H Q=>ta σ H λx H1=>a σ H1 λxs H2=>Q (x::xs) H2
section
variable{X:Cx}{e:Sj}{es:List Sj}{te:TE}{t:TA}{pos:Pos}
def ZU:PA X [] tNil:=λ_ _ _ _ H Q I h=>Hz ⟨[],H,I,.nil,h⟩
def bL(f:PE X e te)(d:PA X es t)(c:Bb (e::es) X.env=(ba,eval e X.env)::Bb es X.env:=by rfl):PA X (e::es) (JU te t):=by intro pos aa s σ H Q I h;rw[c];show Sg _ _ (spliced ((ba,eval e X.env)::Ex pos (Bb es X.env))) _ _ s;refine Gf (Y7 (f aa s σ H _ I h) λu s1 ⟨x,H1,i,b,q1⟩=>?_);exact Y7 (d pos aa s1 σ H1 _ i q1) λus j ⟨xs,H2,g,a,q2⟩=>⟨x::xs,H2,g,.cons b a,q2⟩
def tTup(t:TA):TE:=λσ H Q=>t σ H λxs H1=>xs.length<=sizeLine/\∀p,H1 p=b3->Q (.ref p) (aG H1 p (.tup xs))
def tLst(t:TA):TE:=λσ H Q=>t σ H λxs H1=>xs.length<=sizeLine/\∀p,H1 p=b3->Q (.ref p) (aG H1 p (.lst xs))
def C9{x1}(h:PA X es t):PE X (.Tuple es x1 pos) (tTup t):=by intro aa s σ H Q I c;refine wpAny_Tuple_spliced (Y7 (h pos aa s σ H _ I c) λus s1 ⟨xs,H1,a,r,z,q⟩=>⟨by rw[<-r.length];exact z,?_⟩);have d:H1 s1.heap.objs.size=b3:=a.hok.fresh (Au _);refine⟨.ref s1.heap.objs.size,aG H1 s1.heap.objs.size (.tup xs),a.laid (t':=s1.toks) (λb u e=>Ad _ e) (Au _) ?_,rfl,q _ d⟩;exact⟨z,us,r,⟨_,Ax _ rfl,rfl,_,rfl⟩⟩
def C8(h:PA X es t):PE X (.List es pos) (tLst t):=by intro aa s σ H Q I c;refine wpAny_List_spliced (Y7 (h pos aa s σ H _ I c) λus s1 ⟨xs,H1,a,r,z,q⟩=>⟨by rw[<-r.length];exact z,?_⟩);have d:H1 s1.heap.objs.size=b3:=a.hok.fresh (Au _);refine⟨.ref s1.heap.objs.size,aG H1 s1.heap.objs.size (.lst xs),a.laid (t':=s1.toks) (λb u e=>Ad _ e) (Au _) ?_,rfl,q _ d⟩;exact⟨z,us,0,r,Ax _ rfl⟩
end
abbrev Sp:=List V->Hp->VK->XK->Prop
abbrev CXT:=List Env->Hp->Ah->XK->Se->Ah->Prop
structure Env0(P:Bh)(w:Sm)(K:Ao)(mg:Si->Option Se)(base:Sq)(A:Dh)(outer:List Env)(s:Ah)(H:Hp):Prop where
 frames:A.frames=b0 outer
 mod:Mod K mg base
 bs:∀b o,base.get? b=b0 o->s.heap.get? b=b0 o/\H b=b3
 bsz:base.objs.size<=s.heap.objs.size
 funs:s.heap.FunFrames base outer
 frf:∀b∈frs outer,H b=b3
 hok:QU P w H s.heap
 bare:Lp s.gens
def CE(outer:List Env)(P:Bh)(w:Sm)(H:Hp)(s:Ah)(Q:VK)(u:Se)(s':Ah):Prop:=
 ∃v H',s'.os=s.os/\Lp s'.gens/\Un (frs outer) [] H H' s.heap s'.heap/\QU P w H' s'.heap/\aW v u/\Q v H'
def CR(CX:CXT)(outer:List Env)(P:Bh)(w:Sm)(H:Hp)(s:Ah)(Q:VK)(E:XK)(r:Result)(s':Ah):Prop:=
 match r with
 |.ok (.ret u)=>CE outer P w H s Q u s'
 |.ok _=>False
 |.error e=>CX outer H s E e s'
structure S9(P:Bh)(w:Sm)(K:Ao)(mg:Si->Option Se)(base:Sq)(CX:CXT)(k:Nat)(f:Sf)(fd:Ey)(ps:List Si)(sp:Sp):Prop where
 len:∀vs H Q E,sp vs H Q E->vs.length=ps.length
 run:∀(A:Dh) (outer:List Env) (s:Ah) (H:Hp) (args:Args) (us:List Se) (vs:List V) (Q:VK) (E:XK),X5 k A->Env0 P w K mg base A outer s H->Qb s fd args (ps.zip us)->a7 vs us->sp vs H Q E->
  Mv (Sk P w) A (.call (.ref f) args) (CR CX outer P w H s Q E) s
section
variable{X:Cx}{aa:List (Sf×Sr)}{σ:St}{H:Hp}{s s':Ah}
def bP.env0(I:bP X aa σ H s):Env0 X.prog X.w X.K X.mg X.base X.A X.stack s H:=
 ⟨I.ok.frames,I.ok.mod,I.bs,Fc I.ok.bsz I.sz,I.stack,I.stkFree,I.hok,I.bare⟩
def bP.after{Q:VK}{u:Se}(I:bP X aa σ H s)(h:CE X.stack X.prog X.w H s Q u s'):EP X aa σ Q u s':=by obtain⟨v,H',os,a,un,e,r,q⟩:=h;obtain⟨f,g,d,t,c⟩:=s';obtain rfl:c=s.os:=os;exact⟨v,H',I.call (h':=f) (g':=g) (d':=d) (t':=t) (ch:=[]) un e a (λb z=>absurd z (by simp)),r,q⟩
end
def To(sp:Sp)(dvs:List V)(E:XK)(t:TA):TE:=λσ H Q=>t σ H λvs H1=>sp (vs++dvs) H1 Q E
def OD(K:Ao)(fd:Ey)(ps:List Si)(ds:List Se):Prop:=
 ∀(s:Ah) (us:List Se),K.In s.heap->(us++ds).length=ps.length->Qb s fd ⟨us,[]⟩ (ps.zip (us++ds))
def OD.all{K:Ao}{fd:Ey}{ps:List Si}(h:∀us:List Se,us.length=ps.length->bindArgs fd ⟨us,[]⟩=pure (ps.zip us)):OD K fd ps []:=λs us _ hl=>by rw[Cz]at hl⊢;exact .of_eq (h us hl)
def CA(CX:CXT)(X:Cx)(E:XK):Prop:=∀(aa:List (Sf×Sr)) (σ:St) (H:Hp) (s:Ah) (e:Se) (s':Ah),bP X aa σ H s->CX X.stack H s E e s'->X.xe e s'
section
variable{X:Cx}{CX:CXT}{k:Nat}{f C:Sf}{fd:Ey}{ps:List Si}{sp:Sp}{dvs:List V}{ds:List Se}{E:XK}{x m:Si}{p pos ak:Pos}{e o:Sj}{es:List Sj}{ta:TE}{t:TA}
def Va{aa:List (Sf×Sr)}{σ:St}{H:Hp}{s:Ah}{Q:VK}{us:List Se}{vs:List V}(F:S9 X.prog X.w X.K X.mg X.base CX k f fd ps sp)(d:X5 k X.A)(g:OD X.K fd ps ds)(hd:a7 dvs ds)(c:CA CX X E)(I:bP X aa σ H s)(r:a7 vs us)(h:sp (vs++dvs) H Q E):Sg (Sk X.prog X.w) X.A (call (.ref f) us) (EP X aa σ Q) X.xe s:=by
 have b:a7 (vs++dvs) (us++ds):=r.append hd;have hl:(us++ds).length=ps.length:=by rw[<-b.length];exact F.len _ _ _ _ h
 refine wpAny_call (Oy (F.run X.A X.stack s H ⟨us,[]⟩ (us++ds) (vs++dvs) Q E d I.env0 (g s us I.kIn hl) b h) λr s' a=>?_);cases r with
 |error e=>exact c aa σ H s e s' I a
 |ok i=>
  cases i with
  |ret u=>exact I.after a
  |next=>exact Go a
  |brk=>exact Go a
  |cont=>exact Go a
def A6(F:S9 X.prog X.w X.K X.mg X.base CX k f fd ps sp)(g:X5 k X.A)(j:Gl X x)(i:X.mg x=b0 (.ref f))(hk:Il X.K (.ref f)=b5)(m:OD X.K fd ps ds)(hd:a7 dvs ds)(d:CA CX X E)(n:PA X (e::es) t)(b:(x==("__debug__":Si))=ba:=by decide)(l:Bb (e::es) X.env=(ba,eval e X.env)::Bb es X.env:=by rfl)(a:(Ex pos (Bb es X.env)).any (·.1)=ba:=by rfl):PE X (.Call (.Name x p) (e::es) [] pos) (To sp dvs E t):=by intro aa s σ H Q I h;refine Fi (AT I j i ?_ b);refine W.callWith_K (h₀:=X.base) I.ok.mod.kin hk (Y7 (n pos aa s σ H _ I h) λus s1 ⟨vs,H1,c,r,q⟩=>⟨c.kIn,?_⟩) l a;exact Va F g m hd d c r q
end
structure XD(N P:List Si)(sc:Sx):Prop where
 kind:sc.kind=.function
 co:sc.isCoroutine=ba
 gen:sc.isGenerator=ba
 nd:N.Nodup
 pre:N.take P.length=P
 par:∀x∈P,sc.names.lookup x=b0 .local∨sc.names.lookup x=b0 .cell
 nofree:∀y∈sc.names,y.2≠ .free
theorem IH{kindOf:Si->Option Sw}{x:Si}:∀{binds:List (Si×Se)}{m:Si->Option Se},(∀v,(x,v)∉binds)->bindL kindOf binds m x=m x
 |[],_,_=>rfl
 | (n,v) :: r,m,h => by
  unfold bindL;rw[IH λw hw=>h w (Ap _ hw)];split
  ·have : x ≠ n := by rintro rfl;exact h v Aw
   simp[this]
  ·rfl
theorem IF{kindOf:Si->Option Sw}{x:Si}:∀{binds:List (Si×Se)}{m:Si->Option Se},(∀v,(x,v)∉binds)->bindC kindOf binds m x=m x
 |[],_,_=>rfl
 | (n,v) :: r,m,h => by
  unfold bindC;rw[IF λw hw=>h w (Ap _ hw)];split
  ·rfl
  ·have : x ≠ n := by rintro rfl;exact h v Aw
   simp[this]
theorem IG{kindOf:Si->Option Sw}{x:Si}{v:Se}:∀{P:List Si}{vs:List Se}{i:Nat}{m:Si->Option Se},P.Nodup->P[i]?=b0 x->vs[i]?=b0 v->kindOf x=b0 .local->bindL kindOf (P.zip vs) m x=b0 v
 |[],_,_,_,_,h,_,_=>by simp at h
 |_::_,[],_,_,_,_,h,_=>by simp at h
 |p::P,w::vs,0,m,a,h1,h2,hk=>by simp at h1 h2;subst h1;subst h2;show bindL kindOf ((p,w)::P.zip vs) m p=_;unfold bindL;rw[IH λv b=>(Cd.mp a).1 (Ls b).1,if_pos hk];simp
 |p::P,w::vs,i+1,m,a,h1,h2,hk=>by show bindL kindOf ((p,w)::P.zip vs) m x=_;unfold bindL;exact IG (i:=i) (Cd.mp a).2 (by simpa using h1) (by simpa using h2) hk
theorem IE{kindOf:Si->Option Sw}{x:Si}{v:Se}:∀{P:List Si}{vs:List Se}{i:Nat}{m:Si->Option Se},P.Nodup->P[i]?=b0 x->vs[i]?=b0 v->kindOf x≠b0 .local->bindC kindOf (P.zip vs) m x=b0 v
 |[],_,_,_,_,h,_,_=>by simp at h
 |_::_,[],_,_,_,_,h,_=>by simp at h
 |p::P,w::vs,0,m,a,h1,h2,hk=>by simp at h1 h2;subst h1;subst h2;show bindC kindOf ((p,w)::P.zip vs) m p=_;unfold bindC;rw[IF λv b=>(Cd.mp a).1 (Ls b).1,if_neg hk];simp
 |p::P,w::vs,i+1,m,a,h1,h2,hk=>by show bindC kindOf ((p,w)::P.zip vs) m x=_;unfold bindC;exact IE (i:=i) (Cd.mp a).2 (by simpa using h1) (by simpa using h2) hk
def start(N:List Si)(vs:List V):St:=vs.map b0++Ak (N.length-vs.length) b3
noncomputable def KA(CX:CXT)(P:Bh)(w:Sm)(K:Ao)(mg:Si->Option Se)(base:Sq)(N:List Si)(a:Si)(scope:Sx)(f:Sf)(c:Se)(A:Dh)(outer:List Env)(s:Ah)(H:Hp)(E:XK):Cx where
 prog:=P
 w:=w
 K:=K
 mg:=mg
 base:=base
 A:=A.deeper (Iu a scope s.heap.objs.size f c)
 N:=N
 s₀:=s
 H₀:=H
 env:=Iu a scope s.heap.objs.size f c
 outer:=outer
 stack:=Iu a scope s.heap.objs.size f c::outer
 ex:=[]
 calm:=b5
 fn:=λ_=>b5
 pn:=[]
 xe:=λe s'=>Sg (Sk P w) (A.deeper (Iu a scope s.heap.objs.size f c)) (leaving (Iu a scope s.heap.objs.size f c) e) (λ_ b=>CX outer H s E e b) (λd b=>CX outer H s E d b) s'
def EC{a:Sx}{n:Nat}{x:Si}(h:a.names.lookup x=b0 .cell):∃c,(Sv n a.names []).lookup x=b0 c:=by have q:=Pc a.names n [] (.inl h);exact Option.isSome_iff_exists.mp q
def mv{CX:CXT}{P:Bh}{w:Sm}{K:Ao}{mg:Si->Option Se}{base:Sq}{N ps:List Si}{d:Si}{scope:Sx}{f:Sf}{t:Se}{A:Dh}{outer:List Env}{s s1:Ah}{H:Hp}{E:XK}{us:List Se}{vs:List V}(S:XD N ps scope)(hd:A.handled=b3)(g:Env0 P w K mg base A outer s H)(hl:vs.length=ps.length)(r:a7 vs us)(x:InCallC s s.heap.objs.size (bindL (Iu d scope s.heap.objs.size f t).kindOf (ps.zip us) λ_=>b3) (Sv (s.heap.objs.size+1) scope.names []) (bindC (Iu d scope s.heap.objs.size f t).kindOf (ps.zip us) λ_=>b3) s1):bP (KA CX P w K mg base N d scope f t A outer s H E) [] (start N vs) H s1:=by
 have D:ps.length<=N.length:=by have:=congrArg List.length S.pre;rw[Ct]at this;lia
 obtain⟨h1,tk,rfl,hk⟩:=x.done;have j:∀b:Sf,b∉(KA CX P w K mg base N d scope f t A outer s H E).ex:=λb z=>absurd (show b∈([]:List Sf) from z) (by simp);refine⟨⟨g.mod,S.kind,rfl,rfl,Au _,λy z c h1 h2=>?_,λy l=>?_,λy c _ h=>?_,λ_=>hd,Around.frames_deeper g.frames,.inr ⟨rfl,rfl⟩,λb z=>absurd z (j b),g.bs,g.bsz,λb _ _=>j b,λb z=>absurd z (j b),g.funs,g.frf⟩,rfl,g.bare,Un.kept hk,⟨_,x.toInCall.ns,λi y v h1 h2 G=>?_⟩,λy c h=>⟨_,x.cell y c h⟩,g.hok.fresh (Au _),λy c h=>?_,λp o=>absurd (show p∈([]:List (Sf×Sr)) from o) (by simp),g.hok.kept hk,?_⟩
 ·exact name_of_addr x.apart (Cv h1) (Cv h2)
 ·have l:scope.names.lookup y=b0 .cell∨scope.names.lookup y=b0 .free:=l
  rcases l with l|l
  ·exact EC l
  ·exact absurd rfl (S.nofree _ (Cv l))
 ·exact Ow (x.above y c (Cv h))
 ·have hi:i<vs.length:=by
   unfold start at h2;by_cases hi:i<vs.length
   ·exact hi
   ·rw [At (by simpa using hi)]at h2
    rw[El]at h2;split at h2<;>cases h2
  have F:vs[i]?=b0 v:=by
   unfold start at h2;rw[Ae (by simpa using hi),De]at h2;cases e:vs[i]? with
   |none=>rw[e]at h2;cases h2
   |some a=>rw[e]at h2;cases h2;rfl
  obtain⟨u,B,C⟩:=r.get F;have o:ps[i]?=b0 y:=by rw[<-S.pre,Dk (by lia)];exact h1
  have m:ps.Nodup:=by rw[<-S.pre];exact S.nd.sublist (List.take_sublist _ _)
  refine⟨u,C,?_⟩;rcases S.par y (Cn o)with k|k
  ·exact .inl ⟨k,IG m o B k⟩
  ·obtain⟨c,e⟩:=EC (n:=s.heap.objs.size+1) k
   refine .inr ⟨.inl k,c,e,?_⟩;have q:=x.cell y c e;rw[IE m o B (by show scope.names.lookup y≠_;rw[k];decide)]at q;exact q
 ·exact g.hok.fresh (Ow (x.above y c (Cv h)))
 ·unfold start
  show _=N.length;rw[Ay,Ce,Et];lia
def Wp{CX:CXT}{P:Bh}{w:Sm}{K:Ao}{mg:Si->Option Se}{base:Sq}{k:Nat}{f:Sf}{name a:Si}{d:Arguments}{body:List Su}{scope:Sx}{F kV doc D c ct M:Se}{G od:Option Sf}{p:Array (Option Se)}{N ps:List Si}{sp:Sp}(O:K.lookup f=b0 ⟨M,od,.func (Jz name a d body scope F kV doc D G c ct),p⟩)(C:Ku K c a=b5)(S:XD N ps scope)(len:∀vs H Q E,sp vs H Q E->vs.length=ps.length)(au:∀(A:Dh) (outer:List Env) (s:Ah) (H:Hp) (vs:List V) (Q:VK) (E:XK),X5 k (A.deeper (Iu a scope s.heap.objs.size f c))->sp vs H Q E->∃t,NH (KA CX P w K mg base N a scope f c A outer s H E) body t/\t {nx:=λ_ H'=>Q .non H',rt:=Q} (start N vs) H):S9 P w K mg base CX (k+1) f (Jz name a d body scope F kV doc D G c ct) ps sp:=by
 refine⟨len,λA outer s H args us vs Q E B l Y r i=>?_⟩;have hl:=len _ _ _ _ i;have L:K.In s.heap:=l.mod.kin.keeps λb o e=>(l.bs b o e).1;have z:s.heap.NoLimit:=l.mod.nolimit.keeps λb o e=>(l.bs b o e).1;have Z:∀y∈ps.zip us,scope.names.lookup y.1=b0 .local∨(scope.names.lookup y.1=b0 .cell/\((Sv (s.heap.objs.size+1) scope.names []).lookup y.1).isSome=b5):=λ⟨n,v⟩ R=>by
  rcases S.par n (Ls R).1 with q|q
  ·exact .inl q
  ·exact .inr ⟨q,Pc _ _ _ (.inl q)⟩
 refine codeAny_call_function B.depth (L _ _ O) rfl S.co S.gen rfl (W.codeRec_of L C) (Y _ _ _ _ ?_);refine wpAny_newFunctionEnv_cells S.kind Z λenv X s1 x=>?_;subst X;refine⟨z.keeps x.toInCall.keep,codeAny_func ?_⟩;obtain⟨t,T,U⟩:=au A outer s H vs Q E (B.deeper _) i;have I:bP (KA CX P w K mg base N a scope f c A outer s H E) [] (start N vs) H s1:=mv S B.hd l hl r x;refine Cu (T [] s1 (start N vs) H _ I U) (λfl s' h=>?_) λe s' h=>h;have j:∀{g:St}{H':Hp}{v:V}{u:Se},bP (KA CX P w K mg base N a scope f c A outer s H E) [] g H' s'->aW v u->Q v H'->CE outer P w H s Q u s':=
  λ{g H' v u} J m q=>⟨v,H',J.os,J.bare,J.base,J.hok,m,q⟩
 cases fl with
 |ret u=>
  obtain⟨v,g,H',J,m,q⟩:=h;exact j J m q
 |next=>
  obtain⟨g,H',J,q⟩:=h;exact j (v:=V.non) (u:=Value.none) J rfl q
 |brk=>
  obtain⟨_,_,_,q⟩:=h;exact Go q
 |cont=>
  obtain⟨_,_,_,q⟩:=h;exact Go q
section
variable{X:Cx}{x:Si}{p pos:Pos}{e:Sj}{es:List Sj}{t:TA}{id T:String}{r:List V->Hp->VK->Prop}
def tCB(r:List V->Hp->VK->Prop)(t:TA):TE:=λσ H Q=>t σ H λvs H1=>r vs H1 Q
def OZ(hc:Z2 X (.builtin id) r)(i:Gl X x)(g:X.mg x=b3)(d:Bj x=b0 (.builtin id))(k:PA X (e::es) t)(f:x≠ "__name__":=by decide)(b:(x==("__debug__":Si))=ba:=by decide)(j:Bb (e::es) X.env=(ba,eval e X.env)::Bb es X.env:=by rfl)(a:(Ex pos (Bb es X.env)).any (·.1)=ba:=by rfl):PE X (.Call (.Name x p) (e::es) [] pos) (tCB r t):=by intro aa s σ H Q I h;refine Fi (QF I i g d ?_ f b);exact PyProof.Rows.callWith_builtin1 (Y7 (k pos aa s σ H _ I h) λus s1 ⟨vs,H1,l,c,q1⟩=>hc aa s1 σ H1 vs us Q l c q1) j a
def V1(hc:Z2 X (.type T) r)(i:Gl X x)(g:X.mg x=b3)(d:Bj x=b0 (.type T))(k:PA X (e::es) t)(f:x≠ "__name__":=by decide)(b:(x==("__debug__":Si))=ba:=by decide)(j:Bb (e::es) X.env=(ba,eval e X.env)::Bb es X.env:=by rfl)(a:(Ex pos (Bb es X.env)).any (·.1)=ba:=by rfl):PE X (.Call (.Name x p) (e::es) [] pos) (tCB r t):=by intro aa s σ H Q I h;refine Fi (QF I i g d ?_ f b);exact Ek (Y7 (k pos aa s σ H _ I h) λus s1 ⟨vs,H1,l,c,q1⟩=>hc aa s1 σ H1 vs us Q l c q1) j a
end
end L2
namespace HT
open PySem PyProof.Rows
section
variable{prog:Bh}{w:Sm}{A:Dh}{E:Se->Ah->Prop}{s:Ah}
def zH3{t b:Sf}{vs ws:List Se}{Q:Se->Ah->Prop}(m:IsTup s.heap t vs.toArray)(o:IsTup s.heap b ws.toArray)(k:vs≠[])(h1:ws=[]->Q (.ref t) s)(h2:ws≠[]->Q (.ref s.heap.objs.size) {s with heap:=s.heap.push {cls:=.type "tuple",data:=.seq (vs++ws).toArray}})(hsz:vs.length+ws.length<=sizeLine):Sg (Sk prog w) A (Fn .Add (.ref t) (.ref b)) Q E s:=by
 obtain⟨⟨cls,l,data,i⟩,h,hc,n,hd⟩:=id m;obtain⟨⟨p,g,data2,c⟩,a,f,j,d⟩:=id o;simp only at hc hd f d;subst hc hd f d;have e:vs.toArray++ws.toArray=(vs++ws).toArray:=by simp
 by_cases hw:ws=[]
 ·exact Lu ⟨_,h,rfl⟩ ⟨_,a,rfl⟩ Le Ni Hs Hk (Hd _ _)
   (tuple_addW1 t b vs.toArray ws.toArray n j l g i c (by simpa using k) (by simp[hw])) ⟨h,a,h1 hw⟩
 ·refine Lu ⟨_,h,rfl⟩ ⟨_,a,rfl⟩ Le Ni Hs Hk (Hd _ _)
   (tuple_addW2 t b vs.toArray ws.toArray n j l g i c (by simpa using k) (by simpa using hw) (by rw[Aq,Aq];exact hsz)) ⟨h,a,?_⟩
  rw[e];exact h2 hw
noncomputable def sIx(n d:Nat):Option Int->Nat
 |none=>d
 |some v=>if v<0 then(v+(n:Int)).toNat else min v.toNat n
def FP(n d:Nat):sIx n d b3=d:=rfl
def BR(n d k:Nat):sIx n d (b0 (k:Int))=min k n:=by show(if(k:Int)<0 then((k:Int)+(n:Int)).toNat else min (k:Int).toNat n)=min k n;rw[if_neg (by lia),Ia]
def mM(n d:Nat)(hd:d<=n)(o:Option Int):sIx n d o<=n:=by
 cases o with
 |none=>exact hd
 |some v=>
  show(if v<0 then(v+(n:Int)).toNat else min v.toNat n)<=n;by_cases a:v<0
  ·rw[if_pos a];lia
  ·rw[if_neg a];exact Nat.min_le_right _ _
def AA(v:Int)(n d:Nat):(if v<0 then max (v+(n:Int)) 0 else min v (n:Int))=((sIx n d (b0 v):Nat):Int):=by
 show(if v<0 then max (v+(n:Int)) 0 else min v (n:Int))=(((if v<0 then(v+(n:Int)).toNat else min v.toNat n):Nat):Int);by_cases a:v<0
 ·simp only[if_pos a];lia
 ·simp only[if_neg a];lia
def CC(lo hi:Option Int)(n:Nat):Gw lo hi 1 (n:Int)=(((sIx n 0 lo:Nat):Int),((sIx n n hi:Nat):Int)):=by
 have h1:¬((1:Int)<0):=by lia
 unfold Gw;simp only[h1,if_false];refine Prod.ext ?_ ?_
 ·cases lo with
  |none=>rfl
  |some v=>exact AA v n 0
 ·cases hi with
  |none=>rfl
  |some v=>exact AA v n n
def DD(i j:Nat):Fk (i:Int) (j:Int) 1=j-i:=by
 unfold Fk;have h1:(1:Int)>0:=by lia
 simp only[h1,if_true,Int.ediv_one];split<;>lia
def L0{v:Se}{o:Option Int}{Q:Option Int->Ah->Prop}(p:IsPart v o)(h:Q o s):Sg (Sk prog w) A (Pq v) Q E s:=by
 cases p with
 |none=>exact slicePart_none h
 |int i t=>exact slicePart_int h
def UO{e:Sf}{d c:Se}{lo hi:Option Int}{n:Nat}{Q:Int×Int×Nat->Ah->Prop}(g:s.heap.IsSliceOf e d c .none)(f:IsPart d lo)(pu:IsPart c hi)(h:Q (((sIx n 0 lo:Nat):Int),1,sIx n n hi-sIx n 0 lo) s):Sg (Sk prog w) A (Ju (.ref e) (pure (n:Int))) Q E s:=by obtain⟨os,a,i,b⟩:=id g;unfold Ju Qq;refine Ac (Ac (Em a b (x:=d) rfl (Ac (Em a b (x:=c) rfl (Ac (Em a b (x:=.none) rfl (As ?_)))))));refine Ac (slicePart_none ?_);show Sg _ _ (if((1:Int)==0)=b5 then _ else _) _ _ s;rw[if_neg (by decide)];refine Ac (L0 f (Ac (L0 pu (Ac (As ?_)))));show Sg _ _ (match Gw lo hi 1 (n:Int)with|(lo,hi)=>pure (lo,(1:Int),Fk lo hi 1)) _ _ s;rw[CC lo hi n];show Sg _ _ (pure (((sIx n 0 lo:Nat):Int),(1:Int),Fk ((sIx n 0 lo:Nat):Int) ((sIx n n hi:Nat):Int) 1)) _ _ s;rw[DD];exact As h
def fY(xs:Array Se)(i k:Nat):((Bm k).filterMap λ(m:Nat)=>xs[((i:Int)+(m:Int)*1).toNat]?).toArray=((xs.toList.drop i).take k).toArray:=by
 have e:(λ(m:Nat)=>xs[((i:Int)+(m:Int)*1).toNat]?)=λm=>xs[i+m]? :=by
  funext m;have:((i:Int)+(m:Int)*1).toNat=i+m:=by lia
  rw[this]
 rw[e];have:=pick_run xs i k
 rw[List.filterMap_map]at this;have a:((λx=>xs[x]?)∘λx=>i+x)=λm=>xs[i+m]? :=rfl;rw[a]at this;rw[this]
def OP{t c:Sf}{items:Array Se}{j i:Se}{lo hi:Option Int}{Q:Se->Ah->Prop}(a:IsTup s.heap t items)(k:s.heap.IsSliceOf c j i .none)(l:IsPart j lo)(pu:IsPart i hi)(hw:¬(sIx items.size 0 lo=0/\sIx items.size items.size hi=items.size))(h:Q (.ref s.heap.objs.size) {s with heap:=s.heap.push {cls:=.type "tuple",data:=.seq ((items.toList.drop (sIx items.size 0 lo)).take (sIx items.size items.size hi-sIx items.size 0 lo)).toArray}})(hsz:items.size<=sizeLine):Sg (Sk prog w) A (Kv (.ref t) (.ref c)) Q E s:=by
 have b:sizeOk (.seq ((items.toList.drop (sIx items.size 0 lo)).take (sIx items.size items.size hi-sIx items.size 0 lo)).toArray):=by show((items.toList.drop (sIx items.size 0 lo)).take (sIx items.size items.size hi-sIx items.size 0 lo)).toArray.size<=sizeLine;rw[Aq,Ct,Pd,Ha];lia
 have o:sIx items.size items.size hi<=items.size:=mM _ _ (Au _) hi;obtain⟨os,d,f,n⟩:=id k;have g:s.TypeIs (.ref c) "slice":=⟨os,d,f⟩;unfold Kv;try with_reducible refine Bv ?_
 first|refine Ac (As ?_)|skip
 refine Ac (Ib a.typeIs (by decide) ?_);refine Ac (Cw (name:=Bk "__getitem__") a.typeIs Er
  (Eo Er a.typeIs entry_tuple_getitem ?_ (args_tuple_getitem _ _)))
 show Sg _ _ (Jv (.ref t)>>=_) _ _ s;refine Ac (tupleItemsOf_ a ?_);refine Ac (Ka g ?_);rw[if_pos (by decide)];refine Ac (UO k l pu ?_);have e:¬((((sIx items.size 0 lo:Nat):Int)==0&&(1:Int)==1&&(sIx items.size items.size hi-sIx items.size 0 lo)==items.size)=b5):=by intro q;rw[Ag,Ag]at q;have q1:((sIx items.size 0 lo:Nat):Int)=0:=eq_of_beq q.1.1;have q2:sIx items.size items.size hi-sIx items.size 0 lo=items.size:=eq_of_beq q.2;exact hw ⟨by lia,by lia⟩
 show Sg _ _ (if(((sIx items.size 0 lo:Nat):Int)==0&&(1:Int)==1&&(sIx items.size items.size hi-sIx items.size 0 lo)==items.size)=b5 then _ else _) _ _ s;rw[if_neg e,fY]
 first
  |exact Ac (m:=Fs _) (Ds (As ⟨_,rfl,As h⟩) b)
  |exact Ac (m:=Fs _) (Ds (Ac (As (As ⟨_,rfl,As h⟩))) b)
  |exact Ac (Ac (m:=Fs _) (Ds (As (As ⟨_,rfl,As h⟩)) b))
  |exact Ac (Ac (m:=Fs _) (Ds (As ⟨_,rfl,As h⟩) b))
end
end HT
namespace L2
open PySem PySem.Spec PyProof.Rows
abbrev TO:=St->Hp->(Option Int->Hp->Prop)->Prop
def PO(X:Cx)(e:Option Sj)(t:TO):Prop:=
 ∀(aa:List (Sf×Sr)) (s:Ah) (σ:St) (H:Hp) (Q:Option Int->Hp->Prop),bP X aa σ H s->t σ H Q->
  Sg (Sk X.prog X.w) X.A (evalPart e X.env) (λu s'=>∃o H',bP X aa σ H' s'/\IsPart u o/\Q o H') X.xe s
def ju:TO:=λ_ H Q=>Q b3 H
def eK(t:TE):TO:=λσ H Q=>t σ H λx H1=>∃i,x=.int i/\Q (b0 i) H1
section
variable{X:Cx}{e:Sj}{te:TE}{lo hi:Option Sj}{tl th:TO}{pos p2:Pos}
def zG3:PO X b3 ju:=by intro aa s σ H Q I h;rw[Nj];exact As ⟨b3,H,I,.none,h⟩
def mj(h:PE X e te):PO X (b0 e) (eK te):=by intro aa s σ H Q I hw;rw[evalPart_some];refine Y7 (h aa s σ H _ I hw) λu s1 ⟨x,H1,b,a,q1⟩=>?_;obtain⟨i,rfl,q⟩:=q1;obtain⟨t,rfl⟩:=a;exact⟨b0 i,H1,b,.int i t,q⟩
def SlR(X:Cx)(r:V->Option Int->Option Int->Hp->VK->Prop):Prop:=
 ∀(aa:List (Sf×Sr)) (s:Ah) (σ:St) (H:Hp) (x:V) (v b a:Se) (lo hi:Option Int) (c:Sf) (Q:VK),bP X aa σ H s->aW x v->s.heap.IsSliceOf c b a .none->IsPart b lo->IsPart a hi->r x lo hi H Q->
  ∃T id,typeLookup (.type T) "__getitem__"=pure (b0 (.builtin id))/\s.TypeIs v T/\Sg (Sk X.prog X.w) X.A (Kv v (.ref c)) (EP X aa σ Q) X.xe s
def SlR.or{r r':V->Option Int->Option Int->Hp->VK->Prop}(h:SlR X r)(h':SlR X r'):SlR X (λx lo hi H Q=>r x lo hi H Q∨r' x lo hi H Q):=by
 intro aa s σ H x v b a lo hi c Q I d f e pu q;rcases q with q|q
 ·exact h aa s σ H x v b a lo hi c Q I d f e pu q
 ·exact h' aa s σ H x v b a lo hi c Q I d f e pu q
def tSl(r:V->Option Int->Option Int->Hp->VK->Prop)(te:TE)(tl th:TO):TE:=λσ H Q=>te σ H λx H1=>tl σ H1 λl H2=>th σ H2 λu a=>r x l u a Q
def k8{r:V->Option Int->Option Int->Hp->VK->Prop}(n:SlR X r)(p:PE X e te)(hl:PO X lo tl)(k:PO X hi th):PE X (.Subscript e (.Slice lo hi b3 p2) pos) (tSl r te tl th):=by intro aa s σ H Q I h;refine Subscript_ (Y7 (p aa s σ H _ I h) λv s1 ⟨x,H1,C,i,q1⟩=>?_);refine wpAny_Slice (Y7 (hl aa s1 σ H1 _ C q1) λd g ⟨l,H2,B,j,q2⟩=>Y7 (k aa g σ H2 _ B q2) λc a ⟨u,f,z,pu,q3⟩=>?_);rw[Nj];refine As ?_;have y:bP X aa σ f {a with heap:=a.heap.push {cls:=.type "slice",data:=.fields #[d,c,.none]}}:=z.kept (t':=a.toks) λb D q=>Ad _ q;obtain⟨T,id,t,m,o⟩:=n aa {a with heap:=a.heap.push {cls:=.type "slice",data:=.fields #[d,c,.none]}} σ f x v d c l u a.heap.objs.size Q y i (Sb ..) j pu q3;show Sg (Sk X.prog X.w) X.A (subscriptTail e (.Slice lo hi b3 p2) v (.ref a.heap.objs.size)) (EP X aa σ Q) X.xe {a with heap:=a.heap.push {cls:=.type "slice",data:=.fields #[d,c,.none]}};exact Rk (ops:=[.ref a.heap.objs.size,v]) m t o (by with_unfolding_all rfl)
def EF(xs:List V)(lo hi:Option Int):List V:=(xs.drop (HT.sIx xs.length 0 lo)).take (HT.sIx xs.length xs.length hi-HT.sIx xs.length 0 lo)
def M6(xs:List V)(lo hi:Option Int):(EF xs lo hi).length<=xs.length:=by unfold EF;rw[Ct,Pd];lia
def rSlT(K:Ao):V->Option Int->Option Int->Hp->VK->Prop:=λx lo hi H Q=>∃a xs,x=.ref a/\UV K H a xs∧
 ¬(HT.sIx xs.length 0 lo=0/\HT.sIx xs.length xs.length hi=xs.length)/\∀p,H p=b3->Q (.ref p) (aG H p (.tup (EF xs lo hi)))
def zJ7:SlR X (rSlT X.K):=by
 intro aa s σ H x v k j lo hi l Q I e i f pu h;obtain⟨a,xs,rfl,g,hw,q⟩:=h;cases e;obtain⟨its,r,d,hz⟩:=I.tuple g;have c:its.toArray.size=xs.length:=by rw[Aq];exact r.length.symm
 refine⟨"tuple",_,PyProof.Rows.slot_tuple_getitem.lookup,d.typeIs,?_⟩;refine HT.OP d i f pu (by rw[c];exact hw) ?_ (by rw[c];exact hz);rw[c];refine⟨.ref s.heap.objs.size,_,I.laid (t':=s.toks) (o:=.tup (EF xs lo hi)) (λb m q=>Ad _ q) (Au _) ?_,rfl,q _ (I.hok.fresh (Au _))⟩;exact⟨Fc (M6 xs lo hi) hz,_,(r.drop (HT.sIx xs.length 0 lo)).take (HT.sIx xs.length xs.length hi-HT.sIx xs.length 0 lo),Kh _ _⟩
def a7.nil_iff{xs:List V}{us:List Se}(r:a7 xs us):us=[]↔xs=[]:=by
 cases r with
 |nil=>simp
 |cons _ _=>simp
end
noncomputable def K4(n:Nat)(i:Int):Option Nat:=if 0<=i then(if i<n then b0 i.toNat else b3)else if -(n:Int)<=i then b0 (i+n).toNat else b3
def VC{α:Type}(xs:List α)(i:Int):Option α:=(K4 xs.length i).bind λj=>xs[j]?
def HF{n:Nat}{i:Int}{j:Nat}(h:K4 n i=b0 j):seqIndex? i n=b0 j/\j<n/\ -(n:Int)<=i/\i<n:=by
 unfold K4 at h;by_cases a:0<=i
 ·rw[if_pos a]at h
  by_cases h1:i<n
  ·rw[if_pos h1]at h
   have e:i.toNat=j:=Bu h;exact⟨by rw[Mw a h1,e],by lia,by lia,h1⟩
  ·rw[if_neg h1]at h;cases h
 ·rw[if_neg a]at h
  by_cases h1: -(n:Int)<=i
  ·rw[if_pos h1]at h
   have e:(i+n).toNat=j:=Bu h;exact⟨by rw[Lv (by lia) h1,e],by lia,h1,by lia⟩
  ·rw[if_neg h1]at h;cases h
def GL{α:Type}{xs:List α}{i:Int}{v:α}(h:VC xs i=b0 v):∃j,seqIndex? i xs.length=b0 j/\xs[j]?=b0 v/\j<xs.length/\ -(xs.length:Int)<=i/\i<xs.length:=by
 unfold VC at h;cases e:K4 xs.length i with
 |none=>rw[e]at h;cases h
 |some j=>
  rw[e]at h;obtain⟨h1,h2,b,a⟩:=HF e;exact⟨j,h1,h,h2,b,a⟩
def OH{α:Type}(xs:List α)(v:α):VC (xs++[v]) (-1)=b0 v:=by
 have hl:(xs++[v]).length=xs.length+1:=by simp
 have e:K4 (xs++[v]).length (-1)=b0 xs.length:=by unfold K4;rw[hl,if_neg (by decide),if_pos (by lia)];congr 1;lia
 unfold VC;rw[e];show(xs++[v])[xs.length]?=b0 v;simp
def V5(b:Sj):Prop:=∀o i,subscripted b ba o i=operate [o,i] (Kv o i)
def IxR(X:Cx)(r:R2):Prop:=
 ∀(value a:Sj) (aa:List (Sf×Sr)) (s:Ah) (σ:St) (H:Hp) (x y:V) (v u:Se) (Q:VK),bP X aa σ H s->aW x v->aW y u->r x y H Q->
  subscripted a ba v u=operate [v,u] (Kv v u)->Sg (Sk X.prog X.w) X.A (subscriptTail value a v u) (EP X aa σ Q) X.xe s
def MtR(X:Cx)(id:String)(r:V->List V->Hp->VK->Prop):Prop:=
 ∀(aa:List (Sf×Sr)) (s:Ah) (σ:St) (H:Hp) (x:V) (xs:List V) (v:Se) (us:List Se) (Q:VK),bP X aa σ H s->aW x v->a7 xs us->r x xs H Q->
  Sg (Sk X.prog X.w) X.A (call (.builtin id) (v::us)) (EP X aa σ Q) X.xe s
section
variable{X:Cx}{a b:Sj}{ta tb:TE}{pos:Pos}
def IxR.or{r r':R2}(h:IxR X r)(h':IxR X r'):IxR X (λx y H Q=>r x y H Q∨r' x y H Q):=by
 intro value a aa s σ H x y v u Q I c b q d;rcases q with q|q
 ·exact h value a aa s σ H x y v u Q I c b q d
 ·exact h' value a aa s σ H x y v u Q I c b q d
def LI{r:R2}(g:IxR X r)(j:PE X a ta)(i:PE X b tb)(f:V5 b):PE X (.Subscript a b pos) (tOp r ta tb):=by intro aa s σ H Q I h;exact Subscript_ (binT j i I h λv u c x y H2 k e d q=>g a b aa c σ H2 x y v u Q k e d q (f _ _))
def rIxL(K:Ao):R2:=λx y H Q=>∃p xs i v,x=.ref p/\y=.int i/\W7 K H p xs/\VC xs i=b0 v/\Q v H
def rIxT(K:Ao):R2:=λx y H Q=>∃p xs i v,x=.ref p/\y=.int i/\UV K H p xs/\VC xs i=b0 v/\Q v H
def rIxS:R2:=λx y H Q=>∃z i c,x=.str z/\y=.int i/\z.length<=sizeLine/\VC z.cps.toList i=b0 c/\Q (.str ⟨#[c]⟩) H
def AR:IxR X (rIxL X.K):=by
 intro value b aa s σ H x y v u Q I m l h f;obtain⟨p,xs,i,z,rfl,rfl,n,o,q⟩:=h;cases m;obtain⟨t,rfl⟩:=l;obtain⟨its,r,d,hz⟩:=I.list n;obtain⟨j,h1,h2,D,B,A⟩:=GL o;obtain⟨w,k,c⟩:=r.get h2;have hl:=r.length;have C:=QG;have a:EP X aa σ Q w s:=⟨z,H,I,c,q⟩;by_cases g:0<=i
 ·have e:i.toNat=j:=by rw[Mw g A]at h1;exact Bu h1
  exact item_listR d.isList g (by lia) (by rw[e];simpa using k) a f
 ·have e:(i+(its.toArray.size:Int)).toNat=j:=by rw[Lv (by lia) B]at h1;rw[Aq,<- hl];exact Bu h1
  exact Lj (x:=w) d.isList.typeIs slot_list_getitem.lookup
   (wpAny_getItem_list_neg (Q:=λr s'=>r=w/\EP X aa σ Q r s') d.isList (by lia) (by rw[Aq]<;>lia) (by lia) (by rw[e];simpa using k) ⟨rfl,a⟩) f
def zKL:IxR X (rIxT X.K):=by
 intro value a aa s σ H x y v u Q I f e h g;obtain⟨p,xs,i,z,rfl,rfl,k,l,q⟩:=h;cases f;obtain⟨t,rfl⟩:=e;obtain⟨its,r,d,hz⟩:=I.tuple k;obtain⟨j,h1,h2,B,A,o⟩:=GL l;obtain⟨w,m,b⟩:=r.get h2;have hl:=r.length;have n:=QG;have c:EP X aa σ Q w s:=⟨z,H,I,b,q⟩;exact Lj (x:=w) d.typeIs slot_tuple_getitem.lookup
  (getItem_tuple (j:=j) (Q:=λr s'=>r=w/\EP X aa σ Q r s') d (by lia) (by lia) (by rw[Aq,<-hl];exact h1) (by simpa using m) ⟨rfl,c⟩) g
def iA:IxR X rIxS:=by
 intro value a aa s σ H x y v u Q I d b h e;obtain⟨z,i,c,rfl,rfl,hz,f,q⟩:=h;obtain⟨t,rfl⟩:=d;obtain⟨t',rfl⟩:=b;obtain⟨j,h1,h2,o,k,g⟩:=GL f;have hl:z.cps.toList.length=z.length:=by simp[Str.length]
 rw[hl]at h1 k g;have n:=QG;exact Rk (typeIs_str s z t) slot_str_getitem.lookup (getItem_str (c:=c) (by have m:decide (i< -(2 ^ 63:Int))=ba:=decide_eq_false (by lia);have l:decide (i≥2 ^ 63)=ba:=decide_eq_false (by lia);rw[m,l,Bool.or_false]) (by rw[h1];simpa using h2) ⟨.str ⟨#[c]⟩,H,I.tok _,⟨_,rfl⟩,q⟩) e
def rIx(K:Ao):R2:=λx y H Q=>rIxL K x y H Q∨rIxT K x y H Q∨rIxS x y H Q
def zKN:IxR X (rIx X.K):=AR.or (zKL.or iA)
def K9(its:List Se)(n j:Nat)(u:Se):Df (·.setIfInBounds j u) {cls:=.type "list",data:=.seq its.toArray n}={cls:=.type "list",data:=.seq (its.set j u).toArray n}:=by simp[Df]
def bP.lst{aa:List (Sf×Sr)}{σ:St}{H:Hp}{s:Ah}{p:Sf}{xs:List V}(I:bP X aa σ H s)(h:H p=b0 (.lst xs)):∃(its:List Se) (n:Nat),a7 xs its/\s.heap.get? p=b0 {cls:=.type "list",data:=.seq its.toArray n}/\xs.length<=sizeLine:=by obtain⟨z,its,n,r,e⟩:=I.hok p _ h;exact⟨its,n,r,e,z⟩
def bP.lstUpd{aa:List (Sf×Sr)}{σ:St}{H:Hp}{s:Ah}{p:Sf}{xs ys:List V}{its its':List Se}{n n':Nat}{f:Sr->Sr}(I:bP X aa σ H s)(h:H p=b0 (.lst xs))(c:s.heap.get? p=b0 {cls:=.type "list",data:=.seq its.toArray n})(a:f {cls:=.type "list",data:=.seq its.toArray n}={cls:=.type "list",data:=.seq its'.toArray n'})(r:a7 ys its')(hz:ys.length<=sizeLine)(t:Nat):bP X aa σ (aG H p (.lst ys)) {s with heap:=s.heap.update p f,toks:=t}:=by
 have e:(s.heap.update p f).get? p=b0 {cls:=.type "list",data:=.seq its'.toArray n'}:=by rw[Gh f c (by rw[a]<;>rfl),a]
 refine I.write (x:=p) (e:=p) (by rw[h];trivial) (.inl rfl) (λb u d q=>(Dv _ _ (Dj d)).trans q) ⟨_,e⟩ ?_;exact⟨hz,its',n',r,e⟩
def mf:V->V->V->Hp->(Hp->Prop)->Prop:=λo i v H Q=>∃p xs k j,o=.ref p/\i=.int k/\H p=b0 (.lst xs)/\K4 xs.length k=b0 j/\Q (aG H p (.lst (xs.set j v)))
def m6:PSet X mf:=by
 intro aa s σ H o i v x y u Q I l m g h;obtain⟨p,xs,k,j,rfl,rfl,b,w,q⟩:=h;cases l;obtain⟨t,rfl⟩:=m;obtain⟨its,n,r,a,hz⟩:=I.lst b;obtain⟨h1,h2,d,c⟩:=HF w;have hl:=r.length;have z:=QG;have f:bP X aa σ (aG H p (.lst (xs.set j v))) {s with heap:=s.heap.update p (Df (·.setIfInBounds j u))}:=
  I.lstUpd b a (K9 its n j u) (r.set g j) (by rw[Cf];exact hz) s.toks
 by_cases e:0<=k
 ·have hk:k.toNat=j:=by rw[Mw e c]at h1;exact Bu h1
  exact W.ki_setAt a e (by lia) (by rw[Aq,<-hl];exact c) (by rw[hk];exact⟨_,f,q⟩)
 ·have hk:(k+(its.toArray.size:Int)).toNat=j:=by rw[Lv (by lia) d]at h1;rw[Aq,<- hl];exact Bu h1
  exact W.ki_setBack a (by lia) (by rw[Aq,<-hl];exact d) (by lia) (by rw[hk];exact⟨_,f,q⟩)
def HS(lo hi:Option Int)(n:Nat):(Hb lo hi b3 n).1=((HT.sIx n 0 lo:Nat):Int)/\(Hb lo hi b3 n).2.1=((HT.sIx n n hi:Nat):Int)/\(Hb lo hi b3 n).2.2=1:=by
 refine⟨?_,?_,rfl⟩
 ·cases lo with
  |none=>simp[Hb,HT.sIx]
  |some i=>
   simp only[Hb,HT.sIx,Pe,show(1:Int)>0 by decide,if_true];by_cases h:i<0
   ·simp only[h,if_true]<;>lia
   ·simp only[h,if_false]<;>lia
 ·cases hi with
  |none=>simp[Hb,HT.sIx]
  |some i=>
   simp only[Hb,HT.sIx,Pe,show(1:Int)>0 by decide,if_true];by_cases h:i<0
   ·simp only[h,if_true]<;>lia
   ·simp only[h,if_false]<;>lia
def KC(its:List Se)(lo hi:Option Int):slicePick its.toArray lo hi b3=((its.drop (HT.sIx its.length 0 lo)).take (HT.sIx its.length its.length hi-HT.sIx its.length 0 lo)).toArray:=by obtain⟨h1,h2,a⟩:=HS lo hi its.toArray.size;unfold slicePick;rw[h1,h2,a];simp only[sliceRange_one,pick_run,Aq]<;>rfl
def rSlL(K:Ao):V->Option Int->Option Int->Hp->VK->Prop:=λx lo hi H Q=>∃a xs,x=.ref a/\W7 K H a xs/\∀p,H p=b3->Q (.ref p) (aG H p (.lst (EF xs lo hi)))
def kZ:SlR X (rSlL X.K):=by intro aa s σ H x v k j lo hi l Q I d g e pu h;obtain⟨a,xs,rfl,f,q⟩:=h;cases d;obtain⟨its,r,c,hz⟩:=I.list f;have i:=r.length;refine⟨"list",_,slot_list_getitem.lookup,c.isList.typeIs,?_⟩;refine wpAny_getItem_list_slice c.isList g e pu .none (by simp) ?_ (by rw[Aq]<;>lia);rw[KC,<-i];refine⟨.ref s.heap.objs.size,_,I.laid (t':=s.toks) (o:=.lst (EF xs lo hi)) (λb m q=>Ad _ q) (Au _) ?_,rfl,q _ (I.hok.fresh (Au _))⟩;exact⟨Fc (M6 xs lo hi) hz,_,0,(r.drop (HT.sIx xs.length 0 lo)).take (HT.sIx xs.length xs.length hi-HT.sIx xs.length 0 lo),Ax _ rfl⟩
def GV:Z2 X (.builtin "len") (λxs H Q=>∃p ys,xs=[.ref p]/\(W7 X.K H p ys∨UV X.K H p ys)/\Q (.int ys.length) H):=by
 intro aa s σ H xs us Q I r h;obtain⟨p,ys,rfl,a,q⟩:=h;obtain⟨u,rfl,d⟩:=UR r;cases d;have e:=QG;rcases a with a|a
 ·obtain⟨its,r',b,hz⟩:=I.list a
  have c:=r'.length;exact Calls.call_len_list b.isList (by simp only[Aq]<;>lia) ⟨.int ys.length,H,I.tok _,⟨s.toks+1,by rw[Aq,c]⟩,q⟩
 ·obtain⟨its,r',b,hz⟩:=I.tuple a
  have c:=r'.length;exact len_tuple b (by simp only[Aq]<;>lia) ⟨.int ys.length,H,I.tok _,⟨s.toks+1,by rw[Aq,c]⟩,q⟩
def GW:Z2 X (.builtin "len") (λxs H Q=>∃z,xs=[.str z]/\z.length<=sizeLine/\Q (.int z.length) H):=by intro aa s σ H xs us Q I r h;obtain⟨z,rfl,hz,q⟩:=h;obtain⟨u,rfl,t,rfl⟩:=UR r;have a:=QG;exact len_str (by lia) ⟨.int z.length,H,I.tok _,⟨_,rfl⟩,q⟩
def Z2.or{f:Se}{r r':List V->Hp->VK->Prop}(h:Z2 X f r)(h':Z2 X f r'):Z2 X f (λxs H Q=>r xs H Q∨r' xs H Q):=by
 intro aa s σ H xs us Q I rs q;rcases q with q|q
 ·exact h aa s σ H xs us Q I rs q
 ·exact h' aa s σ H xs us Q I rs q
def GX:Z2 X (.type "list") (λxs H Q=>∃p ys,xs=[.ref p]/\(W7 X.K H p ys∨UV X.K H p ys)/\∀l,H l=b3->Q (.ref l) (aG H l (.lst ys))):=by
 intro aa s σ H xs us Q I r h;obtain⟨p,ys,rfl,c,q⟩:=h;obtain⟨u,rfl,i⟩:=UR r;cases i;have d:∀(its:List Se),a7 ys its->ys.length<=sizeLine->∀(h':Sq) (a:Nat),(∀b o',s.heap.get? b=b0 o'->h'.get? b=b0 o')->
   h'.get? s.heap.objs.size=b0 {cls:=.type "list",dict:=b3,data:=.seq its.toArray a,slots:= #[]}->EP X aa σ Q (.ref s.heap.objs.size) {s with heap:=h'}:=λits r' hz h' a kp e=>
  ⟨.ref s.heap.objs.size,_,I.laid (t':=s.toks) kp (Au _) (show ZJ X.prog X.w _ h' _ (.lst ys) from⟨hz,its,a,r',e⟩),rfl,q _ (I.hok.fresh (Au _))⟩
 rcases c with c|c
 ·obtain⟨its,r',f,hz⟩:=I.list c
  have j:=r'.length;obtain⟨o,g,hc,n,hd⟩:=f.isList;exact call_list_seq p (.inl rfl) g hc hd (λh' a kp e=>d its r' hz h' a kp e) (by simp only[Aq]<;>lia)
 ·obtain⟨its,r',f,hz⟩:=I.tuple c
  have j:=r'.length;obtain⟨o,g,hc,n,hd⟩:=f;exact call_list_seq p (.inr rfl) g hc hd (λh' a kp e=>d its r' hz h' a kp e) (by simp only[Aq]<;>lia)
def J9:Z2 X (.type "tuple") (λxs H Q=>∃p ys,xs=[.ref p]/\((W7 X.K H p ys/\∀l,H l=b3->Q (.ref l) (aG H l (.tup ys)))∨(UV X.K H p ys/\Q (.ref p) H))):=by
 intro aa s σ H xs us Q I r h;obtain⟨p,ys,rfl,h⟩:=h;obtain⟨u,rfl,f⟩:=UR r;cases f;rcases h with⟨c,q⟩|⟨c,q⟩
 ·obtain⟨its,r',a,hz⟩:=I.list c
  have i:=r'.length;refine call_tuple_list a.isList (λh' kp=>?_) (by simp only[Aq]<;>lia);have d:bP X aa σ H {s with heap:=h'}:=I.kept (t':=s.toks) kp;have g:bP X aa σ (aG H h'.objs.size (.tup ys)) {s with heap:=h'.push {cls:=.type "tuple",data:=.seq its.toArray}}:=
   d.laid (t':=s.toks) (λb o e=>Ad _ e) (Au _) (show ZJ X.prog X.w _ _ _ (.tup ys) from⟨hz,its,r',Kh _ _⟩)
  exact⟨.ref h'.objs.size,_,g,rfl,q _ (d.hok.fresh (Au _))⟩
 ·obtain⟨its,r',a,hz⟩:=I.tuple c
  exact call_tuple_same a ⟨.ref p,H,I,rfl,q⟩
def tyV(K:Ao)(T:String)(x:V)(H:Hp):Prop:=match x with
 |.str _=>T= "str"
 |.int _=>T= "int"
 | .ref p => (T = "list" /\ ∃ xs,W7 K H p xs) ∨ (T = "tuple" /\ ∃ o,K.lookup p = b0 o /\ o.cls = .type "tuple" /\ o.dict = b3) ∨
   (T= "dict" /\((∃kvs,H p=b0 (.dK kvs))∨∃kvs,H p=b0 (.dT kvs)))∨(T= "set" /\∃S n,H p=b0 (.set S n))
 |_=>False
def Yx{aa:List (Sf×Sr)}{σ:St}{H:Hp}{s:Ah}{T:String}{x:V}{v:Se}(I:bP X aa σ H s)(r:aW x v)(ty:tyV X.K T x H):s.TypeIs v T/\∀a,v=.ref a->∃f,s.heap.get? a=b0 f/\f.dict=b3:=by
 cases x with
 |str z=>
  obtain⟨t,rfl⟩:=r;cases (show T= "str" from ty);exact⟨typeIs_str s z t,λ_ e=>nomatch e⟩
 |int i=>
  obtain⟨t,rfl⟩:=r;cases (show T= "int" from ty);exact⟨Rf s i t,λ_ e=>nomatch e⟩
 |ref p=>
  cases r;rcases ty with⟨rfl,xs,g⟩|⟨rfl,o,hk,hc,hd⟩|⟨rfl,hk⟩|⟨rfl,S,n,hk⟩
  ·obtain⟨its,_,d,_⟩:=I.list g
   refine⟨d.isList.typeIs,λa e=>?_⟩;cases e;obtain⟨o,n,e,c,hd,_⟩:=d;exact⟨o,e,hd⟩
  ·refine ⟨⟨o,I.kIn p o hk,hc⟩,λa e => ?_⟩
   cases e;exact⟨o,I.kIn _ o hk,hd⟩
  ·have z: ∃o,s.heap.get? p=b0 o/\o.ExactDict:=by
    rcases hk with⟨kvs,hk⟩|⟨kvs,hk⟩
    ·obtain⟨_,_,_,_,o,_,_,e,ex,_⟩:=I.hok p _ hk
     exact⟨o,e,ex⟩
    ·obtain⟨_,_,_,_,o,_,_,e,ex,_⟩:=I.hok p _ hk
     exact⟨o,e,ex⟩
   obtain⟨o,e,ex⟩:=z;refine⟨⟨o,e,ex.1⟩,λa b=>?_⟩;cases b;exact⟨o,e,ex.2.1⟩
  ·obtain⟨o,_,_,_,e,ex,_⟩:=I.hok p _ hk
   refine⟨⟨o,e,ex.1⟩,λa b=>?_⟩;cases b;exact⟨o,e,ex.2.1⟩
 |_=>exact Go ty
def tBM(K:Ao)(T:String)(r:V->List V->Hp->VK->Prop)(to:TE)(t:TA):TE:=λσ H Q=>to σ H λx H1=>tyV K T x H1/\t σ H1 λxs H2=>r x xs H2 Q
variable{o e:Sj}{es:List Sj}{to:TE}{t:TA}{name:Si}{ak ae:Pos}{T id:String}{r:V->List V->Hp->VK->Prop}
def kx(pa:PlainAttrs T)(slot:Slot T name id)(a:typeOf (.builtin id)=pure (.type "method_descriptor"))(k:MtR X id r)(j:PE X o to)(l:PA X (e::es) t)(n:Gq o name X.env (eval o X.env)=eval o X.env:=by rfl)(m:((Ex ae (Bb (e::es) X.env)).all (λx=> !x.1)&&(Mg ae (Ic [] X.env)).all (λx=>x.1.isSome)&&decide ((e::es).length+([]:List Ie).length+(if([]:List Ie).isEmpty then 0 else 1)<30))=b5:=by rfl)(p:(ak.endLine==ae.line)=b5:=by rfl)(i:Bb (e::es) X.env=(ba,eval e X.env)::Bb es X.env:=by rfl)(q:(Ex ae (Bb es X.env)).any (·.1)=ba:=by rfl):PE X (.Call (.Attribute o name ak) (e::es) [] ae) (tBM X.K T r to t):=by intro aa s σ H Q I h;refine wpAny_Call_method_late n m p rfl (Y7 (j aa s σ H _ I h) λv s1 ⟨x,H1,d,b,ty,q1⟩=>?_);obtain⟨h1,h2⟩:=Yx d b ty;refine⟨T,id,pa,slot,a,h1,h2,?_⟩;have c:=l ae aa s1 σ H1 _ d q1;rw[i]at c⊢;refine Gd (by show(ba || (Ex ae (Bb es X.env)).any (·.1))=ba;rw[q]<;>rfl) (Gs ?_);exact Y7 c λus f ⟨vs,H2,u,g,q2⟩=>k aa f σ H2 x vs v us Q u b g q2
end
def MtM(X:Cx)(id:String)(r:V->List V->Hp->VK->Prop):Prop:=
 ∀(aa:List (Sf×Sr)) (s:Ah) (σ:St) (H:Hp) (x:V) (xs:List V) (v:Se) (us:List Se) (Q:VK),bP X aa σ H s->aW x v->a7 xs us->r x xs H Q->
  Sg (Sk X.prog X.w) X.A (call (.builtin id) (v::us)) (EP X aa σ Q) X.xe s
theorem a7.one:∀{x:V}{us:List Se},a7 [x] us->∃u,us=[u]/\aW x u
 |_,_,.cons r .nil=>⟨_,rfl,r⟩
theorem a7.eraseIdx:∀{xs:List V}{us:List Se}(i:Nat),a7 xs us->a7 (xs.eraseIdx i) (us.eraseIdx i)
 |_,_,_,.nil=>.nil
 |_,_,0,.cons _ t=>t
 |_,_,i+1,.cons r t=>.cons r (a7.eraseIdx i t)
section
variable{X:Cx}{aa:List (Sf×Sr)}{σ:St}{H:Hp}{s:Ah}{l b:Sf}{xs ys zs:List V}
def bP.lset{its its':List Se}{n:Nat}{f:Array Se->Array Se}{t':Nat}(I:bP X aa σ H s)(g:H l=b0 (.lst xs))(e:s.heap.get? l=b0 {cls:=.type "list",data:=.seq its.toArray n})(c:f its.toArray=its'.toArray)(a:a7 ys its')(hz:ys.length<=sizeLine):bP X aa σ (aG H l (.lst ys)) {s with heap:=s.heap.update l (Df f),toks:=t'}:=by have q:=PySem.IsL.update e f;rw[c]at q;refine I.write (x:=l) (e:=l) (by rw[g];exact trivial) (.inl rfl) (λh u d b=>(Dv s.heap (Df f) (Dj d)).trans b) ⟨_,q⟩ ?_;exact⟨hz,its',_,a,q⟩
def bP.lnew{its:List Se}{t':Nat}(I:bP X aa σ H s)(a:a7 ys its)(hz:ys.length<=sizeLine):bP X aa σ (aG H s.heap.objs.size (.lst ys)) {s with heap:=s.heap.push {cls:=.type "list",data:=.seq its.toArray},toks:=t'}:=
 I.laid (λ_ _ q=>Ad _ q) (Au _) ⟨hz,its,0,a,Ax _ rfl⟩
def bP.fresh(I:bP X aa σ H s):H s.heap.objs.size=b3:=I.hok.fresh (Au _)
def bP.lstM(I:bP X aa σ H s)(a:H l=b0 (.lst xs)):xs.length<=sizeLine/\∃(its:List Se) (n:Nat),a7 xs its/\xs.length=its.length/\s.heap.get? l=b0 {cls:=.type "list",data:=.seq its.toArray n}:=by obtain⟨z,its,n,r,e⟩:=I.hok l _ a;exact⟨z,its,n,r,r.length,e⟩
def mJ{n:Nat}(h:n<=sizeLine):Dz n=ba:=by unfold Dz;exact decide_eq_false (by lia)
end
section
variable{X:Cx}
def BG:V->List V->Hp->VK->Prop:=λx vs H Q=>∃l xs y,x=.ref l/\vs=[y]/\H l=b0 (.lst xs)/\xs.length<sizeLine/\Q .non (aG H l (.lst (xs++[y])))
def aH:MtM X "list.append" BG:=by intro aa s σ H x vs v us Q I b c h;obtain⟨l,xs,y,rfl,rfl,a,hz,q⟩:=h;cases b;obtain⟨u,rfl,d⟩:=c.one;obtain⟨z,its,n,r,hl,e⟩:=I.lstM a;refine He Nk ⟨_,e,rfl⟩ Mx (Mi _ _) (Ob l its.toArray n u (by rw[Aq];lia)) ⟨e,?_⟩;refine⟨.non,_,I.lset (its':=its++[u]) a e (by simp) (r.append (.cons d .nil)) ?_,rfl,q⟩;rw[Ay,Bp];lia
end
section
variable{prog:Bh}{w:Sm}{A:Dh}{E:Se->Ah->Prop}{s:Ah}
set_option maxRecDepth 100000 in
end
section
variable{κ:Type}[DecidableEq κ]
noncomputable def QY(kvs:List (κ×V))(k:κ):Option V:=(kvs.find? λa=>decide (a.1=k)).map (·.2)
noncomputable def W0(kvs:List (κ×V))(k:κ)(v:V):List (κ×V):=
 if(kvs.any λa=>decide (a.1=k))=b5 then kvs.map (λa=>if a.1=k then(a.1,v)else a)else kvs++[(k,v)]
def PK{p:κ×V}{r:List (κ×V)}{k:κ}(e:p.1=k):QY (p::r) k=b0 p.2:=by simp[QY,Gi,e]
def SX{p:κ×V}{r:List (κ×V)}{k:κ}(e:¬p.1=k):QY (p::r) k=QY r k:=by simp[QY,Gi,e]
theorem L5(k:κ):∀kvs:List (κ×V),(kvs.any λa=>decide (a.1=k))=(QY kvs k).isSome
 |[]=>rfl
 |p::r=>by
  rw[Iz];by_cases e:p.1=k
  ·simp only[PK e,decide_eq_true e,Bool.true_or,Nl]
  ·rw[SX e,decide_eq_false e,Rl];exact L5 k r
def SJ(kvs:List (κ×V))(k:κ)(v:V):(W0 kvs k v).length<=kvs.length+1:=by
 unfold W0;split
 ·rw[Ce];lia
 ·rw[Ay,Bg,Gj];lia
def Yr{kvs:List (κ×V)}{k:κ}(v:V)(h:QY kvs k=b3):W0 kvs k v=kvs++[(k,v)]:=by unfold W0;rw[L5,h];exact if_neg (by decide)
def MR.isSome_eq{o:Option V}{u:Option Se}(r:MR o u):o.isSome=u.isSome:=by
 cases o with
 |none=>cases u with
  |none=>rfl
  |some _=>exact(show False from r).elim
 |some _=>cases u with
  |none=>exact(show False from r).elim
  |some _=>rfl
def MR.getD{o:Option V}{u:Option Se}{d:V}{d':Se}(r:MR o u)(a:aW d d'):aW (o.getD d) (u.getD d'):=by
 cases o with
 |none=>cases u with
  |none=>exact a
  |some _=>exact(show False from r).elim
 |some _=>cases u with
  |none=>exact(show False from r).elim
  |some _=>exact r
def KV.val{kvs:List (κ×V)}{vs:List (κ×Se)}(r:KV kvs vs)(k:κ):MR (QY kvs k) (Od vs k):=by
 unfold KV at r;induction r with
 |nil=>exact True.intro
 | @cons p q ps qs h t c=>
  obtain⟨h1,h2⟩:=h;by_cases e:p.1=k
  ·have a:q.1=k:=h1.symm.trans e
   have b:Od (q::qs) k=b0 q.2:=by simp[Od,Gi,a]
   rw[PK e,b];exact h2
  ·have a : ¬ q.1 = k := λz => e (h1.trans z)
   have b:Od (q::qs) k=Od qs k:=by simp[Od,Gi,a]
   rw[SX e,b];exact c
def KV.any{kvs:List (κ×V)}{vs:List (κ×Se)}(r:KV kvs vs)(k:κ):(kvs.any λa=>decide (a.1=k))=vs.any λa=>decide (a.1=k):=by
 unfold KV at r;induction r with
 |nil=>rfl
 |cons h t b=>rw[Iz,Iz,b,h.1]
def KV.repl{kvs:List (κ×V)}{vs:List (κ×Se)}(r:KV kvs vs)(k:κ){y:V}{u:Se}(b:aW y u):KV (kvs.map λa=>if a.1=k then(a.1,y)else a) (vs.map λa=>if a.1=k then(a.1,u)else a):=by
 unfold KV at r⊢;induction r with
 |nil=>exact .nil
 | @cons p q ps qs h t c=>
  rw[Ba,Ba];refine .cons ?_ c;obtain⟨h1,h2⟩:=h;by_cases e:p.1=k
  ·rw[if_pos e,if_pos (h1.symm.trans e)];exact⟨h1,b⟩
  ·rw[if_neg e,if_neg (λz=>e (h1.trans z))];exact⟨h1,h2⟩
def KV.put{kvs:List (κ×V)}{vs:List (κ×Se)}(r:KV kvs vs)(k:κ){y:V}{u:Se}(a:aW y u):KV (W0 kvs k y) (Rr vs k u):=by
 unfold W0 Rr;rw[r.any k];by_cases e:(vs.any λb=>decide (b.1=k))=b5
 ·rw[if_pos e,if_pos e];exact r.repl k a
 ·rw[if_neg e,if_neg e];exact Rz r ⟨rfl,a⟩
def KV.length{kvs:List (κ×V)}{vs:List (κ×Se)}(r:KV kvs vs):kvs.length=vs.length:=Ng r
end
def K6{P:Bh}{w:Sm}{k:aS}{u:Se}(r:aW (kV k) u):(Z9 P w).is k u=b5:=by
 cases k with
 |inl i=>obtain⟨t,e⟩:=(show∃t,u=Pt i t from r);subst e;exact E5 P w i t
 |inr x=>obtain⟨t,e⟩:=(show∃t,u=Lo x t from r);subst e;exact E6 P w x t
theorem JD{P:Bh}{w:Sm}:∀{ks:List aS}{us:List Se},a7 (ks.map kV) us->ItemsAre (Z9 P w) ks us
 |[],_,r=>by rw[By]at r;cases r;exact .nil
 |k::ks,_,r=>by
  rw[Ba]at r;cases r with
  |cons h t=>exact .cons (K6 h) (JD t)
abbrev KT(H:Hp):List (List aS×V)->List (List aS×Sf×Se)->Prop:=Paired λp q=>p.1=q.1/\H q.2.1=b0 (.tup (p.1.map kV))/\aW p.2 q.2.2
def KT.val{H:Hp}{kvs:List (List aS×V)}{xs:List (List aS×Sf×Se)}(r:KT H kvs xs)(k:List aS):MR (QY kvs k) ((atKey xs k).map (·.2)):=by
 induction r with
 |nil=>exact True.intro
 | @cons p q ps qs h t c=>
  obtain⟨h1,_,h2⟩:=h;by_cases e:p.1=k
  ·have a:q.1=k:=h1.symm.trans e
   have b:atKey (q::qs) k=b0 q.2:=by simp[atKey,Gi,a]
   rw[PK e,b];exact h2
  ·have a : ¬ q.1 = k := λz => e (h1.trans z)
   have b:atKey (q::qs) k=atKey qs k:=by simp[atKey,Gi,a]
   rw[SX e,b];exact c
def KT.repl{H:Hp}{kvs:List (List aS×V)}{xs:List (List aS×Sf×Se)}(r:KT H kvs xs)(k:List aS){y:V}{u:Se}(b:aW y u):KT H (kvs.map λa=>if a.1=k then(a.1,y)else a) (xs.map (putAt k u)):=by
 induction r with
 |nil=>exact .nil
 | @cons p q ps qs h t c=>
  rw[Ba,Ba];refine .cons ?_ c;obtain⟨h1,h2,d⟩:=h;unfold putAt;by_cases e:p.1=k
  ·rw[if_pos e,if_pos (h1.symm.trans e)];exact⟨h1,h2,b⟩
  ·rw[if_neg e,if_neg (λz=>e (h1.trans z))];exact⟨h1,h2,d⟩
def KT.put{H:Hp}{kvs:List (List aS×V)}{xs:List (List aS×Sf×Se)}(r:KT H kvs xs)(k:List aS){b:Sf}{y:V}{u:Se}(d:H b=b0 (.tup (k.map kV)))(a:aW y u):KT H (W0 kvs k y) (storedH xs k b u):=by
 have e:(kvs.any λc=>decide (c.1=k))=(atKey xs k).isSome:=by rw[L5,(r.val k).isSome_eq,Option.isSome_map]
 unfold W0 storedH;rw[e];by_cases q:(atKey xs k).isSome=b5
 ·rw[if_pos q,if_pos q];exact r.repl k a
 ·rw[if_neg q,if_neg q];exact Rz r ⟨rfl,d,a⟩
def KT.keeps{H H':Hp}{kvs:List (List aS×V)}{xs:List (List aS×Sf×Se)}(r:KT H kvs xs)(a:∀b ys,H b=b0 (.tup ys)->H' b=b0 (.tup ys)):KT H' kvs xs:=
 Paired.mapP r λ_ _ z=>⟨z.1,a _ _ z.2.1,z.2.2⟩
section
variable{P:Bh}{w:Sm}{H:Hp}{h:Sq}{a:Sf}
def Ww{u:HO}(ok:QU P w H h)(e:Rd H a u):ZJ P w H h a u:=e.ok ok
def IP{kvs:List (aS×V)}(ok:QU P w H h)(e:Rd H a (.dK kvs)):kvs.length<=sizeLine/\(a==Gb)=ba/\∃vs,KV kvs vs/\h.DictOf (Z9 P w) a vs:=
 show ZJ P w H h a (.dK kvs) from Ww ok e
def Vq{kvs:List (aS×V)}(ok:QU P w H h)(e:H a=b0 (.dK kvs)):kvs.length<=sizeLine/\(a==Gb)=ba/\∃vs,KV kvs vs/\h.DictOf (Z9 P w) a vs:=IP ok (Rd.of e)
def K7{ks:List aS}(ok:QU P w H h)(e:H a=b0 (.tup (ks.map kV))):(tupleKind (Z9 P w)).is h ks a:=by obtain⟨_,its,r,o,h1,h2,n,b⟩:=(show ZJ P w H h a (.tup (ks.map kV)) from ok a _ e);exact⟨o,its.toArray,n,h1,h2,b,by simpa using JD r⟩
def IT{kvs:List (List aS×V)}(ok:QU P w H h)(e:Rd H a (.dT kvs)):kvs.length<=sizeLine/\(a==Gb)=ba∧ ∃xs,KT H kvs xs/\h.DictOfH (tupleKind (Z9 P w)) a xs:=by
 obtain⟨z,y,xs,r,o,es,j,h1,h2,i,g,f⟩:=(show ZJ P w H h a (.dT kvs) from Ww ok e);refine⟨z,y,xs,r,o,es,j,h1,h2,i,g,λx b=>?_,f⟩;have all:∀{l:List (List aS×V)}{m:List (List aS×Sf×Se)},KT H l m->∀x∈m,(tupleKind (Z9 P w)).is h x.1 x.2.1:=by
  intro l m q;induction q with
  |nil=>intro x b;exact nomatch b
  | @cons p q ps qs c t d=>
   intro x b;rcases Aj.mp b with e|b
   ·subst e
    exact K7 ok (by rw[<-c.1];exact c.2.1)
   ·exact d x b
 exact all r x b
def Yc{kvs:List (List aS×V)}(ok:QU P w H h)(e:H a=b0 (.dT kvs)):kvs.length<=sizeLine/\(a==Gb)=ba∧ ∃xs,KT H kvs xs/\h.DictOfH (tupleKind (Z9 P w)) a xs:=IT ok (Rd.of e)
end
def NF(H:Hp)(a:Sf)(y:V)(r:Option V):Prop:=
 (∃kvs k,Rd H a (.dK kvs)/\y=kV k/\r=QY kvs k)∨∃kvs k b,Rd H a (.dT kvs)/\y=.ref b/\H b=b0 (.tup (k.map kV))/\r=QY kvs k
def DPut(H:Hp)(a:Sf)(y v:V)(H':Hp):Prop:=
 (∃kvs k,H a=b0 (.dK kvs)/\y=kV k/\kvs.length<sizeLine/\H'=aG H a (.dK (W0 kvs k v)))∨
 ∃kvs k b,H a=b0 (.dT kvs)/\y=.ref b/\H b=b0 (.tup (k.map kV))/\kvs.length<sizeLine/\H'=aG H a (.dT (W0 kvs k v))
def NF.k{H:Hp}{a:Sf}{kvs:List (aS×V)}{k:aS}(e:H a=b0 (.dK kvs)):NF H a (kV k) (QY kvs k):=.inl ⟨kvs,k,Rd.of e,rfl,rfl⟩
def DPut.k{H:Hp}{a:Sf}{kvs:List (aS×V)}{k:aS}{v:V}(e:H a=b0 (.dK kvs))(hl:kvs.length<sizeLine):DPut H a (kV k) v (aG H a (.dK (W0 kvs k v))):=.inl ⟨kvs,k,e,rfl,hl,rfl⟩
section
variable{X:Cx}{aa:List (Sf×Sr)}{σ:St}{H:Hp}{s:Ah}{a:Sf}{y v:V}{u r:Se}{o:Option V}{A:Dh}{E:Se->Ah->Prop}
def bP.big(I:bP X aa σ H s):Gb<s.heap.objs.size:=by have h:So<s.heap.objs.size:=(I.mod.glob.keeps I.bk).lt;exact Oz (by decide) h
def dY{Q:Se->Ah->Prop}(q:A.units+1<cLine)(I:bP X aa σ H s)(g:NF H a y (b0 v))(n:aW y u)(h:∀f s',bP X aa σ H s'->aW v f->Q f s'):Sg (Sk X.prog X.w) A (Kv (.ref a) u) Q E s:=by
 rcases g with⟨kvs,k,e,j,l⟩|⟨kvs,k,b,e,j,t,l⟩
 ·subst j
  obtain⟨z,hd,vs,d,m⟩:=IP I.hok e;obtain⟨f,hw,c⟩:=MR.some_of (v:=v) (o:=Od vs k) (by rw[l];exact d.val k);exact wpAny_getItem_of (K6 n) m.mapOf hw (h f _ (I.tok _) c)
 ·subst j
  cases (show u=Bq b from n);obtain⟨z,hd,xs,d,m⟩:=IT I.hok e;obtain⟨f,hw,c⟩:=MR.some_of (v:=v) (o:=(atKey xs k).map (·.2)) (by rw[l];exact d.val k);obtain⟨p,r,i⟩:=Am.mp hw;refine wpAny_getItem_heap (Hl q) (K7 I.hok t) m r ?_;rw[i];exact h f _ (I.tok _) c
def G1{h':Sq}{t':Nat}{c:HO}(I:bP X aa σ H s)(d:Mut (H a))(f:Fw a s.heap h')(g:∃q,h'.get? a=b0 q)(new:ZJ X.prog X.w (aG H a c) h' a c):bP X aa σ (aG H a c) {s with heap:=h',toks:=t'}:=
 I.write (x:=a) (e:=a) d (.inl rfl) (λb q h z=>(f.2 b h).trans z) g new
def CN{P:Bh}{w:Sm}{H':Hp}{h':Sq}{kvs:List (aS×V)}{vs:List (aS×Se)}(z:kvs.length<=sizeLine)(hd:(a==Gb)=ba)(b:KV kvs vs)(c:h'.DictOf (Z9 P w) a vs):ZJ P w H' h' a (.dK kvs):=⟨z,hd,vs,b,c⟩
def iS{H':Hp}{Q:Unit->Ah->Prop}(C:A.units+1<cLine)(I:bP X aa σ H s)(g:DPut H a y v H')(p:aW y u)(t:aW v r)(h:∀s',bP X aa σ H' s'->Q () s'):Sg (Sk X.prog X.w) A (Mt (.ref a) u r) Q E s:=by
 rcases g with⟨kvs,k,e,m,l,n⟩|⟨kvs,k,b,e,m,B,l,n⟩
 ·subst m n
  obtain⟨z,hd,vs,d,o⟩:=Vq I.hok e;have hz:vs.length<=sizeLine:=by rw[<-d.length];exact z
  have hl:(W0 kvs k v).length<=sizeLine:=by have:=SJ kvs k v;lia
  refine wpAny_setItem_pairs (hsz:=hz) (K6 p) o λh' f j=>h _ ?_;have D:∃q,h'.get? a=b0 q:=let ⟨q,_,_,i,_⟩:=f;⟨q,i⟩
  exact G1 I (by rw[e];exact True.intro) j D (CN hl hd (d.put k t) f)
 ·subst m n
  cases (show u=Bq b from p);obtain⟨z,hd,xs,d,o⟩:=Yc I.hok e;have hz:xs.length<=sizeLine:=by rw[<-Ng d];exact z
  have hl:(W0 kvs k v).length<=sizeLine:=by have:=SJ kvs k v;lia
  refine wpAny_setItem_heap (hsz:=hz) (Hl C) (K7 I.hok B) o λh' f j=>h _ ?_;obtain⟨q,es,K,i,h2,J,G,_,F⟩:=f;refine G1 I (by rw[e];exact True.intro) j ⟨q,i⟩ ⟨hl,hd,_,(d.put k B t).keeps λc ys x=>?_,q,es,K,i,h2,J,G,F⟩;rw[bC (OV x e (λz=>nomatch z))];exact x
end
def EG{X:Cx}{aa:List (Sf×Sr)}{σ:St}{H:Hp}{s:Ah}{a:Sf}{y:V}{o:Option V}(I:bP X aa σ H s)(g:NF H a y o):s.TypeIs (.ref a) "dict":=by
 rcases g with⟨kvs,k,e,_,_⟩|⟨kvs,k,b,e,_,_,_⟩
 ·obtain⟨_,_,vs,_,c⟩:=IP I.hok e
  exact c.typeIs
 ·obtain⟨_,_,xs,_,c⟩:=IT I.hok e
  exact c.typeIs
def eI(td ty tv:TE):TS:=λD σ H=>tv σ H λv H1=>td σ H1 λx H2=>ty σ H2 λy c=>∃a b,x=.ref a/\DPut c a y v b/\D.nx σ b
section
variable{X:Cx}{o i e value:Sj}{pos af c9:Pos}{td ty tv:TE}
def jx(j:X.A.units+1<cLine)(l:PE X o td)(hi:PE X i ty)(f:PE X value tv)(k:Gv value (b0 (.Subscript o i af)) pos.line X.env=pure ba):PS X (.Assign [.Subscript o i af] value pos) (eI td ty tv):=by intro aa s σ H D I h;refine wpAny_Assign_Subscript (Y7 (f aa s σ H _ I h) λr s1 ⟨v,H1,q,e,q1⟩=>Y7 (l aa s1 σ H1 _ q q1) λu b ⟨x,H2,p,d,q2⟩=>Y7 (hi aa b σ H2 _ p q2) λB z ⟨y,C,n,c,a,t,ex,g,q3⟩=>?_) k;subst ex;obtain rfl:u=Bq a:=d;exact iS j n g c e λw m=>⟨σ,t,m,q3⟩
end
def EH{P:Bh}{w:Sm}{H:Hp}(h:Sq)(a:Gb<h.objs.size):ZJ P w H (h.push {cls:=.type "dict",data:=.dict #[]}) h.objs.size (.dK []):=
 ⟨Dx _,beq_eq_false_iff_ne.mpr (Dj (Bn a)),[],.nil,Qc h⟩
def jX:TE:=λ_ H Q=>∀p,H p=b3->Q (.ref p) (aG H p (.dK []))
section
variable{X:Cx}{pos:Pos}
def LH:PE X (.Dict [] [] pos) jX:=λaa s σ H Q I h=>
 wpAny_Dict_empty ⟨.ref s.heap.objs.size,_,I.laid (a:=s.heap.objs.size) (o:=.dK []) (t':=s.toks) (λ_ _ q=>Ad _ q) (Au _) (EH s.heap I.big),rfl,h _ (I.hok.fresh (Au _))⟩
end
def HW:List (TE×TE)->St->Hp->(List (V×V)->Hp->Prop)->Prop
 |[],_,H,Q=>Q [] H
 |(tk,tv)::r,σ,H,Q=>tk σ H λx H1=>tv σ H1 λy H2=>HW r σ H2 λps a=>Q ((x,y)::ps) a
abbrev VV:List (V×V)->List (Se×Se)->Prop:=Paired λp q=>aW p.1 q.1/\aW p.2 q.2
def PPs(X:Cx)(pos:Pos)(a:List (Option Sj))(c:List Sj)(b:List (TE×TE)):Prop:=
 ∀(aa:List (Sf×Sr)) (s:Ah) (σ:St) (H:Hp) (Q:List (V×V)->Hp->Prop),bP X aa σ H s->HW b σ H Q->
  Sg (Sk X.prog X.w) X.A (evalPairs (pairTrees a c X.env pos)) (λvs s'=>∃ps H',bP X aa σ H' s'/\VV ps vs/\Q ps H') X.xe s
def lO{X:Cx}{pos:Pos}:PPs X pos [] [] []:=λaa s σ H Q I h=>pairTrees_nil_walk ⟨[],H,I,.nil,h⟩
def mE{X:Cx}{pos:Pos}{k v:Sj}{ks:List (Option Sj)}{vs:List Sj}{tk tv:TE}{a:List (TE×TE)}(hk:PE X k tk)(f:PE X v tv)(g:PPs X pos ks vs a):PPs X pos (b0 k::ks) (v::vs) ((tk,tv)::a):=λaa s σ H Q I h=>
 pairTrees_cons_walk (Y7 (hk aa s σ H _ I h) λu s1 ⟨x,H1,l,e,q1⟩=>Y7 (f aa s1 σ H1 _ l q1) λn c ⟨y,H2,j,d,q2⟩=>
  Y7 (g aa c σ H2 _ j q2) λws o ⟨ps,m,i,b,q3⟩=>⟨(x,y)::ps,m,i,.cons ⟨e,d⟩ b,q3⟩)
def U0(kvs more:List (aS×V)):List (aS×V):=more.foldl (λacc a=>W0 acc a.1 a.2) kvs
def KV.merge:∀{more:List (aS×V)}{rs:List (aS×Se)}{kvs:List (aS×V)}{vs:List (aS×Se)},KV more rs->KV kvs vs->KV (U0 kvs more) (merged vs rs):=by
 intro more rs kvs vs r;unfold KV at r;induction r generalizing kvs vs with
 |nil=>intro q;exact q
 | @cons p q ps qs h t b=>
  intro a;have e:KV (W0 kvs p.1 p.2) (Rr vs q.1 q.2):=by
   have:=a.put p.1 h.2
   rw[<-h.1];exact this
  exact b e
theorem QR:∀(more kvs:List (aS×V)),(U0 kvs more).length<=kvs.length+more.length
 |[],kvs=>by show kvs.length<=kvs.length+0;lia
 |p::r,kvs=>by have h1:=QR r (W0 kvs p.1 p.2);have h2:=SJ kvs p.1 p.2;show(U0 (W0 kvs p.1 p.2) r).length<=_;rw[Bg];lia
theorem KL{P:Bh}{w:Sm}:∀{kvs:List (aS×V)}{ws:List (Se×Se)},VV (kvs.map λd=>(kV d.1,d.2)) ws->∃rs,Carries (Z9 P w) ws rs/\KV kvs rs
 |[],_,r=>by rw[By]at r;cases r;exact⟨[],True.intro,.nil⟩
 | p :: kvs,_,r => by
  rw[Ba]at r;cases r with
  | @cons a b as bs h t=>
   obtain⟨rs,c,q⟩:=KL (P:=P) (w:=w) t;obtain⟨f,e⟩:=b;exact⟨(p.1,e)::rs,⟨K6 h.1,rfl,c⟩,.cons ⟨rfl,h.2⟩ q⟩
def dN(a:List (TE×TE)):TE:=λσ H Q=>∀p,H p=b3->HW a σ (aG H p (.dK [])) λps H2=>H2 p=b0 (.dK [])/\∃kvs:List (aS×V),ps=kvs.map (λb=>(kV b.1,b.2))/\kvs.length<=15/\Q (.ref p) (aG H2 p (.dK (U0 [] kvs)))
def fT{X:Cx}{pos:Pos}{b:List (Option Sj)}{j:List Sj}{d:List (TE×TE)}(h:PPs X pos b j d)(A:b.all (·.isSome)=b5)(hl:b.length=j.length)(v:b≠[])(i:b.length<=15):PE X (.Dict b j pos) (dN d):=by
 intro aa s σ H Q I q;have t:=I.hok.fresh (Au s.heap.objs.size);have B:=I.laid (a:=s.heap.objs.size) (o:=.dK []) (h':=s.heap.push {cls:=.type "dict",data:=.dict #[]}) (t':=s.toks) (λ_ _ q=>Ad _ q) (Au _) (EH s.heap I.big);refine wpAny_Dict_walk (knd:=Z9 X.prog X.w) A hl v i (Y7 (h aa _ σ _ _ B (q _ t)) λws C ⟨ps,H2,k,g,e,kvs,x,D,q2⟩=>?_);subst x;obtain⟨rs,c,m⟩:=KL (P:=X.prog) (w:=X.w) g;obtain⟨z,hd,l,n,y⟩:=Vq k.hok e;cases n;refine⟨rs,c,y,λh' f p=>⟨.ref s.heap.objs.size,_,?_,rfl,q2⟩⟩;have hz:(U0 [] kvs).length<=sizeLine:=by have h1:=QR kvs [];rw[Gj]at h1;rw[Cr];lia
 have u:∃q,h'.get? s.heap.objs.size=b0 q:=let ⟨q,_,_,r,_⟩:=f;⟨q,r⟩
 exact G1 k (by rw[e];exact True.intro) p u (CN hz hd (m.merge .nil) f)
structure M1(X:Cx)(o:Sj)(m:Si)(ak:Pos)(e:Sj)(ae:Pos):Prop where
 base:Gq o m X.env (eval o X.env)=eval o X.env
 few:((Ex ae (Bb [e] X.env)).all (λx=> !x.1)&&(Mg ae (Ic [] X.env)).all (λx=>x.1.isSome)
  && decide (([e]:List Sj).length+([]:List Ie).length+(if([]:List Ie).isEmpty then 0 else 1)<30))=b5
 line:(ak.endLine==ae.line)=b5
 trees:Ex ae (Bb [e] X.env)=[(ba,eval e X.env)]
structure M2(X:Cx)(o:Sj)(m:Si)(ak:Pos)(e f:Sj)(ae:Pos):Prop where
 base:Gq o m X.env (eval o X.env)=eval o X.env
 few:((Ex ae (Bb [e,f] X.env)).all (λx=> !x.1)&&(Mg ae (Ic [] X.env)).all (λx=>x.1.isSome)
  && decide (([e,f]:List Sj).length+([]:List Ie).length+(if([]:List Ie).isEmpty then 0 else 1)<30))=b5
 line:(ak.endLine==ae.line)=b5
 trees:Ex ae (Bb [e,f] X.env)=[(ba,eval e X.env),(ba,eval f X.env)]
def IsD(H:Hp)(a:Sf):Prop:=(∃kvs,Rd H a (.dK kvs))∨∃kvs,Rd H a (.dT kvs)
def Um{X:Cx}{aa:List (Sf×Sr)}{σ:St}{H:Hp}{s:Ah}{a:Sf}(I:bP X aa σ H s)(d:IsD H a):s.TypeIs (.ref a) "dict" /\(∀b,Bq a=.ref b->∃c,s.heap.get? b=b0 c/\c.dict=b3)/\(a==Gb)=ba:=by
 rcases d with⟨kvs,e⟩|⟨kvs,e⟩
 ·obtain⟨_,hd,vs,_,f⟩:=IP I.hok e
  refine⟨f.typeIs,λb q=>?_,hd⟩;cases q;obtain⟨c,_,_,h1,h2,_⟩:=f;exact⟨c,h1,h2.2.1⟩
 ·obtain⟨_,hd,xs,_,f⟩:=IT I.hok e
  refine⟨f.typeIs,λb q=>?_,hd⟩;cases q;obtain⟨c,_,_,h1,h2,_⟩:=f;exact⟨c,h1,h2.2.1⟩
section
variable{X:Cx}{aa:List (Sf×Sr)}{σ:St}{H:Hp}{s:Ah}{a:Sf}{y d:V}{u r:Se}{o:Option V}{A:Dh}{E:Se->Ah->Prop}
def Yw{Q:Se->Ah->Prop}(m:A.units+1<cLine)(I:bP X aa σ H s)(g:NF H a y o)(j:aW y u)(h:∀i s',bP X aa σ H s'->aW (o.getD .non) i->Q i s'):Sg (Sk X.prog X.w) A (call (.builtin "dict.get") [.ref a,u]) Q E s:=by
 rcases g with⟨kvs,k,e,f,l⟩|⟨kvs,k,b,e,f,n,l⟩
 ·subst f
  obtain⟨z,hd,vs,c,d⟩:=IP I.hok e;refine Lw Ea d.typeIs Fg (Hm _ _) (meets_dict_get (Z9 X.prog X.w) a (K6 j) hd) ⟨_,d.mapOf,h _ _ (I.tok _) ?_⟩;rw[l];exact(c.val k).getD rfl
 ·subst f
  cases (show u=Bq b from j);obtain⟨z,hd,xs,c,d⟩:=IT I.hok e;refine Lw Ea d.typeIs Fg (Hm _ _) (meetsH_dict_get (tupleKind (Z9 X.prog X.w)) a b hd) ⟨Hl m,k,xs,K7 I.hok n,d,h _ _ (I.tok _) ?_⟩;rw[l];exact(c.val k).getD rfl
def iD{Q:Se->Ah->Prop}(p:A.units+1<cLine)(I:bP X aa σ H s)(g:NF H a y o)(m:aW y u)(n:aW d r)(h:∀j s',bP X aa σ H s'->aW (o.getD d) j->Q j s'):Sg (Sk X.prog X.w) A (call (.builtin "dict.get") [.ref a,u,r]) Q E s:=by
 rcases g with⟨kvs,k,e,i,l⟩|⟨kvs,k,b,e,i,q,l⟩
 ·subst i
  obtain⟨z,hd,vs,c,f⟩:=IP I.hok e;refine Lw Ea f.typeIs Fg (Kw _ _ _) (meets_dict_get_default (Z9 X.prog X.w) a (K6 m) hd r) ⟨_,f.mapOf,h _ _ (I.tok _) ?_⟩;rw[l];exact(c.val k).getD n
 ·subst i
  cases (show u=Bq b from m);obtain⟨z,hd,xs,c,f⟩:=IT I.hok e;refine Lw Ea f.typeIs Fg (Kw _ _ _) (meetsH_dict_get_default (tupleKind (Z9 X.prog X.w)) a b hd r) ⟨Hl p,k,xs,K7 I.hok q,f,h _ _ (I.tok _) ?_⟩;rw[l];exact(c.val k).getD n
end
def ki(td ty tx:TE):TE:=λσ H Q=>td σ H λx H1=>∃a,x=.ref a/\IsD H1 a/\ty σ H1 λy H2=>tx σ H2 λz b=>∃o,NF b a y o/\Q (o.getD z) b
section
variable{X:Cx}{o e f:Sj}{ak ae:Pos}{td ty tx:TE}
def Yq(p:X.A.units+1<cLine)(q:PE X o td)(t:PE X e ty)(r:PE X f tx)(m:M2 X o "get" ak e f ae):PE X (.Call (.Attribute o "get" ak) [e,f] [] ae) (ki td ty tx):=by
 intro aa s σ H Q I h;refine Oe m.base m.few m.line Kx Ea Lx (Y7 (q aa s σ H _ I h) λu s1 ⟨x,H1,c,n,a,ex,d,q1⟩=>?_);subst ex;obtain rfl:u=Bq a:=n;obtain⟨j,i,_⟩:=Um c d;refine⟨j,i,?_⟩;rw[m.trees];refine Gd rfl (Gs (Gf (Y7 (t aa s1 σ H1 _ c q1) λJ k ⟨y,H2,B,l,q2⟩=>
  Gf (Y7 (r aa k σ H2 _ B q2) λfv F ⟨z,C,w,rz,G,g,q3⟩=>Hz ?_))))
 exact iD p w g l rz λD E v b=>⟨_,C,v,b,q3⟩
end
end L2
namespace Att
open PySem PySem.W PySem.Calls PyProof.Rows
def MU{P:Ps}{h:Sq}:∀(ns:List Int) (vs:List Se),WellAll P h vs (ns.map WData.int)->Of vs ns:=by
 intro ns;induction ns with
 |nil=>
  intro vs w;rw[By]at w;cases w;exact .nil
 |cons n ns c=>
  intro vs w;rw[Ba]at w;cases w with
  |cons a b=>
   cases a;exact .cons _ _ (c _ b)
def gW{l:OpenLaw}{n:Nat}(p:l.most=b0 n){P:Ps}{h:Sq}{args:List WData}{b:List Se}(c:l.row.toRowW.claim.pre args=b5)(g:WellAll P h b args):∃a vs ns,b=[Bq a]/\args=[WData.list (ns.map WData.int)]/\h.get? a=b0 {cls:=.type "list",data:=.seq vs.toArray}/\Of vs ns/\ns.length<=n:=by
 have i:WShape.hasAll [] args [.list .int]=b5:=(pre_splitW c).1;have hc:l.pre.holds [] {args:=args}=b5:=(pre_splitW c).2;obtain⟨d,r,rfl,h1,h2⟩:=hasAllW_cons i;obtain rfl:=hasAllW_nil h2;obtain⟨xs,rfl,s⟩:=hasW_list h1;obtain⟨ns,rfl⟩:=items_int s;have u:ns.length<=n:=by
  unfold OpenLaw.pre at hc;have f:(WTm.not (.lt (.lit (.int (n:Int))) (.len (.arg 0)))).holds [] {args:=[.list (ns.map .int)]}=b5:=by have f:=(holds_andW hc).1;rw[p]at f;exact f
  have e:=condW_of f (w_not (w_lt w_lit (w_len_list (w_arg rfl))));rw[Ce]at e;refine Nat.le_of_not_lt λq=>?_;have m:(n:Int)<((ns.length:Nat):Int):=by lia
  first
   |(rw[decide_eq_true m]at e;exact absurd e (by decide))
   |(simp at e;lia)
 cases g with
 |cons k j=>
  cases j;cases k with
  |list o t=>exact⟨_,_,ns,rfl,rfl,o,MU ns _ t,u⟩
def iL(l:OpenLaw)(args:List WData):l.row.toRowW.claim.post args (.bool b5) args=b5:=
 postW_of (r:=l.row.toRowW) (X:=(b5==b5))
  (show Sc [] (.bool b5) .bool=b5 by first|rfl|decide|simp[Sc,WShape.arms,WShape.armsAll])
  (show(WTm.eq .res (.lit (.bool b5))).value [] {args:=args,res:=b0 (.bool b5),after:=args}=b0 (.bool (b5==b5)) from w_eq_bool (w_res rfl) w_lit) rfl
def D1{l:OpenLaw}{n:Nat}{q:Bh}{loose:List Si}{XP:(Si->Option Se)->Sq->Prop}{YP:Sm->Sq->Prop}{d:DefRec}(A:l.most=b0 n)(p:d.params.defaults=[])(call:∀(w:Sm) (s₀ b:Ah) (mg j:Si->Option Se) (fa:Sf) (o:Sr) (i h doc:Se) (a:Sf) (vs:List Se) (ns:List Int),Ground q loose [] XP w s₀ mg j b.heap->YP w b.heap->b.heap.get? fa=b0 o->o.data=.func (docDef d.name d.params d.body d.scope i h doc)->b.heap.CodeRec h d.name->mg d.name=b0 (.ref fa)->b.heap.get? a=b0 {cls:=.type "list",data:=.seq vs.toArray}->Of vs ns->ns.length<=n->b.gens= #[]->Mv (Sk l.prog w) My (.call (.ref fa) ⟨[.ref a],[]⟩) (λr s'=>r=.ok (.ret (.bool b5))/\OldK b.heap s'.heap/\s'.os=b.os/\Lp s'.gens) b):WalkO q loose XP YP l.row.toRowW d [] (λf vs=>Rg f vs):=by intro w s₀ b mg j G Y fa o i h doc H kV z hd s v m D args t as e u x k C;obtain rfl:H=.none:=Dflts.none v p;obtain rfl:kV=.none:=Dflts.noKw v;obtain⟨a,vs,ns,rfl,rfl,g,c,I⟩:=gW A e k;refine enter_call (Oy (call w s₀ b mg j fa o i h doc a vs ns G Y z (fd_plain hd) s m g c I D) λr s' y=>?_);obtain⟨rfl,h2,F,E⟩:=y;exact⟨.inl ⟨.bool b5,.bool b5,[],rfl,λ_=>rfl,.bool b5,iL l _,λ_=>⟨Og,λ_ B=>(nomatch B)⟩⟩,h2,F,E⟩
end Att
namespace L2
open PySem PySem.Spec PyProof.Rows
theorem JY:∀{vs:List Se}{ns:List Int},Of vs ns->a7 (ns.map V.int) vs
 |_,_,.nil=>.nil
 |_,_,.cons n t h=>.cons ⟨t,rfl⟩ (JY h)
def Only(H:Hp):Prop:=∀b,H b=b3∨∃o xs,H b=b0 (.frz o (.lst xs))
def iQ{P:Bh}{w:Sm}{K:Ao}{mg C:Si->Option Se}{CX:CXT}{k:Nat}{fa a:Sf}{fd:Ey}{x:Si}{sp:Sp}{c:Ah}{vs:List Se}{ns:List Int}(R:K.In c.heap)(l:c.heap.Ns So mg)(f:c.heap.Ns builtinsNs C)(E:∀x:Si,x≠ "__name__" ->C x=Bj x)(X:c.heap.NoLimit)(hg:c.gens= #[])(A:c.heap.get? a=b0 {cls:=.type "list",data:=.seq vs.toArray})(hi:Of vs ns)(hl:ns.length<=sizeLine)(Z:X5 k My)(F:∀base:Sq,K.In base->base.Ns So mg->S9 P w K mg base CX k fa fd [x] sp)(gd:∀(s:Ah) (u:Se),Qb s fd ⟨[u],[]⟩ [(x,u)])(D:∀H:Hp,Only H->W7 K H a (ns.map V.int)->sp [.ref a] H (λv _=>v=.bl b5) λ_ _ _=>False)(G:∀H e s',CX [] H c (λ_ _ _=>False) e s'->False):Mv (Sk P w) My (.call (.ref fa) ⟨[.ref a],[]⟩) (λr s'=>r=.ok (.ret (.bool b5))/\OldK c.heap s'.heap/\s'.os=c.os/\Lp s'.gens) c:=by
 have J:=JY hi;have gq:=hi.length;have N: ∀H:Hp,Only H->W7 K H a (ns.map V.int)->QU P w H c.heap->(∀b,H b≠b3->b=a)->(H a≠b3->K.lookup a=b3)->
   Mv (Sk P w) My (.call (.ref fa) ⟨[.ref a],[]⟩) (λr s'=>r=.ok (.ret (.bool b5))/\OldK c.heap s'.heap/\s'.os=c.os/\Lp s'.gens) c:=by
  intro H L hS j M hK;have Q:∀{b:Sf}{o:Sr},c.heap.get? b=b0 o->H b=b3->(HD c.heap H).get? b=b0 o:=λe n=>jB e n;have B:∀{b:Sf}{o:Sr}{es:Array Ln}{t:Nat},c.heap.get? b=b0 o->o.data=.dict es t->H b=b3:=λ{b o es t} e d=>by
   cases q:H b with
   |none=>rfl
   |some u=>
    have I:b=a:=M b (by rw[q];simp);subst I;rw[A]at e;cases e;have d':Data.seq vs.toArray _=Data.dict es t:=d;cases d'
  have g:∀{b:Sf}{m:Si->Option Se},c.heap.Ns b m->(HD c.heap H).Ns b m:=λ{b m} ⟨o,es,t,e,d,r⟩=>⟨o,es,t,Q e (B e d),d,r⟩;have p:K.In (HD c.heap H):=λb o e=>Q (R b o e) (by
   cases q:H b with
   |none=>rfl
   |some u=>
    have I:b=a:=M b (by rw[q];simp);subst I;rw[hK (by rw[q];simp)]at e;cases e)
  have hM:Mod K mg (HD c.heap H):=⟨p,g l,⟨C,g f,E⟩,let ⟨W,h1,h2⟩:=X;⟨W,g h1,h2⟩⟩;have e0:Env0 P w K mg (HD c.heap H) My [] c H:=⟨rfl,hM,λb o e=>lx e,Nat.le_of_eq (dU _ _),trivial,λb f=>absurd (show b∈([]:List Sf) from f) (by simp),j,.of_eq hg⟩;refine Oy ((F _ p (g l)).run My [] c H ⟨[.ref a],[]⟩ [.ref a] [.ref a] _ _ Z e0 (gd c (.ref a)) (.cons rfl .nil) (D H L hS)) λr s' h=>?_;cases r with
  |error e=>exact(G H e s' h).elim
  |ok fl=>
   cases fl with
   |next=>exact Go h
   |brk=>exact Go h
   |cont=>exact Go h
   |ret u=>
    obtain⟨v,H',os,y,un,Y,r',q⟩:=h;have T:v=.bl b5:=q;subst T;obtain rfl:u=Rb b5:=r';refine⟨rfl,OldK.of_keep λb o e=>?_,os,y⟩;cases q:H b with
    |none=>exact un.keep b o e q (by intro z;exact absurd (show b∈([]:List Sf) from z) (by simp)) (by simp)
    |some u=>
     rcases L b with z|⟨U,xs,z⟩
     ·rw[q]at z;cases z
     ·have S:=un.frzs b U _ z
      obtain⟨O,_⟩:=j b _ z;obtain⟨e2,_⟩:=Y b _ S;rw[e]at O;cases O;exact e2
 cases hk:K.lookup a with
 |some o=>
  have e:=R a o hk;rw[A]at e;cases e;refine N (λ_=>b3) (λ_=>.inl rfl) (.inr ⟨_,vs.toArray,_,hk,rfl,rfl,rfl,by rw[Aq,gq];exact hl,by simpa using J⟩) (λb u z=>by have i:(b3:Option HO)=b0 u:=z;cases i) (λb z=>absurd rfl z) λz=>absurd rfl z
 |none=>
  refine N (λb=>if b=a then b0 (.frz {cls:=.type "list",data:=.seq vs.toArray} (.lst (ns.map V.int)))else b3) (λb=>?_) (.inl (.inr ⟨{cls:=.type "list",data:=.seq vs.toArray},if_pos rfl⟩)) (λb u z=>?_) (λb z=>?_) λ_=>hk
  ·by_cases f:b=a
   ·exact .inr ⟨_,_,if_pos f⟩
   ·exact .inl (if_neg f)
  ·by_cases f:b=a
   ·have i:=(if_pos f).symm.trans z
    cases i;subst f;exact⟨A,by rw[Ce];exact hl,vs,_,J,A⟩
   ·have i:=(if_neg f).symm.trans z
    cases i
  ·by_cases f:b=a
   ·exact f
   ·exact absurd (if_neg f) z
def iG{l:Rs}{n k:Nat}{q:Bh}{loose:List Si}{XP:(Si->Option Se)->Sq->Prop}{YP:Sm->Sq->Prop}{d:DefRec}{K:Ps->Ao}{CX:Sm->CXT}{sp:Sm->Sp}{x:Si}(C:l.most=b0 n)(p:n<=sizeLine)(t:d.params.defaults=[])(B:X5 k My)(J:∀(w:Sm) (h:Sq),YP w h->(K w.params).In h)(F:∀(w:Sm) (mg:Si->Option Se) (fa:Sf) (h:Sq),(K w.params).In h->h.Ns So mg->mg d.name=b0 (.ref fa)->∃fd:Ey,(∀(s:Ah) (u:Se),Qb s fd ⟨[u],[]⟩ [(x,u)])∧ ∀base:Sq,(K w.params).In base->base.Ns So mg->S9 l.prog w (K w.params) mg base (CX w) k fa fd [x] (sp w))(m:∀(w:Sm) (H:Hp) (a:Sf) (ns:List Int),ns.length<=n->Only H->W7 (K w.params) H a (ns.map V.int)->sp w [.ref a] H (λv _=>v=.bl b5) λ_ _ _=>False)(y:∀(w:Sm) (H:Hp) (s:Ah) (e:Se) (s':Ah),CX w [] H s (λ_ _ _=>False) e s'->False):W.WalkO q loose XP YP l.row.toRowW d [] (λf vs=>Rg f vs):=by refine Att.D1 C t λw s₀ i mg P fa o O R doc a vs ns G Y Q hd E r j c z D=>?_;have A:=J w _ Y;obtain⟨fd,I,N⟩:=F w mg fa _ A G.T.g r;exact iQ A G.T.g G.T.b G.T.builtins G.T.nolimit D j c (Fc z p) B N I (λH M L=>m w H a ns z M L) λH e s'=>y w H i e s'
def zBQ{l:Rs}{n k:Nat}{q:Bh}{loose:List Si}{XP:(Si->Option Se)->Sq->Prop}{YP:Sm->Sq->Prop}{d:DefRec}{K:Ps->Ao}{CX:CXT}{sp:Ao->Sp}{x:Si}(m:l.most=b0 n)(c:n<=sizeLine)(g:d.params.defaults=[])(j:X5 k My)(o:∀(w:Sm) (h:Sq),YP w h->(K w.params).In h)(F:∀(w:Sm) (mg:Si->Option Se) (fa:Sf) (h:Sq),(K w.params).In h->h.Ns So mg->mg d.name=b0 (.ref fa)->∃fd:Ey,(∀(s:Ah) (u:Se),Qb s fd ⟨[u],[]⟩ [(x,u)])∧ ∀base:Sq,(K w.params).In base->base.Ns So mg->S9 l.prog w (K w.params) mg base CX k fa fd [x] (sp (K w.params)))(b:∀(K:Ao) (H:Hp) (a:Sf) (ns:List Int),ns.length<=n->Only H->W7 K H a (ns.map V.int)->sp K [.ref a] H (λv _=>v=.bl b5) λ_ _ _=>False)(i:∀(H:Hp) (s:Ah) (e:Se) (s':Ah),CX [] H s (λ_ _ _=>False) e s'->False):W.WalkO q loose XP YP l.row.toRowW d [] (λf vs=>Rg f vs):=
 iG (K:=K) (CX:=λ_=>CX) (sp:=λw=>sp (K w.params)) m c g j o F (λw H a ns h1 h2 p=>b (K w.params) H a ns h1 h2 p) λ_ H s e s'=>i H s e s'
def YR(s:Su):Arguments:=match s with
 |.FunctionDef _ a _ _ _ _ _ _ _ _=>a
 |_=>{posonlyargs:=[],args:=[],vararg:=b3,kwonlyargs:=[],kw_defaults:=[],kwarg:=b3,defaults:=[]}
def ZR(s:Su):List Su:=match s with
 |.FunctionDef _ _ b _ _ _ _ _ _ _=>b
 |_=>[]
def bJ(s:Su):Sx:=match s with
 |.FunctionDef _ _ _ _ _ _ a _ _ _=>a
 |_=>{kind:=.function,names:=[],isGenerator:=ba,isCoroutine:=ba}
abbrev CX0:CXT:=λ_ _ _ _ _ _=>False
abbrev E0:XK:=λ_ _ _=>False
def Tg{X:Cx}:CA CX0 X E0:=λ_ _ _ _ _ _ _ h=>h.elim
structure Fun(K:Ao)(x qual:Si)(st:Su)(f:Sf)(fd:Ey):Prop where
 ex:∃(oc:Se) (od:Option Sf) (kV doc pm:Se) (an:Option Sf) (cdv ct:Se) (osl:Array (Option Se)),
  fd=Jz x qual (YR st) (ZR st) (bJ st) .none kV doc pm an cdv ct/\K.lookup f=b0 ⟨oc,od,.func fd,osl⟩/\Ku K cdv qual=b5
 kp:Il K (.ref f)=b5
section
variable{P:Bh}{w:Sm}{K:Ao}{mg:Si->Option Se}{base:Sq}
def Fun.ok{x a:Si}{st:Su}{f:Sf}{fd:Ey}{N ps:List Si}{k:Nat}{sp:Sp}(F:Fun K x a st f fd)(S:XD N ps (bJ st))(len:∀vs H Q E,sp vs H Q E->vs.length=ps.length)(j:∀(b:Se) (A:Dh) (outer:List Env) (s:Ah) (H:Hp) (vs:List V) (Q:VK) (E:XK),X5 k (A.deeper (Iu a (bJ st) s.heap.objs.size f b))->sp vs H Q E->∃t,NH (KA CX0 P w K mg base N a (bJ st) f b A outer s H E).nox (ZR st) t/\t {nx:=λ_ H'=>Q .non H',rt:=Q} (start N vs) H):S9 P w K mg base CX0 (k+1) f fd ps sp:=by obtain⟨m,od,kV,doc,l,n,b,ct,e,rfl,g,d⟩:=F.ex;refine Wp g d S len λA outer s H vs Q E i c=>?_;obtain⟨t,h,q⟩:=j b A outer s H vs Q E i c;exact⟨t,h.nox,q⟩
def Fun.binds{x a:Si}{st:Su}{f:Sf}{fd:Ey}{ps:List Si}(F:Fun K x a st f fd)(h:∀(kV doc c:Se) (d:Option Sf) (b ct:Se) (us:List Se),us.length=ps.length->bindArgs (Jz x a (YR st) (ZR st) (bJ st) .none kV doc c d b ct) ⟨us,[]⟩=pure (ps.zip us)):OD K fd ps []:=by obtain⟨i,od,kV,doc,c,d,b,ct,e,rfl,j,g⟩:=F.ex;exact .all (h kV doc c d b ct)
def Wt{x a:Si}{st:Su}{f:Sf}{h:Se}{od g:Option Sf}{d:Array (Option Se)}{kV doc e b ct:Se}(l:K.lookup f=b0 ⟨h,od,.func (Jz x a (YR st) (ZR st) (bJ st) .none kV doc e g b ct),d⟩)(c:Ku K b a=b5)(k:Il K (.ref f)=b5):Fun K x a st f (Jz x a (YR st) (ZR st) (bJ st) .none kV doc e g b ct):=⟨⟨h,od,kV,doc,e,g,b,ct,d,rfl,l,c⟩,k⟩
end
def Wo{A:Dh}{k:Nat}(a:X5 k A):A.units+1<cLine:=Nat.lt_of_le_of_lt (Nat.add_le_add_left (by decide:1<=64) _) a.units
section
variable{X:Cx}
def pv(i:Nat){x:Si}{pos:Pos}(c:X.N[i]?=b0 x:=by rfl)(b:Vis X.env.scope x:=by first|exact Ml rfl|exact Mm (Ml rfl)|exact Mm (Mm rfl))(hd:(x==("__debug__":Si))=ba:=by decide)(a:(x==("__classdict__":Si))=ba:=by decide):PE X (.Name x pos) (WF i):=DA c b hd a
end
def EQ{A B:Prop}(h:B):if ba=b5 then A else B:=by rw[if_neg Ei];exact h
def ER{A B:Prop}(h:A):if b5=b5 then A else B:=by rw[if_pos rfl];exact h
def aD(H H':Hp):Prop:=∀b o,H b=b0 o->H' b=b0 o
def aD.refl(H:Hp):aD H H:=λ_ _ h=>h
def aD.trans{H H1 H2:Hp}(a:aD H H1)(b:aD H1 H2):aD H H2:=λc o h=>b c o (a c o h)
def aD.seq{K:Ao}{H H':Hp}{a:Sf}{xs:List V}(e:aD H H')(h:W7 K H a xs):W7 K H' a xs:=by
 rcases h with((h|⟨xs,sub,zs,z,(⟨y,h,h2,s⟩|⟨h,h2⟩)⟩)|⟨o,h⟩)|h
 ·exact .inl (.inl (.inl (e _ _ h)))
 ·exact .inl (.inl (.inr ⟨xs,sub,zs,z,.inl ⟨y,e _ _ h,e _ _ h2,s⟩⟩))
 ·exact .inl (.inl (.inr ⟨xs,sub,zs,z,.inr ⟨e _ _ h,h2⟩⟩))
 ·exact .inl (.inr ⟨o,e _ _ h⟩)
 ·exact .inr h
theorem G0{env:Env}{f:Si×Sw->List (Si×Sf)->Sz (ForInStep (List (Si×Sf)))}(g:∀n k r,f (n,k) r=if(k==Bt)=b5 then(cellOf env n>>=λc=>pure (Dw ((n,c)::r)))else pure (Dw r)):∀(names:List (Si×Sw)) (cs:List (Si×Sf)),(∀y∈names,y.2=.free->∃c,env.cells.lookup y.1=b0 c)->∃cl,forIn names cs f=(pure cl:Sz (List (Si×Sf)))/\(∀x c,cl.lookup x=b0 c->cs.lookup x=b0 c∨env.cells.lookup x=b0 c)∧(∀x c,cs.lookup x=b0 c->∃d,cl.lookup x=b0 d)/\∀x,(x,Bt)∈names->∃c,cl.lookup x=b0 c
 |[],cs,_=>⟨cs,rfl,λ_ _ e=>.inl e,λ_ c e=>⟨c,e⟩,λ_ h=>nomatch h⟩
 | (n,k) :: r,cs,h => by
  have m:∀y∈r,y.2=.free->∃c,env.cells.lookup y.1=b0 c:=λy o=>h y (Ap _ o);by_cases hk:k=.free
  ·subst hk
   obtain⟨c,hc⟩:=h (n,.free) Aw rfl;have hc:env.cells.lookup n=b0 c:=hc;obtain⟨cl,l,j,b,i⟩:=G0 g r ((n,c)::cs) m;refine⟨cl,?_,λx d e=>?_,λx d e=>?_,λx a=>?_⟩
   ·rw [Jl,g,if_pos (show (Bt == Bt) = b5 by decide)]
    have s:cellOf env n=pure c:=by unfold cellOf;rw[hc]
    rw[s,pure_bind,pure_bind];exact l
   ·rcases j x d e with q|q
    ·by_cases a:x=n
     ·subst a
      rw[Eb]at q;cases q;exact .inr hc
     ·rw[Co,beq_eq_false_iff_ne.mpr a]at q
      exact .inl q
    ·exact .inr q
   ·by_cases a:x=n
    ·subst a
     exact b x c (Eb ..)
    ·refine b x d ?_
     rw[Co,beq_eq_false_iff_ne.mpr a];exact e
   ·rcases Aj.mp a with q|q
    ·cases q
     exact b n c (Eb ..)
    ·exact i x q
  ·obtain⟨cl,l,j,b,i⟩:=G0 g r cs m
   refine⟨cl,?_,j,b,λx a=>?_⟩
   ·have p : ¬ (k == Bt) = b5 := by simpa using hk
    rw[Jl,g,if_neg p,pure_bind];exact l
   ·rcases Aj.mp a with q|q
    ·cases q
     exact absurd rfl hk
    ·exact i x q
def AB{env:Env}{scope:Sx}(h:∀y∈scope.names,y.2=.free->∃c,env.cells.lookup y.1=b0 c):∃cl,closureFor scope env=pure cl/\(∀x c,cl.lookup x=b0 c->env.cells.lookup x=b0 c)/\∀x,(x,Bt)∈scope.names->∃c,cl.lookup x=b0 c:=by
 simp only[closureFor];obtain⟨cl,a,d,_,b⟩:=G0 (env:=env) (f:=λx r=>match x with
  |(name,kind)=>if(kind==Bt)=b5 then(cellOf env name>>=λc=>pure (Dw ((name,c)::r)))else pure (Dw r)) (λ_ _ _=>rfl) scope.names [] h
 refine⟨cl,?_,λx c e=>?_,b⟩
 ·first
   |exact a
   |(refine Eq.trans (congrArg (λm=>m>>=pure) a) ?_;exact pure_bind _ _)
 ·rcases d x c e with q|q
  ·cases q
  ·exact q
def XR(ix:List Nat)(σ:St):St:=ix.map λi=>(σ[i]?).join
def PTs(Y:Cx)(a:List Sj)(b:TT):Prop:=
 ∀(aa:List (Sf×Sr)) (s:Ah) (σ:St) (H:Hp) (Q:Bool->Hp->Prop),bP Y aa σ H s->b σ H Q->
  Sg (Sk Y.prog Y.w) Y.A (forIn a b5 λc r=>if r=b5 then do let ok<-isTrue c Y.env (eval c Y.env);pure (Dw ok)else pure (Dw r)) (TP Y aa σ Q) Y.xe s
def tYes:TT:=λ_ H Q=>Q b5 H
def dX{Y:Cx}:PTs Y [] tYes:=λ_ _ _ H _ I h=>wpAny_tests_nil ⟨H,I,h⟩
def lj{Y:Cx}{c:Sj}{a:TT}(h:PT Y c a):PTs Y [c] a:=λaa s σ H Q I hw=>wpAny_tests_one (h aa s σ H Q I hw)
structure Blk(Y:Cx)(tg:Sj)(ifs:List Sj)(elt:Sj)(g:TG)(tt:TT)(te:TE):Prop where
 tg:PG Y tg g
 ts:PTs Y ifs tt
 el:PE Y elt te
def iE{prog:Bh}{w:Sm}{A:Dh}{s:Ah}{l t iter:Sj}{j:List Sj}{scope:Sx}{pos:Pos}{it acc:Se}{env:Env}{R:Result->Ah->Prop}(I:Nat->Ah->Prop)(turn:∀n s,I n s->Sg (Sk prog w) A (pyNext it) (λr b=>match r with
   |none=>R (.ok .next) b
   | some v => Sg (Sk prog w) A (Jk t it v) (λ_ s₀ => Sg (Sk prog w) A (assign t env v) (λ_ f =>
     Sg (Sk prog w) A (forIn j b5 λc r=>if r=b5 then do let ok<-isTrue c env (eval c env);pure (Dw ok)else pure (Dw r)) (λok a=>if ok=b5 then Sg (Sk prog w) A (eval l env) (λx e=>
      Sg (Sk prog w) A (call (.builtin "list.append") [acc,x]) (λ_ d=>∃m,m<n/\I m d) (λ_ _=>False) e) (λ_ _=>False) a
      else∃m,m<n/\I m a) (λ_ _=>False) f)
     (λ_ _=>False) s₀) (λ_ _=>False) b) (λ_ _=>False) s)
  (n:Nat) (h:I n s):Mv (Sk prog w) A (.compLoop (.ListComp l [⟨t,iter,j,0⟩] scope pos) 0 it acc env) R s:=by
 refine codeAny_loop rfl I (λn s y=>?_) n h;show Sg _ A ((compTurn (.ListComp l [⟨t,iter,j,0⟩] scope pos) 0 it acc env).onRaise (λx=>do noteFrame x env;theTreesLotGoes x)) _ _ s;refine wpAny_noted ?_;rw[compTurn_list];refine Ac (Fy (Ac (Cu (turn n s y) (λr b i=>?_) λ_ _ h'=>h'.elim)));cases r with
 |none=>exact As i
 |some v=>
  refine Ac (Cu i (λ_ s₀ k=>?_) λ_ _ h'=>h'.elim);refine Ac (Cu k (λ_ f q=>?_) λ_ _ h'=>h'.elim);refine Ac (Cu q (λu a g=>?_) λ_ _ h'=>h'.elim);cases u with
  |false=>exact As ⟨rfl,g⟩
  |true=>exact Ac (Ac (Cu g (λx e p=>Ac (Cu p (λ_ d o=>As (As ⟨rfl,o⟩)) λ_ _ h'=>h'.elim)) λ_ _ h'=>h'.elim))
section
variable{X:Cx}{aa:List (Sf×Sr)}{σ:St}{H H':Hp}{s s1 s':Ah}{h'':Sq}
def bP.offNew{a:St}{H1:Hp}(d:bP X aa σ H1 s1)(i:bP X aa a H' s')(h:H' s1.heap.objs.size=b3)(f:∀b o,b≠s1.heap.objs.size->s'.heap.get? b=b0 o->h''.get? b=b0 o):bP X aa a H' {s' with heap:=h''}:=
 i.turned (t':=s'.toks) (it:=s1.heap.objs.size) f h (Hc d.lt) (.inr d.sz)
  (λx c e z => by
   obtain⟨v,q⟩:=d.cell x c e;have:=q.lt
   rw[z]at this;exact Cp _ this)
  λp g z=>by
   have:=Av (d.pin p g).1
   rw[z]at this;exact Cp _ this
end
def Uz(D:Sf)(ix:List Nat)(nl:Nat)(J:It)(g:TG)(h:TT)(te:TE)(σ:St)(H0:Hp)(Q:Hp->Prop):Prop:=
 ∃W:Nat->Nat->List V->Hp->Prop,(∃m,W 0 m [] (aG H0 D (.lst [])))/\∀i m acc H1,W i m acc H1->
  (J.stop i H1/\Q H1)∨
  (J.go i H1/\ ∃N:List V->Hp->Prop,(∀d H',N d H'-> ∃c,c<m/\W (i+1) c d H')∧
   ∀x H2,J.yld i H1 x H2->g x (XR ix σ++Ak nl b3) H2 λa j=>a.take ix.length=XR ix σ∧
    h a j λb f=>if b=b5 then te a f λv e=>e D=b0 (.lst acc)/\acc.length<sizeLine/\N (acc++[v]) (aG e D (.lst (acc++[v])))else N acc f)
theorem PC{env:Env}{x:Si}:∀{l:List (Si×Sw)},l.lookup x=b0 .free->(l.map λ(n,k)=>if(k==Bt&&env.scope.kind== .function&&env.kindOf n==b0 .cell)then(n,Ck)else(n,k)).lookup x=b0 .cell∨(l.map λ(n,k)=>if(k==Bt&&env.scope.kind== .function&&env.kindOf n==b0 .cell)then(n,Ck)else(n,k)).lookup x=b0 .free
 |[],h=>by cases h
 | (n,k) :: r,h => by
  show Mz x ((if(k==Bt&&env.scope.kind== .function&&env.kindOf n==b0 .cell)=b5 then(n,Ck)else(n,k))::_)=b0 .cell∨Mz x ((if(k==Bt&&env.scope.kind== .function&&env.kindOf n==b0 .cell)=b5 then(n,Ck)else(n,k))::_)=b0 .free;by_cases c:x=n
  ·subst c
   rw[Eb]at h;cases h;by_cases hc:(Bt==Bt&&env.scope.kind== .function&&env.kindOf x==b0 .cell)=b5
   ·left
    rw[if_pos hc,Eb]
   ·right
    rw[if_neg hc,Eb]
  ·have a:(x==n)=ba:=beq_eq_false_iff_ne.mpr c
   simp only[Co,a]at h;have b:=PC (env:=env) h;by_cases hc:(k==Bt&&env.scope.kind== .function&&env.kindOf n==b0 .cell)=b5
   ·rw[if_pos hc]
    simp only[Co,a];exact b
   ·rw[if_neg hc]
    simp only[Co,a];exact b
def F0(ix:List Nat)(nl:Nat)(a:TI)(g:TG)(b:TT)(te:TE):TE:=λσ H Q=>a σ H λJ H0=>∀D,H0 D=b3->Uz D ix nl J g b te σ H0 λH'=>Q (.ref D) H'
mutual
inductive Dp(K:Ao)(H:Hp):V->Mn->Prop
 |non:Dp K H .non .none
 |bl (b:Bool):Dp K H (.bl b) (.bool b)
 |int (i:Int):Dp K H (.int i) (.int i)
 |str (x:Si):Dp K H (.str x) (.str x)
 |lst {a:Sf}{xs:List V}{ds:List Mn}:W7 K H a xs->KI K H xs ds->Dp K H (.ref a) (.list ds)
 |tup {a:Sf}{xs:List V}{ds:List Mn}:UV K H a xs->KI K H xs ds->Dp K H (.ref a) (.tuple ds)
inductive KI(K:Ao)(H:Hp):List V->List Mn->Prop
 |nil:KI K H [] []
 |cons {v:V}{vs:List V}{d:Mn}{ds:List Mn}:Dp K H v d->KI K H vs ds->KI K H (v::vs) (d::ds)
end
section
variable{X:Cx}{aa:List (Sf×Sr)}{σ:St}{H:Hp}{s:Ah}
mutual
theorem bP.reads(I:bP X aa σ H s):∀{v:V}{d:Mn}{u:Se},Dp X.K H v d->aW v u->∃as,Reads s.heap u d as
 |_,_,_,.non,r=>by cases r;exact⟨_,.none⟩
 |_,_,_,.bl b,r=>by cases r;exact⟨_,.bool b⟩
 |_,_,_,.int i,r=>by obtain⟨t,rfl⟩:=r;exact⟨_,.int i t⟩
 |_,_,_,.str x,r=>by obtain⟨t,rfl⟩:=r;exact⟨_,.str x t⟩
 |_,_,_,.lst q all,r=>by
  cases r;obtain⟨its,a,⟨o,n,e,c,_,d⟩,_⟩:=I.list q;obtain⟨as,h⟩:=bP.readsAll I all a;exact⟨_,.list e c d (by simpa using h)⟩
 |_,_,_,.tup q all,r=>by
  cases r;obtain⟨its,a,⟨o,e,c,n,d⟩,_⟩:=I.tuple q;obtain⟨as,h⟩:=bP.readsAll I all a;exact⟨_,.tuple e c d (by simpa using h)⟩
theorem bP.readsAll(I:bP X aa σ H s):∀{vs:List V}{ds:List Mn}{us:List Se},KI X.K H vs ds->a7 vs us->∃as,ReadsAll s.heap us ds as
 |_,_,_,.nil,r=>by cases r;exact⟨_,.nil⟩
 | _,_,_,.cons h t,r => by
  cases r with
  |cons b a=>
   obtain⟨as,h1⟩:=bP.reads I h b;obtain⟨bs,h2⟩:=bP.readsAll I t a;exact⟨_,.cons h1 h2⟩
end
end
def rEqD(K:Ao):R2:=λx y H Q=>∃d e,Dp K H x d/\Dp K H y e/\Eu d=b5/\Eu e=b5/\Q (.bl (Je d e)) H
def rNeD(K:Ao):R2:=λx y H Q=>∃d e,Dp K H x d/\Dp K H y e/\Eu d=b5/\Eu e=b5/\Q (.bl (!PyData.eqv d e)) H
section
variable{X:Cx}
def gY(g:X.A.units+64<cLine):VY X (Di .Eq) (rEqD X.K):=by intro aa s σ H x y v u Q I f c h;obtain⟨d,e,hd,i,b,a,q⟩:=h;obtain⟨as,h1⟩:=I.reads hd f;obtain⟨bs,h2⟩:=I.reads i c;exact eq_dataH h1 h2 b a g (G7 I q rfl)
def iI(g:X.A.units+64<cLine):VY X (Di .NotEq) (rNeD X.K):=by intro aa s σ H x y v u Q I f c h;obtain⟨d,e,hd,i,b,a,q⟩:=h;obtain⟨as,h1⟩:=I.reads hd f;obtain⟨bs,h2⟩:=I.reads i c;exact ne_dataH h1 h2 b a g (G7 I q rfl)
theorem PL:∀{us:List Se}{ns:List Int},Of us ns->a7 (ns.map V.int) us
 |_,_,.nil=>.nil
 |_,_,.cons i t h=>.cons ⟨t,rfl⟩ (PL h)
theorem T6:∀{ns:List Int}{us:List Se},a7 (ns.map V.int) us->Of us ns
 |[],_,.nil=>.nil
 |i::ns,_,.cons r t=>by obtain⟨k,rfl⟩:=r;exact .cons i k (T6 t)
def NK:Z2 X (.builtin "sorted") (λxs H Q=>∃(p:Sf) (ns:List Int),xs=[.ref p]/\W7 X.K H p (ns.map V.int)/\ns.length<64∧ ∀(l:Sf) (c:List Int),H l=b3->c.Perm ns->c.Pairwise (· <= ·)->Q (.ref l) (aG H l (.lst (c.map V.int)))):=by intro aa s σ H xs us Q I r h;obtain⟨p,ns,rfl,j,hl,q⟩:=h;obtain⟨u,rfl,g⟩:=UR r;cases g;obtain⟨its,d,i,hz⟩:=I.list j;have t:=d.length;rw[Ce]at t;refine sorted_ints i.isList (T6 d) (by lia) λout c w f v=>?_;obtain⟨e,n⟩:=sortedAll_at s.heap its out;have m:c.length=ns.length:=f.length_eq;have k:H (s.heap.objs.size+1)=b3:=I.hok.fresh (Gk _);refine⟨.ref (s.heap.objs.size+1),_,I.laid (a:=s.heap.objs.size+1) (o:=.lst (c.map V.int)) (t':=s.toks) (λb o=>sortedAll_old) (Gk _) ?_,rfl,q _ c k f v⟩;refine⟨by rw[Ce,Cr];lia,out.toList,e,PL w,?_⟩;rw[n]
def FN(p:Sf)(a b c:Int):Sq->Prop:=λh=>∃t u v,IsRange h p a b c t u v
def EA:Z2 X (.type "range") (λxs H Q=>∃a b c,xs=[.int a,.int b,.int c]/\0<c/\c<1073741824/\∀p,H p=b3->Q (.ref p) (aG H p (.ext (FN p a b c)))):=by
 intro aa s σ H xs us Q I r h;obtain⟨a,b,c,rfl,hc,i,q⟩:=h;cases r with
 |cons f r=>
  cases r with
  |cons e r=>
   cases r with
   |cons d r=>
    cases r;obtain⟨t,rfl⟩:=f;obtain⟨u,rfl⟩:=e;obtain⟨v,rfl⟩:=d;refine call_range_3 (by lia) ?_ (.inl (Li (by lia)));have g:=I.hok.fresh (Au s.heap.objs.size);refine⟨.ref s.heap.objs.size,_,I.laid (a:=s.heap.objs.size) (o:=.ext (FN s.heap.objs.size a b c)) (t':=s.toks) (λ_ _ z=>Ad _ z) (Au _) ?_,rfl,q _ g⟩;refine⟨⟨t,u,v,Pz ..⟩,⟨_,Ax _ rfl⟩,λh1 h2 ⟨t,u,v,z⟩ k=>⟨t,u,v,k _ z⟩⟩
def GU:Z2 X (.builtin "len") (λxs H Q=>∃p a b c,∃n:Nat,xs=[.ref p]/\H p=b0 (.ext (FN p a b c))/\Ej a b c=n/\(n:Int)<2 ^ 63/\Q (.int n) H):=by intro aa s σ H xs us Q I r h;obtain⟨p,a,b,c,n,rfl,e,f,hz,q⟩:=h;obtain⟨u,rfl,d⟩:=UR r;cases d;obtain⟨⟨t,u,v,z⟩,_⟩:=I.hok p _ e;exact call_len_range z f hz ⟨.int n,H,I.tok _,⟨_,rfl⟩,q⟩
inductive IB:List Ln->List (Si×V)->Prop
 |nil:IB [] []
 |cons {e:Ln}{es:List Ln}{x:Si}{t:Tok}{v:V}{D:List (Si×V)}:e.key=.str x t->aW v e.val->IB es D->IB (e::es) ((x,v)::D)
def KTab(K:Ao)(a:Sf)(D:List (Si×V)):Prop:=
 (a==Gb)=ba/\∃o es b,K.lookup a=b0 o/\o.ExactDict/\o.data=.dict es b/\IB es.toList D
def IB.rows{es:List Ln}{D:List (Si×V)}(h:IB es D):KTD.Rows aW es D:=by
 induction h with
 |nil=>exact .nil
 |cons h1 h2 _ a=>exact .cons h1 h2 a
def EV{A:Dh}{E:Se->Ah->Prop}{s:Ah}{K:Ao}{prog:Bh}{w:Sm}{a:Sf}{D:List (Si×V)}{k:Si}{tk:Tok}{Q:Option Se->Ah->Prop}(n:K.In s.heap)(T:KTab K a D)(h1:∀d v,Fl k D=b0 d->aW d v->Q (b0 v) {s with toks:=s.toks+1})(h2:Fl k D=b3->Q b3 {s with toks:=s.toks+1}):Sg (Sk prog w) A (dictGet a (.str k tk)) Q E s:=by
 obtain⟨_,o,es,p,g,hc,hd,c⟩:=T;have g:=n _ _ g;have c:=c.rows;unfold dictGet;try with_reducible refine Bv ?_
 refine Ac (wpAny_pyHash_str (Ac (KTD.kt_dictFind_strs (s:={s with toks:=s.toks+1}) g hd (by obtain⟨l⟩:=es;simpa using c.exact) ?_)));have f:Q (findBy (λk v=>v.isStr k) es k) {s with toks:=s.toks+1}:=by
  have m:findBy (λk v=>v.isStr k) es k=(es.toList.find? λe=>e.key.isStr k).map (·.val):=by obtain⟨l⟩:=es;simp[findBy]
  rw[m];cases b:Fl k D with
  |some d=>obtain⟨v,j,h⟩:=c.find_some b;rw[j];exact h1 d v b h
  |none=>rw[c.find_none b];exact h2 b
 rw[findBy_of_findIdx?]at f;cases hi:es.findIdx? λe=>e.key.isStr k with
 |none=>rw[hi]at f;exact As f
 |some i=>rw[hi]at f;exact Ac (wpAny_dictEntries (s:={s with toks:=s.toks+1}) g hd (As f))
def cT:IxR X (λx y H Q=>∃a k D v,x=.ref a/\y=.str k/\KTab X.K a D/\Fl k D=b0 v/\Q v H):=by
 intro value c aa s σ H x y v u Q I j i h m;obtain⟨a,k,D,d,rfl,rfl,T,hk,q⟩:=h;cases j;obtain⟨t,rfl⟩:=i;have b:s.TypeIs (.ref a) "dict":=by obtain⟨_,o,es,p,n,hc,_⟩:=T;exact⟨o,I.kIn _ _ n,hc.1⟩
 have main:Sg (Sk X.prog X.w) X.A (Kv (.ref a) (.str k t)) (EP X aa σ Q) X.xe s:=by
  unfold Kv;try with_reducible refine Bv ?_
  refine Ac (Ib b (by decide) ?_);refine Ac (Cw (name:=Bk "__getitem__") b Ke
   (Eo Ke b PySem.F.entry_dict_getitem ?_ (PySem.F.args_dict_getitem_2 _ _)))
  show Sg _ _ (dictGet a (.str k t)>>=_) _ _ s;exact Ac (EV I.kIn T (λd' g f l=>As ⟨g,rfl,As (by rw[hk]at f;cases f;exact⟨d,H,I.tok _,l,q⟩)⟩) λe=>by rw[hk]at e;cases e)
 exact Rk b PySem.F.slot_dict_getitem.lookup main m
end
section
variable{prog:Bh}{w:Sm}{A:Dh}{E:Se->Ah->Prop}{s:Ah}
theorem IQ{it t:Sf}{items:Array Se}(g:t≠it):∀(n i:Nat) (s:Ah) (Q:List Se->Ah->Prop),s.heap.IsListIter it t i->s.heap.IsList t items->i+n<=items.size->(∀h',h'.IsListIter it t (i+n)->Fw it s.heap h'->Q ((items.toList.drop i).take n) {s with heap:=h'})->Sg (Sk prog w) A (draw (.ref it) n) Q E s
 |0,i,s,Q,e,_,_,j=>by show Sg _ _ (pure []) Q E s;exact As (by simpa using j s.heap e (Heap.SameBut.refl ..))
 |n+1,i,s,Q,e,l,m,j=>by
  have h:i<items.size:=by lia
  show Sg _ _ (pyNext (.ref it)>>=_) Q E s;refine Ac (Lg e l (x:=items[i]) (by simp[h]) λk c a=>?_);refine Ac (Bv (IQ g n (i+1) _ _ c (l.extBut a.extBut g) (by lia) λf b d=>As ?_));have hd:items.toList.drop i=items[i]::items.toList.drop (i+1):=by simp[Fm,h]
  have:=j f (by rw[show i+(n+1)=i+1+n by lia];exact b) (a.trans d)
  rw[hd,List.take_succ_cons]at this;exact this
def N9{t:Sf}{items:Array Se}{Q:List Se->Ah->Prop}(n:A.handled=b3)(k:s.heap.IsList t items)(p:∀h',Jm s.heap.objs.size s.heap h'->Q items.toList {s with heap:=h'}):Sg (Sk prog w) A (Jj (.ref t) items.size b3) Q E s:=by
 have j:t≠s.heap.objs.size:=by obtain⟨o,l,_⟩:=k;exact Bn (Av l)
 unfold Jj;refine Ac ?_
 ·unfold notIterableAtAll
  refine Ac (wpAny_specialOf k.typeIs PySem.F.slot_list_iter.lookup ?_);refine As ?_;simp only[Du,if_false];refine Ac (Bv (Gp k ?_));have i:(s.heap.push {cls:=.type "list_iterator",data:=.fields #[.ref t,.int 0 0]}).IsList t items:=by obtain⟨o,l,r⟩:=k;exact⟨o,Ad _ l,r⟩
  refine Ac (Bv (IQ j items.size 0 _ _ ⟨_,Ax _ rfl,rfl,rfl⟩ i (by lia) λh c a=>?_));have q:List.take items.size (List.drop 0 items.toList)=items.toList:=by rw[Mo];exact Bx (by simp)
  rw[q];rw[if_neg (by simp)];have d:h.IsList t items:=i.extBut a.extBut j;refine Ac (Bv (Lr n c d (by simp) λg f=>?_));simp only[Option.isSome_none,Du,if_false];refine As (p g λb o m e=>f b o m (a.extBut b o m (Ad _ e)))
def OG{env:Env}{a:List Sj}{x1}{pos:Pos}{t:Sf}{items:Array Se}{Q:Unit->Ah->Prop}(d:A.handled=b3)(b:s.heap.IsList t items)(c:(Sh a env).length=items.size)(e:(Sh a env).findIdx? (·.1)=b3)(h:∀h',Jm s.heap.objs.size s.heap h'->Sg (Sk prog w) A (Sy ((Sh a env).map (·.2)) items.toList) Q E {s with heap:=h'}):Sg (Sk prog w) A (assign (.Tuple a x1 pos) env (.ref t)) Q E s:=by rw[assign_Tuple];refine Ac (Fy ?_);unfold unpack;rw[c,e];exact Ac (Bv (N9 d b h))
end
section
variable{X:Cx}{pos:Pos}
def gLst(K:Ao)(n:Nat)(t:TGs):TG:=λv σ H Q=>∃a xs,v=.ref a/\W7 K H a xs/\xs.length=n/\t xs σ H Q
def gL{es:List Sj}{k:Nat}{t:TGs}{n:Nat}(hc:X.calm=b5)(h:PGs X es t)(j:(Sh es X.env).length=n:=by rfl)(c:(Sh es X.env).findIdx? (·.1)=b3:=by rfl):PG X (.Tuple es k pos) (gLst X.K n t):=by intro aa s σ H v u Q I r hw;obtain⟨a,xs,l,i,hl,hw⟩:=hw;subst l;cases r;obtain⟨its,d,g,hz⟩:=I.list i;refine OG (I.ok.hd hc) g.isList (by simp[j,<-hl,d.length]) c λh' f=>?_;have m:bP X aa σ H {s with heap:=h'}:=I.kept (t':=s.toks) λb o e=>f b o (Bn (Av e)) e;exact h aa _ σ H xs _ Q m (by simpa using d) hw
def FnAt(X:Cx)(f:Sf)(sp:Sp):Prop:=∃(k:Nat) (fd:Ey) (ps:List Si),S9 X.prog X.w X.K X.mg X.base CX0 k f fd ps sp/\X5 k X.A/\Il X.K (.ref f)=b5/\OD X.K fd ps []
def jM(X:Cx)(a:TE)(t:TA):TE:=λσ H Q=>a σ H λx H1=>∃f sp,x=.ref f/\FnAt X f sp/\t σ H1 λvs H2=>sp vs H2 Q E0
def kF{x:Si}{p pos:Pos}{e:Sj}{es:List Sj}{b:TE}{t:TA}(i:PE X (.Name x p) b)(m:PA X (e::es) t)(j:Bb (e::es) X.env=(ba,eval e X.env)::Bb es X.env:=by rfl)(a:(Ex pos (Bb es X.env)).any (·.1)=ba:=by rfl):PE X (.Call (.Name x p) (e::es) [] pos) (jM X b t):=by intro aa s σ H Q I h;refine Fi (Y7 (i aa s σ H _ I h) λu s1 ⟨x,H1,n,d,f,sp,ex,F,q⟩=>?_);subst ex;obtain rfl:u=Bq f:=d;obtain⟨k,fd,ps,F,g,hk,l⟩:=F;refine W.callWith_K (h₀:=X.base) I.ok.mod.kin hk (Y7 (m pos aa s1 σ H1 _ n q) λus o ⟨vs,H2,c,r,q2⟩=>⟨c.kIn,?_⟩) j a;refine Va (dvs:=[]) (ds:=[]) F g l .nil Tg c r ?_;rw[Cz];exact q2
end
section
variable{X:Cx}{K:Ao}
def li(h:X.K=K:=by rfl):Z2 X (.type "list") (λxs H Q=>∃p ys,xs=[.ref p]/\(W7 K H p ys∨UV K H p ys)/\∀l,H l=b3->Q (.ref l) (aG H l (.lst ys))):=by subst h;exact GX
def mq(h:X.K=K:=by rfl):Z2 X (.type "tuple") (λxs H Q=>∃p ys,xs=[.ref p]/\((W7 K H p ys/\∀l,H l=b3->Q (.ref l) (aG H l (.tup ys)))∨(UV K H p ys/\Q (.ref p) H))):=by subst h;exact J9
def jI(h:X.K=K:=by rfl):Z2 X (.builtin "sorted") (λxs H Q=>∃(p:Sf) (ns:List Int),xs=[.ref p]/\W7 K H p (ns.map V.int)/\ns.length<64∧ ∀(l:Sf) (a:List Int),H l=b3->a.Perm ns->a.Pairwise (· <= ·)->Q (.ref l) (aG H l (.lst (a.map V.int)))):=by subst h;exact NK
def kIxL(h:X.K=K:=by rfl):IxR X (rIxL K):=by subst h;exact AR
def kEqD(a:X.A.units+64<cLine)(h:X.K=K:=by rfl):VY X (Di .Eq) (rEqD K):=by subst h;exact gY a
def SH(a:X.A.units+64<cLine)(h:X.K=K:=by rfl):VY X (Di .NotEq) (rNeD K):=by subst h;exact iI a
def Xo(h:X.K=K){es:List Sj}{k:Nat}{t:TGs}{n:Nat}{pos:Pos}(hc:X.calm=b5)(c:PGs X es t)(b:(Sh es X.env).length=n:=by rfl)(a:(Sh es X.env).findIdx? (·.1)=b3:=by rfl):PG X (.Tuple es k pos) (gTup K n t):=by subst h;exact Wa hc c b a
def lF(h:X.K=K){es:List Sj}{k:Nat}{t:TGs}{n:Nat}{pos:Pos}(hc:X.calm=b5)(c:PGs X es t)(b:(Sh es X.env).length=n:=by rfl)(a:(Sh es X.env).findIdx? (·.1)=b3:=by rfl):PG X (.Tuple es k pos) (gLst K n t):=by subst h;exact gL hc c b a
def Xw(h:X.K=K){tg l:Sj}{tl:TE}(hl:PE X l tl):PI X tg l (Uc K tl):=by subst h;exact Zy hl
def Ua(h:X.K=K){tg l:Sj}{tl:TE}(hl:PE X l tl):PI X tg l (iTup K tl):=by subst h;exact m7 hl
def kBm(h:X.K=K:=by rfl){o e:Sj}{es:List Sj}{to:TE}{t:TA}{name:Si}{ak ae:Pos}{T id:String}{r:V->List V->Hp->VK->Prop}(pa:PlainAttrs T)(slot:Slot T name id)(a:typeOf (.builtin id)=pure (.type "method_descriptor"))(d:MtR X id r)(c:PE X o to)(f:PA X (e::es) t)(i:Gq o name X.env (eval o X.env)=eval o X.env:=by rfl)(g:((Ex ae (Bb (e::es) X.env)).all (λx=> !x.1)&&(Mg ae (Ic [] X.env)).all (λx=>x.1.isSome)&&decide ((e::es).length+([]:List Ie).length+(if([]:List Ie).isEmpty then 0 else 1)<30))=b5:=by rfl)(j:(ak.endLine==ae.line)=b5:=by rfl)(b:Bb (e::es) X.env=(ba,eval e X.env)::Bb es X.env:=by rfl)(k:(Ex ae (Bb es X.env)).any (·.1)=ba:=by rfl):PE X (.Call (.Attribute o name ak) (e::es) [] ae) (tBM K T r to t):=by subst h;exact kx pa slot a d c f i g j b k
end
def Wh:Bj "len"=b0 (.builtin "len"):=by decide+kernel
def CH:Bj "min"=b0 (.builtin "min"):=by decide+kernel
def Xd:Bj "max"=b0 (.builtin "max"):=by decide+kernel
def II:Bj "sorted"=b0 (.builtin "sorted"):=by decide+kernel
def J7:Bj "isinstance"=b0 (.builtin "isinstance"):=by decide+kernel
def U5:Bj "list"=b0 (.type "list"):=by decide+kernel
def YX:Bj "tuple"=b0 (.type "tuple"):=by decide+kernel
def D6:Bj "range"=b0 (.type "range"):=by decide+kernel
def kH:Bj "bool"=b0 (.type "bool"):=by decide+kernel
def gU:Bj "int"=b0 (.type "int"):=by decide+kernel
def Xq:Bj "str"=b0 (.type "str"):=by decide+kernel
structure Def(P:Bh)(w:Sm)(K:Ao)(mg:Si->Option Se)(base:Sq)(x:Si)(k:Nat)(ps:List Si)(sp:Sp)(f:Sf):Prop where
 at_:mg x=b0 (.ref f)
 ok:∃fd,S9 P w K mg base CX0 k f fd ps sp/\OD K fd ps []
 kp:Il K (.ref f)=b5
section
variable{X:Cx}{x:Si}{k j:Nat}{ps:List Si}{sp:Sp}{f:Sf}{p pos:Pos}{e:Sj}{es:List Sj}{t:TA}
def O0(D:Def X.prog X.w X.K X.mg X.base x k ps sp f)(c:X5 j X.A)(hk:k<=j)(d:Gl X x)(h:PA X (e::es) t)(b:(x==("__debug__":Si))=ba:=by decide)(g:Bb (e::es) X.env=(ba,eval e X.env)::Bb es X.env:=by rfl)(a:(Ex pos (Bb es X.env)).any (·.1)=ba:=by rfl):PE X (.Call (.Name x p) (e::es) [] pos) (To sp [] E0 t):=by obtain⟨fd,F,B⟩:=D.ok;exact A6 F (c.mono hk) d D.at_ D.kp B .nil Tg h b g a
def Def.fnAt(D:Def X.prog X.w X.K X.mg X.base x k ps sp f)(a:X5 j X.A)(hk:k<=j):FnAt X f sp:=by obtain⟨fd,F,B⟩:=D.ok;exact⟨k,fd,ps,F,a.mono hk,D.kp,B⟩
end
def cD{H:Hp}{p:Sf}{o:HO}(a:H p=b3):aD H (aG H p o):=λb o' e=>by rw[bC (YJ e a)];exact e
def FU(ns:List Int):Eu (.list (ns.map Oh))=b5:=by
 have h1:Gc (.list (ns.map Oh))=b5:=by simp only[Gc,canLayAll_ints]
 have h2:Ip (.list (ns.map Oh))<=64:=by simp only[Ip,depthAll_ints];decide
 unfold Eu;rw[h1,decide_eq_true h2];rfl
abbrev SE(X:Cx)(a:Sj)(es:List Sj):Prop:=Bb (a::es) X.env=(ba,eval a X.env)::Bb es X.env
abbrev ND(x:Si):Prop:=(x==("__debug__":Si))=ba
abbrev LO(X:Cx)(x:Si):Prop:=X.fn x=b5∨X.env.scope.names.lookup x=b0 .local
inductive cM where
 |non|bl (b:Bool)|int (i:Int)|str (x:Si)|ty (n:String)|fn (x:Si)|tup (ds:List cM)|lst (ds:List cM)|dct (ks:List aS) (ds:List cM)|nst (sh:List (Option Nat)) (ds:List cM)
def FzL(K:Ao)(H:Hp)(a:Sf)(xs:List V):Prop:=
 (∃o,H a=b0 (.frz o (.lst xs)))∨
  ∃(o:Sr) (its:Array Se) (n:Nat),K.lookup a=b0 o/\o.cls=.type "list" /\o.dict=b3/\o.data=.seq its n/\its.size<=sizeLine/\a7 xs its.toList
def FzL.sq{K:Ao}{H:Hp}{a:Sf}{xs:List V}(h:FzL K H a xs):W7 K H a xs:=by
 rcases h with⟨o,h⟩|h
 ·exact .inl (.inr ⟨o,h⟩)
 ·exact .inr h
def FzM(K:Ao)(H:Hp)(M:Sf->Prop)(a:Sf)(xs:List V):Prop:=FzL K H a xs∨∃x us sub,H a=b0 (.own x)/\H x=b0 (.nst us sub)/\¬M x/\sub a=b0 xs
def FzM.sq{K:Ao}{H:Hp}{M:Sf->Prop}{a:Sf}{xs:List V}(h:FzM K H M a xs):W7 K H a xs:=by
 rcases h with h|⟨x,us,sub,h1,h2,_,z⟩
 ·exact h.sq
 ·exact .inl (.inl (.inr ⟨us,sub,xs,rfl,.inl ⟨x,h1,h2,z⟩⟩))
inductive PX(sub:Sf->Option (List V)):List V->List (Option Nat)->List V->Prop
 |nil:PX sub [] [] []
 |val {v:V}{xs vs:List V}{sh:List (Option Nat)}:(∀p,v=.ref p->sub p=b3)->PX sub xs sh vs->PX sub (v::xs) (b3::sh) (v::vs)
 |lst {p:Sf}{zs xs vs:List V}{sh:List (Option Nat)}:sub p=b0 zs->V.ref p∉xs->PX sub xs sh vs->PX sub (.ref p::xs) (b0 zs.length::sh) (zs++vs)
def RW(H:Hp)(a:Sf)(sh:List (Option Nat))(vs:List V):Prop:=∃xs sub,H a=b0 (.nst xs sub)/\(∀p zs,sub p=b0 zs->H p=b0 (.own a))/\PX sub xs sh vs
mutual
inductive aU(K:Ao)(N:Sf->Prop)(H:Hp):(Sf->Prop)->V->cM->Prop
 |non {M:Sf->Prop}:aU K N H M .non .non
 |bl {M:Sf->Prop}(b:Bool):aU K N H M (.bl b) (.bl b)
 |int {M:Sf->Prop}(i:Int):aU K N H M (.int i) (.int i)
 |str {M:Sf->Prop}(x:Si):aU K N H M (.str x) (.str x)
 |ty {M:Sf->Prop}(n:String):aU K N H M (.ty n) (.ty n)
 |fn {M:Sf->Prop}{a:Sf}{x:Si}:Ly K So x=b0 (b0 (.ref a))->aU K N H M (.ref a) (.fn x)
 |tup {M:Sf->Prop}{a:Sf}{xs:List V}{ds:List cM}:UV K H a xs->bT K N H xs ds->aU K N H M (.ref a) (.tup ds)
 |lst {M:Sf->Prop}{a:Sf}{xs:List V}{ds:List cM}:H a=b0 (.lst xs)->¬M a->bT K N H xs ds->aU K N H M (.ref a) (.lst ds)
 |fzm {M:Sf->Prop}{a:Sf}{xs:List V}{ds:List cM}:FzM K H M a xs->bT K N H xs ds->aU K N H M (.ref a) (.lst ds)
 |dct {M:Sf->Prop}{a:Sf}{kvs:List (aS×V)}{ds:List cM}:H a=b0 (.dK kvs)->¬M a->bT K N H (kvs.map Dd) ds->aU K N H M (.ref a) (.dct (kvs.map Cg) ds)
 |ktb {M:Sf->Prop}{a:Sf}{D:List (Si×V)}{ds:List cM}:KTab K a D->bT K N H (D.map Dd) ds->aU K N H M (.ref a) (.dct (D.map λp=>.inr p.1) ds)
 |nst {M:Sf->Prop}{a:Sf}{sh:List (Option Nat)}{vs:List V}{ds:List cM}:RW H a sh vs->¬M a->bT K N H vs ds->aU K N H M (.ref a) (.nst sh ds)
inductive bT(K:Ao)(N:Sf->Prop)(H:Hp):List V->List cM->Prop
 |nil:bT K N H [] []
 |cons {v:V}{vs:List V}{d:cM}{ds:List cM}:aU K N H N v d->bT K N H vs ds->bT K N H (v::vs) (d::ds)
end
inductive RepL(K:Ao)(N:Sf->Prop)(H:Hp)(M:Sf->Prop)(ds:List cM):V->Prop
 |lst {a:Sf}{xs:List V}:H a=b0 (.lst xs)->¬M a->bT K N H xs ds->RepL K N H M ds (.ref a)
 |fzm {a:Sf}{xs:List V}:FzM K H M a xs->bT K N H xs ds->RepL K N H M ds (.ref a)
inductive RepT(K:Ao)(N:Sf->Prop)(H:Hp)(ds:List cM):V->Prop
 |tup {a:Sf}{xs:List V}:UV K H a xs->bT K N H xs ds->RepT K N H ds (.ref a)
inductive RepD(K:Ao)(N:Sf->Prop)(H:Hp)(M:Sf->Prop)(ks:List aS)(ds:List cM):V->Prop
 |dct {a:Sf}{kvs:List (aS×V)}:H a=b0 (.dK kvs)->¬M a->bT K N H (kvs.map Dd) ds->ks=kvs.map Cg->RepD K N H M ks ds (.ref a)
 |ktb {a:Sf}{D:List (Si×V)}:KTab K a D->bT K N H (D.map Dd) ds->ks=D.map (λp=>.inr p.1)->RepD K N H M ks ds (.ref a)
noncomputable def RepI(K:Ao)(N:Sf->Prop)(H:Hp)(M:Sf->Prop)(v:V):cM->Prop
 |.non=>v=.non
 |.bl b=>v=.bl b
 |.int i=>v=.int i
 |.str x=>v=.str x
 |.ty n=>v=.ty n
 |.fn x=>∃a,v=.ref a/\Ly K So x=b0 (b0 (.ref a))
 |.tup ds=>RepT K N H ds v
 |.lst ds=>RepL K N H M ds v
 |.dct ks ds=>RepD K N H M ks ds v
 |.nst _ _=>True
section
variable{K:Ao}{N:Sf->Prop}{H:Hp}{M:Sf->Prop}{v:V}{d:cM}{ds:List cM}
def aU.inv(h:aU K N H M v d):RepI K N H M v d:=by
 cases h with
 |fn q=>exact⟨_,rfl,q⟩
 |tup q r=>exact .tup q r
 |lst q n r=>exact .lst q n r
 |fzm q r=>exact .fzm q r
 |dct q n r=>exact .dct q n r rfl
 |ktb q r=>exact .ktb q r rfl
 |nst _ _ _=>trivial
 |_=>rfl
def aU.onI{i:Int}(h:aU K N H M v (.int i)):v=.int i:=h.inv
def aU.onB{i:Bool}(h:aU K N H M v (.bl i)):v=.bl i:=h.inv
def aU.onS{i:Si}(h:aU K N H M v (.str i)):v=.str i:=h.inv
def aU.onL(h:aU K N H M v (.lst ds)):RepL K N H M ds v:=h.inv
def aU.onT(h:aU K N H M v (.tup ds)):RepT K N H ds v:=h.inv
def aU.onD{ks:List aS}(h:aU K N H M v (.dct ks ds)):RepD K N H M ks ds v:=h.inv
def aU.onF{x:Si}(h:aU K N H M v (.fn x)):∃a,v=.ref a/\Ly K So x=b0 (b0 (.ref a)):=h.inv
end
def aU.fzl{K:Ao}{N:Sf->Prop}{H:Hp}{M:Sf->Prop}{a:Sf}{xs:List V}{ds:List cM}(q:FzL K H a xs)(r:bT K N H xs ds):aU K N H M (.ref a) (.lst ds):=.fzm (.inl q) r
def Hard:HO->Prop
 |.tup _=>True
 |.frz _ _=>True
 |.ext _=>True
 |.own _=>True
 |_=>False
def Fr(P:Sf->Prop)(H H':Hp):Prop:=∀b o,H b=b0 o->(P b->Hard o)->H' b=b0 o
def Fr.refl(P:Sf->Prop)(H:Hp):Fr P H H:=λ_ _ h _=>h
def Fr.trans{P:Sf->Prop}{H H1 H2:Hp}(a:Fr P H H1)(b:Fr P H1 H2):Fr P H H2:=λc o h n=>b c o (a c o h n) n
def Fr.mono{P d:Sf->Prop}{H H':Hp}(a:Fr P H H')(h:∀b,P b->d b):Fr d H H':=λc o e n=>a c o e λz=>n (h c z)
def aD.fr{P:Sf->Prop}{H H':Hp}(a:aD H H'):Fr P H H':=λc o h _=>a c o h
section
variable{K:Ao}{N N' M M' P:Sf->Prop}{H H':Hp}
def Fr.tup(f:Fr P H H'){a:Sf}{xs:List V}(h:UV K H a xs):UV K H' a xs:=by
 rcases h with((h|⟨_,_,_,z,_⟩)|⟨o,h⟩)|h
 ·exact .inl (.inl (.inl (f _ _ h λ_=>trivial)))
 ·cases z
 ·exact .inl (.inr ⟨o,f _ _ h λ_=>trivial⟩)
 ·exact .inr h
def Fr.fzl(f:Fr P H H'){a:Sf}{xs:List V}(h:FzL K H a xs):FzL K H' a xs:=by
 rcases h with⟨o,h⟩|h
 ·exact .inl ⟨o,f _ _ h λ_=>trivial⟩
 ·exact .inr h
def Fr.fzm(f:Fr P H H'){M:Sf->Prop}{a:Sf}{xs:List V}(h:FzM K H M a xs)(b:∀a,P a->M a):FzM K H' M a xs:=by
 rcases h with h|⟨x,us,sub,h1,h2,n,z⟩
 ·exact .inl (f.fzl h)
 ·exact .inr ⟨x,us,sub,f _ _ h1 λ_=>trivial,f _ _ h2 λz=>absurd (b _ z) n,n,z⟩
def RW.fr{a:Sf}{sh:List (Option Nat)}{vs:List V}(h:RW H a sh vs)(f:Fr P H H')(c:¬P a):RW H' a sh vs:=let ⟨xs,sub,e,o,z⟩:=h;⟨xs,sub,f _ _ e λw=>absurd w c,λp zs b=>f _ _ (o p zs b) λ_=>trivial,z⟩
def RW.same{a:Sf}{sh:List (Option Nat)}{vs:List V}(h:RW H a sh vs)(f:aD H H'):RW H' a sh vs:=let ⟨xs,sub,e,o,z⟩:=h;⟨xs,sub,f _ _ e,λp zs b=>f _ _ (o p zs b),z⟩
def RW.there{a:Sf}{sh:List (Option Nat)}{vs:List V}(h:RW H a sh vs):∃o,H a=b0 o/\¬Hard o:=let ⟨_,_,e,_⟩:=h;⟨_,e,λz=>z⟩
def aU.fr(f:Fr P H H')(e:∀a,P a->N a){M:Sf->Prop}{v:V}{d:cM}(c:∀a,P a->M a)(h:aU K N H M v d):aU K N H' M v d:=
 aU.rec (motive_1:=λM v d _=>(∀a,P a->M a)->aU K N H' M v d) (motive_2:=λvs ds _=>bT K N H' vs ds) (λ_=>.non) (λb _=>.bl b) (λi _=>.int i) (λx _=>.str x) (λn _=>.ty n) (λq _=>.fn q) (λq _ r _=>.tup (f.tup q) r)
  (λq n _ r c=>.lst (f _ _ q λz=>absurd (c _ z) n) n r) (λq _ r c=>.fzm (f.fzm q c) r) (λq n _ r c=>.dct (f _ _ q λz=>absurd (c _ z) n) n r) (λq _ r _=>.ktb q r)
  (λq n _ r c=>.nst (q.fr f λz=>n (c _ z)) n r) .nil (λ_ _ a b=>.cons (a e) b) h c
def bT.map{c:Ao}{N':Sf->Prop}{H':Hp}(g:∀{v d},aU K N H N v d->aU c N' H' N' v d):∀{vs:List V}{ds:List cM},bT K N H vs ds->bT c N' H' vs ds:=by
 intro vs;induction vs with
 |nil=>intro ds h;cases h;exact .nil
 |cons v vs e=>intro ds h;cases h with|cons a b=>exact .cons (g a) (e b)
def bT.fr(f:Fr P H H')(b:∀a,P a->N a){vs:List V}{ds:List cM}(h:bT K N H vs ds):bT K N H' vs ds:=h.map λr=>r.fr f b b
def aU.mono(e:∀a,N' a->N a){M M':Sf->Prop}{v:V}{d:cM}(c:∀a,M' a->M a)(h:aU K N H M v d):aU K N' H M' v d:=
 aU.rec (motive_1:=λM v d _=>∀M',(∀a,M' a->M a)->aU K N' H M' v d) (motive_2:=λvs ds _=>bT K N' H vs ds) (λ_ _=>.non) (λb _ _=>.bl b) (λi _ _=>.int i) (λx _ _=>.str x) (λn _ _=>.ty n) (λq _ _=>.fn q) (λq _ r _ _=>.tup q r)
  (λq n _ r _ c=>.lst q (λz=>n (c _ z)) r) (λq _ r _ c=>.fzm (q.imp id λ⟨x,us,sub,h1,h2,n,z⟩=>⟨x,us,sub,h1,h2,λw=>n (c _ w),z⟩) r) (λq n _ r _ c=>.dct q (λz=>n (c _ z)) r) (λq _ r _ _=>.ktb q r) (λq n _ r _ c=>.nst q (λz=>n (c _ z)) r) .nil (λ_ _ a b=>.cons (a _ e) b) h M' c
def bT.mono(b:∀a,N' a->N a){vs:List V}{ds:List cM}(h:bT K N H vs ds):bT K N' H vs ds:=h.map λr=>r.mono b b
def aU.same(f:aD H H'){v:V}{d:cM}(h:aU K N H M v d):aU K N H' M v d:=h.fr f.fr (λ_ z=>z.elim) (P:=λ_=>False) λ_ z=>z.elim
def bT.same(f:aD H H'){vs:List V}{ds:List cM}(h:bT K N H vs ds):bT K N H' vs ds:=h.fr f.fr (P:=λ_=>False) λ_ z=>z.elim
theorem bT.length:∀{vs:List V}{ds:List cM},bT K N H vs ds->vs.length=ds.length
 |_,_,.nil=>rfl
 |_,_,.cons _ t=>congrArg (· +1) (bT.length t)
theorem bT.append:∀{vs ws:List V}{ds es:List cM},bT K N H vs ds->bT K N H ws es->bT K N H (vs++ws) (ds++es)
 |_,_,_,_,.nil,s=>s
 |_,_,_,_,.cons h t,s=>.cons h (bT.append t s)
theorem bT.get:∀{vs:List V}{ds:List cM}{i:Nat}{d:cM},bT K N H vs ds->ds[i]?=b0 d->∃v,vs[i]?=b0 v/\aU K N H N v d
 |_,_,_,_,.nil,e=>by simp at e
 |_,_,0,_,.cons r _,e=>by simp at e;subst e;exact⟨_,rfl,r⟩
 |_,_,i+1,x,.cons _ t,e=>by obtain⟨u,h1,h2⟩:=bT.get (i:=i) (d:=x) t (by simpa using e);exact⟨u,by simpa using h1,h2⟩
theorem bT.take:∀{vs:List V}{ds:List cM}(n:Nat),bT K N H vs ds->bT K N H (vs.take n) (ds.take n)
 |_,_,0,_=>.nil
 |_,_,_+1,.nil=>.nil
 |_,_,n+1,.cons r t=>.cons r (bT.take n t)
theorem bT.drop:∀{vs:List V}{ds:List cM}(n:Nat),bT K N H vs ds->bT K N H (vs.drop n) (ds.drop n)
 |_,_,0,r=>r
 |_,_,_+1,.nil=>.nil
 |_,_,n+1,.cons _ t=>bT.drop n t
theorem bT.set{v:V}{d:cM}(h:aU K N H N v d):∀{vs:List V}{ds:List cM}(i:Nat),bT K N H vs ds->bT K N H (vs.set i v) (ds.set i d)
 |_,_,_,.nil=>.nil
 |_,_,0,.cons _ t=>.cons h t
 |_,_,i+1,.cons q t=>.cons q (bT.set h i t)
def bT.snoc{vs:List V}{ds:List cM}{v:V}{d:cM}(r:bT K N H vs ds)(h:aU K N H N v d):bT K N H (vs++[v]) (ds++[d]):=r.append (.cons h .nil)
end
mutual
def cM.isD:cM->Bool
 |.non=>b5
 |.bl _=>b5
 |.int _=>b5
 |.str _=>b5
 |.ty _=>ba
 |.fn _=>ba
 |.tup ds=>EN ds
 |.lst ds=>EN ds
 |.dct _ _=>ba
 |.nst _ _=>ba
def EN:List cM->Bool
 |[]=>b5
 |d::ds=>d.isD&&EN ds
end
mutual
def cM.pd:cM->Mn
 |.non=>.none
 |.bl b=>.bool b
 |.int i=>.int i
 |.str x=>.str x
 |.ty _=>.none
 |.fn _=>.none
 |.tup ds=>.tuple (pds ds)
 |.lst ds=>.list (pds ds)
 |.dct _ _=>.none
 |.nst _ _=>.none
def pds:List cM->List Mn
 |[]=>[]
 |d::ds=>d.pd::pds ds
end
mutual
def cM.hard:cM->Bool
 |.tup ds=>TM ds
 |.lst _=>ba
 |.dct _ _=>ba
 |.nst _ _=>ba
 |_=>b5
def TM:List cM->Bool
 |[]=>b5
 |d::ds=>d.hard&&TM ds
end
section
variable{K:Ao}{N:Sf->Prop}{H:Hp}
def aU.dp{M:Sf->Prop}{v:V}{d:cM}(h:aU K N H M v d)(e:d.isD=b5):Dp K H v d.pd:=
 aU.rec (motive_1:=λM v d _=>d.isD=b5->Dp K H v d.pd) (motive_2:=λvs ds _=>EN ds=b5->KI K H vs (pds ds)) (λ_=>.non) (λb _=>.bl b) (λi _=>.int i) (λx _=>.str x) (λ_ h=>nomatch h) (λ_ h=>nomatch h) (λq _ r h=>.tup q (r h))
  (λq _ _ r h=>.lst (W7.of q) (r h)) (λq _ r h=>.lst q.sq (r h)) (λ_ _ _ _ h=>nomatch h) (λ_ _ _ h=>nomatch h) (λ_ _ _ _ h=>nomatch h) (λ_=>.nil) (λ_ _ a b e=>.cons (a (Dt.mp e).1) (b (Dt.mp e).2)) h e
def aU.hard{N':Sf->Prop}{M M':Sf->Prop}{v:V}{d:cM}(h:aU K N H M v d)(e:d.hard=b5):aU K N' H M' v d:=
 aU.rec (motive_1:=λM v d _=>∀M',d.hard=b5->aU K N' H M' v d) (motive_2:=λvs ds _=>TM ds=b5->bT K N' H vs ds) (λ_ _=>.non) (λb _ _=>.bl b) (λi _ _=>.int i) (λx _ _=>.str x) (λn _ _=>.ty n) (λq _ _=>.fn q) (λq _ r _ h=>.tup q (r h))
  (λ_ _ _ _ _ h=>nomatch h) (λ_ _ _ _ h=>nomatch h) (λ_ _ _ _ _ h=>nomatch h) (λ_ _ _ _ h=>nomatch h) (λ_ _ _ _ _ h=>nomatch h) (λ_=>.nil) (λ_ _ a b e=>.cons (a _ (Dt.mp e).1) (b (Dt.mp e).2)) h M' e
def bT.hard{N':Sf->Prop}:∀{vs:List V}{ds:List cM},bT K N H vs ds->TM ds=b5->bT K N' H vs ds:=by
 intro vs;induction vs with
 |nil=>intro ds h _;cases h;exact .nil
 |cons v vs c=>intro ds h e;cases h with|cons a b=>exact .cons (a.hard (Dt.mp e).1) (c b (Dt.mp e).2)
end
inductive Sl where
 |no|va (d:cM)|ow (d:cM)
abbrev Ev:=List Sl
structure Bs where
 Z:Sf->Prop
 P:Sf->Prop
 H0:Hp
 mu:Nat->Option Sf
 kp:List (V×cM)
def Nn(B:Bs)(O:Nat->Option Sf):Sf->Prop:=λa=>B.Z a∨∃i,O i=b0 a
def OA(O:Nat->Option Sf):Sf->Prop:=λa=>∃i,O i=b0 a
inductive QV(K:Ao)(N:Sf->Prop)(H:Hp)(a:Sf):cM->Prop
 |lst {xs:List V}{ds:List cM}:H a=b0 (.lst xs)->bT K N H xs ds->QV K N H a (.lst ds)
 |dct {kvs:List (aS×V)}{ds:List cM}:H a=b0 (.dK kvs)->bT K N H (kvs.map Dd) ds->QV K N H a (.dct (kvs.map Cg) ds)
 |nst {sh:List (Option Nat)}{vs:List V}{ds:List cM}:RW H a sh vs->bT K N H vs ds->QV K N H a (.nst sh ds)
theorem QV.fr{K:Ao}{N P:Sf->Prop}{H H':Hp}{a:Sf}{d:cM}(f:Fr P H H')(c:∀a,P a->N a)(b:¬P a):QV K N H a d->QV K N H' a d
 |.lst q r=>.lst (f _ _ q λz=>absurd z b) (r.fr f c)
 |.dct q r=>.dct (f _ _ q λz=>absurd z b) (r.fr f c)
 |.nst q r=>.nst (q.fr f b) (r.fr f c)
theorem QV.mono{K:Ao}{N N':Sf->Prop}{H:Hp}{a:Sf}{d:cM}(h:∀b,N' b->N b):QV K N H a d->QV K N' H a d
 |.lst q r=>.lst q (r.mono h)
 |.dct q r=>.dct q (r.mono h)
 |.nst q r=>.nst q (r.mono h)
def QV.soft{K:Ao}{N:Sf->Prop}{H:Hp}{a:Sf}{d:cM}(h:QV K N H a d):∃o,H a=b0 o/\¬Hard o:=by
 cases h with
 |lst q _=>exact⟨_,q,λz=>z⟩
 |dct q _=>exact⟨_,q,λz=>z⟩
 |nst q _=>exact q.there
def QV.rep{K:Ao}{N M:Sf->Prop}{H:Hp}{a:Sf}{d:cM}(h:QV K N H a d)(b:¬M a):aU K N H M (.ref a) d:=by
 cases h with
 |lst q r=>exact .lst q b r
 |dct q r=>exact .dct q b r
 |nst q r=>exact .nst q b r
structure Z0(K:Ao)(ml:List Nat)(B:Bs)(O:Nat->Option Sf)(H:Hp)(σ:St)(δ:Ev):Prop where
 len:σ.length=δ.length
 va:∀(i:Nat) (d:cM),δ[i]?=b0 (Sl.va d)->∃v,σ[i]?=b0 (b0 v)/\aU K (Nn B O) H (Nn B O) v d
 ow:∀(i:Nat) (d:cM),δ[i]?=b0 (Sl.ow d)->∃a,O i=b0 a/\σ[i]?=b0 (b0 (.ref a))/\QV K (Nn B O) H a d
 dom:∀(i:Nat) a,O i=b0 a->∃d,δ[i]?=b0 (Sl.ow d)
 inj:∀i j a,O i=b0 a->O j=b0 a->i=j
 old:∀i a,O i=b0 a->¬B.Z a/\(B.P a∨B.H0 a=b3)
 zin:∀a,B.Z a->∃o,H a=b0 o
 frm:Fr B.P B.H0 H
 par:(∀i a,B.mu i=b0 a->i∈ml)/\∀i∈ml,O i=B.mu i
 pin:∀a,B.P a->∃o,H a=b0 o
 kep:∀p∈B.kp,aU K (Nn B O) H (Nn B O) p.1 p.2
section
variable{K:Ao}{ml:List Nat}{B:Bs}{O:Nat->Option Sf}{H H':Hp}{σ:St}{δ δ':Ev}
def Z0.nin(S:Z0 K ml B O H σ δ){a:Sf}(h:Nn B O a):∃o,H a=b0 o:=by
 rcases h with h|⟨i,h⟩
 ·exact S.zin a h
 ·obtain⟨d,e⟩:=S.dom i a h
  obtain⟨c,b,_,w⟩:=S.ow i d e;rw[h]at b;cases b;obtain⟨o,q,_⟩:=w.soft;exact⟨o,q⟩
def Z0.new(S:Z0 K ml B O H σ δ){a:Sf}(h:H a=b3):¬Nn B O a:=λz=>by obtain⟨o,q⟩:=S.nin z;rw[h]at q;cases q
def Z0.same(S:Z0 K ml B O H σ δ)(f:aD H H'):Z0 K ml B O H' σ δ where
 len:=S.len
 va:=λi d e=>let ⟨v,a,b⟩:=S.va i d e;⟨v,a,b.same f⟩
 ow:=λi d e=>let ⟨a,b,c,w⟩:=S.ow i d e;⟨a,b,c,w.fr (P:=λ_=>False) f.fr (λ_ z=>z.elim) λz=>z⟩
 dom:=S.dom
 inj:=S.inj
 old:=S.old
 zin:=λa h=>let ⟨o,q⟩:=S.zin a h;⟨o,f _ _ q⟩
 frm:=S.frm.trans f.fr
 par:=S.par
 pin:=λa h=>let ⟨o,q⟩:=S.pin a h;⟨o,f _ _ q⟩
 kep:=λp h=>(S.kep p h).same f
def Z0.fresh(S:Z0 K ml B O H σ δ){a:Sf}(h:H a=b3):B.H0 a=b3:=by
 cases q:B.H0 a with
 |none=>rfl
 |some o=>
  by_cases b:B.P a
  ·obtain⟨o',e⟩:=S.pin a b
   rw[h]at e;cases e
  ·have := S.frm a o q λz => absurd z b
   rw[h]at this;cases this
def Bs.add(B:Bs)(p:Sf):Bs:={B with Z:=λa=>B.Z a∨a=p}
def QI{p:Sf}:∀a,Nn B O a->Nn (B.add p) O a:=λa h=>by
 rcases h with h|h
 ·exact .inl (.inl h)
 ·exact .inr h
def aU.away{p:Sf}(f:H p=b3)(N N':Sf->Prop)(g:∀a,N' a->N a∨a=p){M M':Sf->Prop}{v:V}{d:cM}(c:∀a,M' a->M a∨a=p)(h:aU K N H M v d):aU K N' H M' v d:=
 have no:∀{a:Sf}{o:HO}{M M':Sf->Prop},H a=b0 o->¬M a->(∀a,M' a->M a∨a=p)->¬M' a:=λq n c z=>(c _ z).elim n λe=>by rw[e,f]at q;cases q
 aU.rec (motive_1:=λM v d _=>∀M',(∀a,M' a->M a∨a=p)->aU K N' H M' v d) (motive_2:=λvs ds _=>bT K N' H vs ds) (λ_ _=>.non) (λb _ _=>.bl b) (λi _ _=>.int i) (λx _ _=>.str x) (λn _ _=>.ty n) (λq _ _=>.fn q) (λq _ r _ _=>.tup q r)
  (λq n _ r _ c=>.lst q (no q n c) r) (λq _ r _ c=>.fzm (q.imp id λ⟨x,us,sub,h1,h2,n,z⟩=>⟨x,us,sub,h1,h2,no h2 n c,z⟩) r) (λq n _ r _ c=>.dct q (no q n c) r) (λq _ r _ _=>.ktb q r) (λq n _ r _ c=>.nst q (let ⟨_,e,_⟩:=q.there;no e n c) r) .nil (λ_ _ a b=>.cons (a _ g) b) h M' c
def bT.away{p:Sf}(c:H p=b3)(N N':Sf->Prop)(b:∀a,N' a->N a∨a=p){vs:List V}{ds:List cM}(h:bT K N H vs ds):bT K N' H vs ds:=h.map λr=>r.away c N N' b b
def WD{p:Sf}:∀a,Nn (B.add p) O a->Nn B O a∨a=p:=λa h=>by
 rcases h with(h|h)|h
 ·exact .inl (.inl h)
 ·exact .inr h
 ·exact .inl (.inr h)
def Z0.laid(S:Z0 K ml B O H σ δ){p:Sf}{o:HO}(f:H p=b3):Z0 K ml (B.add p) O (aG H p o) σ δ where
 len:=S.len
 va:=λi d e=>let ⟨v,a,b⟩:=S.va i d e;⟨v,a,(b.away f _ _ WD WD).same (cD f)⟩
 ow:=λi d e=>by
  obtain⟨a,b,c,w⟩:=S.ow i d e;refine⟨a,b,c,?_⟩;have g:∀o,H a=b0 o->aG H p o=aG H p o:=λ_ _=>rfl;cases w with
  |lst q r=>exact .lst (cD f _ _ q) ((r.away f _ _ WD).same (cD f))
  |dct q r=>exact .dct (cD f _ _ q) ((r.away f _ _ WD).same (cD f))
  |nst q r=>exact .nst (q.same (cD f)) ((r.away f _ _ WD).same (cD f))
 dom:=S.dom
 inj:=S.inj
 old:=λi a h=>by
  refine⟨λz=>?_,(S.old i a h).2⟩;rcases z with z|z
  ·exact(S.old i a h).1 z
  ·obtain⟨o,q⟩:=S.nin (.inr ⟨i,h⟩)
   rw[z,f]at q;cases q
 zin:=λa h=>by
  rcases h with h|h
  ·obtain⟨o,q⟩:=S.zin a h
   exact⟨o,cD f _ _ q⟩
  ·exact⟨_,by rw[h];exact bU⟩
 frm:=S.frm.trans (cD f).fr
 par:=S.par
 pin:=λa h=>let ⟨o,q⟩:=S.pin a h;⟨o,cD f _ _ q⟩
 kep:=λp h=>((S.kep p h).away f _ _ WD WD).same (cD f)
def NA{i:Nat}{o:Option Sf}:∀a,Nn B (λj=>if j=i then b3 else O j) a->Nn B O a:=λa h=>by
 rcases h with h|⟨j,h⟩
 ·exact .inl h
 ·refine .inr ⟨j,?_⟩
  by_cases b:j=i
  ·simp[b]at h
  ·simpa[b]using h
def RO{α:Type}{l:List α}{i j:Nat}{x y:α}(h:(l.set i x)[j]?=b0 y):(j=i/\y=x/\i<l.length)∨(j≠i/\l[j]?=b0 y):=by
 by_cases a:j=i
 ·subst a
  rw[List.getElem?_set_self']at h;obtain⟨z,q,h⟩:=Am.mp h;cases h;exact .inl ⟨rfl,rfl,(Af.mp q).1⟩
 ·rw[Ca (Dj a)]at h
  exact .inr ⟨a,h⟩
def Z0.setVa(S:Z0 K ml B O H σ δ){i:Nat}{v:V}{d:cM}(m:i∉ml)(h:aU K (Nn B O) H (Nn B O) v d):Z0 K ml B (λj=>if j=i then b3 else O j) H (σ.set i (b0 v)) (δ.set i (.va d)) where
 len:=by rw[Cf,Cf,S.len]
 va:=λj e q=>by
  rcases RO q with⟨rfl,z,hl⟩|⟨b,q⟩
  ·cases z
   exact⟨v,by rw[Dg (by rw[S.len];exact hl)],h.mono (NA (o:=b3)) (NA (o:=b3))⟩
  ·obtain⟨u,c,r⟩:=S.va j e q
   exact⟨u,by rw[Ca (Dj b)];exact c,r.mono (NA (o:=b3)) (NA (o:=b3))⟩
 ow:=λj e q=>by
  rcases RO q with⟨rfl,z,hl⟩|⟨b,q⟩
  ·cases z
  ·obtain⟨a,c,f,w⟩:=S.ow j e q
   exact⟨a,by simpa[b]using c,by rw[Ca (Dj b)];exact f,w.mono (NA (o:=b3))⟩
 dom:=λj a e=>by
  by_cases b:j=i
  ·simp[b]at e
  ·obtain ⟨d,q⟩ := S.dom j a (by simpa [b]using e)
   exact⟨d,by rw[Ca (Dj b)];exact q⟩
 inj:=λj k a c f=>by
  by_cases b:j=i
  ·simp[b]at c
  ·by_cases hk:k=i
   ·simp[hk]at f
   ·exact S.inj j k a (by simpa[b]using c) (by simpa[hk]using f)
 old:=λj a e=>by
  by_cases b:j=i
  ·simp[b]at e
  ·exact S.old j a (by simpa[b]using e)
 zin:=S.zin
 frm:=S.frm
 par:=⟨S.par.1,λj b=>by have g:j≠i:=λz=>m (z▸b);have h2:O j=B.mu j:=S.par.2 j b;simpa[g]using h2⟩
 pin:=S.pin
 kep:=λp l=>(S.kep p l).mono (NA (o:=b3)) (NA (o:=b3))
def N0{i:Nat}{p:Sf}:∀a,Nn B (λj=>if j=i then b0 p else O j) a->Nn (B.add p) O a:=λa h=>by
 rcases h with h|⟨j,h⟩
 ·exact .inl (.inl h)
 ·by_cases b:j=i
  ·simp[b]at h
   exact .inl (.inr h.symm)
  ·exact .inr ⟨j,by simpa[b]using h⟩
def Z0.setOw{p:Sf}(S:Z0 K ml (B.add p) O H σ δ){i:Nat}{d:cM}(m:i∉ml)(hl:i<δ.length)(hz:¬B.Z p)(n:B.H0 p=b3)(h:QV K (Nn (B.add p) O) H p d):
  Z0 K ml B (λj=>if j=i then b0 p else O j) H (σ.set i (b0 (.ref p))) (δ.set i (.ow d)) where
 len:=by rw[Cf,Cf,S.len]
 va:=λj e q=>by
  rcases RO q with⟨rfl,z,_⟩|⟨b,q⟩
  ·cases z
  ·obtain⟨u,c,r⟩:=S.va j e q
   exact⟨u,by rw[Ca (Dj b)];exact c,r.mono N0 N0⟩
 ow:=λj e q=>by
  rcases RO q with⟨rfl,z,hl⟩|⟨b,q⟩
  ·cases z
   exact⟨p,by simp,by rw[Dg (by rw[S.len];exact hl)],h.mono N0⟩
  ·obtain⟨a,c,f,w⟩:=S.ow j e q
   exact⟨a,by simpa[b]using c,by rw[Ca (Dj b)];exact f,w.mono N0⟩
 dom:=λj a e=>by
  by_cases b:j=i
  ·subst b
   exact⟨d,by rw[Dg hl]⟩
  ·obtain ⟨d,q⟩ := S.dom j a (by simpa [b]using e)
   exact⟨d,by rw[Ca (Dj b)];exact q⟩
 inj:=λj k a c f=>by
  by_cases b:j=i
  ·by_cases hk:k=i
   ·rw[b,hk]
   ·simp[b]at c
    simp[hk]at f;exact absurd (.inr c.symm) (S.old k a f).1
  ·by_cases hk:k=i
   ·simp[hk]at f
    simp[b]at c;exact absurd (.inr f.symm) (S.old j a c).1
   ·exact S.inj j k a (by simpa[b]using c) (by simpa[hk]using f)
 old:=λj a e=>by
  by_cases b:j=i
  ·simp[b]at e
   subst e;exact⟨hz,.inr n⟩
  ·have := S.old j a (by simpa [b]using e)
   exact⟨λz=>this.1 (.inl z),this.2⟩
 zin:=λa h=>S.zin a (.inl h)
 frm:=S.frm
 par:=⟨S.par.1,λj b=>by have g:j≠i:=λz=>m (z▸b);have h2:O j=B.mu j:=S.par.2 j b;simpa[g]using h2⟩
 pin:=S.pin
 kep:=λp l=>(S.kep p l).mono N0 N0
def Z0.wrote(S:Z0 K ml B O H σ δ){i:Nat}{a:Sf}{d:cM}{o:HO}(e:O i=b0 a)(D:¬Hard o)(h:QV K (Nn B O) (aG H a o) a d):Z0 K ml B O (aG H a o) σ (δ.set i (.ow d)):=by
 have x:Fr (λb=>b=a) H (aG H a o):=λb u q n=>by
  by_cases f:b=a
  ·subst f
   obtain⟨d',s⟩:=S.dom i b e;obtain⟨m,c,_,w⟩:=S.ow i d' s;rw[e]at c;cases c;obtain⟨A,q1,t⟩:=w.soft;rw[q]at q1;cases q1;exact absurd (n rfl) t
  ·rw[bC f]
   exact q
 have l:∀b,b=a->Nn B O b:=λb z=>.inr ⟨i,z▸e⟩;have k:∀b,(∃u,H b=b0 u)->∃u,aG H a o b=b0 u:=λb q0=>by
  obtain⟨u,q⟩:=q0;by_cases f:b=a
  ·exact⟨o,by rw[f];exact bU⟩
  ·exact⟨u,by rw[bC f];exact q⟩
 refine⟨by rw[Cf,S.len],λj d' q=>?_,λj d' q=>?_,λj b q=>?_,S.inj,S.old,λb h=>k b (S.zin b h),?_,S.par,λb h=>k b (S.pin b h),λp C=>(S.kep p C).fr x l l⟩
 ·rcases RO q with⟨_,z,_⟩|⟨g,q⟩
  ·cases z
  ·obtain⟨v,c,r⟩:=S.va j d' q
   exact⟨v,c,r.fr x l l⟩
 ·rcases RO q with⟨rfl,z,hl⟩|⟨g,q⟩
  ·cases z
   obtain⟨d0,q0⟩:=S.dom j a e;obtain⟨m,c,y,_⟩:=S.ow j d0 q0;rw[e]at c;cases c;exact⟨a,e,y,h⟩
  ·obtain⟨m,c,y,w⟩:=S.ow j d' q
   exact⟨m,c,y,w.fr x l λz=>g (S.inj j i a (z▸c) e)⟩
 ·by_cases g:j=i
  ·subst g
   obtain⟨d0,q0⟩:=S.dom j b q;exact⟨d,by rw[Dg (Af.mp q0).1]⟩
  ·obtain⟨d0,q0⟩:=S.dom j b q
   exact⟨d0,by rw[Ca (Dj g)];exact q0⟩
 ·intro b u q n
  have h1:=S.frm b u q n;by_cases f:b=a
  ·subst f
   rcases(S.old i b e).2 with z|z
   ·obtain⟨d',s⟩:=S.dom i b e
    obtain⟨m,c,_,w⟩:=S.ow i d' s;rw[e]at c;cases c;obtain⟨A,q1,t⟩:=w.soft;rw[h1]at q1;cases q1;exact absurd (n z) t
   ·rw[q]at z
    cases z
  ·rw[bC f]
   exact h1
def Z0.keepV(S:Z0 K ml B O H σ δ){ps:List (V×cM)}(h:∀p∈ps,aU K (Nn B O) H (Nn B O) p.1 p.2):Z0 K ml {B with kp:=ps++B.kp} O H σ δ:=
 ⟨S.len,S.va,S.ow,S.dom,S.inj,S.old,S.zin,S.frm,S.par,S.pin,λp a=>(Bo.mp a).elim (h p) (S.kep p)⟩
def Z0.unkeep{ps:List (V×cM)}(S:Z0 K ml {B with kp:=ps++B.kp} O H σ δ):Z0 K ml B O H σ δ:=
 ⟨S.len,S.va,S.ow,S.dom,S.inj,S.old,S.zin,S.frm,S.par,S.pin,λp a=>S.kep p (Br _ a)⟩
end
def rz(B:Bs):Sf->Prop:=λa=>B.Z a∨∃i,B.mu i=b0 a
def av(B:Bs)(O:Nat->Option Sf)(b:Bool):Sf->Prop:=if b then Nn B O else λa=>Nn B O a/\rz B a
def at_(B:Bs)(O:Nat->Option Sf)(b:Bool):Sf->Prop:=if b then Nn B O else λ_=>False
def Vw{B:Bs}{O:Nat->Option Sf}{b:Bool}:∀a,at_ B O b a->av B O b a:=λa h=>by
 cases b with
 |true=>exact h
 |false=>exact h.elim
def gE{B:Bs}{O:Nat->Option Sf}{b c:Bool}(h:b=b5->c=b5):∀a,at_ B O b a->at_ B O c a:=λa z=>by
 cases b with
 |true=>rw[h rfl];exact z
 |false=>exact z.elim
def Z0.rzn{K:Ao}{ml:List Nat}{B:Bs}{O:Nat->Option Sf}{H:Hp}{σ:St}{δ:Ev}(S:Z0 K ml B O H σ δ):∀a,rz B a->Nn B O a:=λa h=>by
 rcases h with h|⟨i,h⟩
 ·exact .inl h
 ·exact .inr ⟨i,(S.par.2 i (S.par.1 i a h)).trans h⟩
def Z0.rza{K:Ao}{ml:List Nat}{B:Bs}{O:Nat->Option Sf}{H:Hp}{σ:St}{δ:Ev}(S:Z0 K ml B O H σ δ){b:Bool}:∀a,rz B a->av B O b a:=λa h=>by
 cases b with
 |true=>exact S.rzn a h
 |false=>exact⟨S.rzn a h,h⟩
def OI{B:Bs}{O:Nat->Option Sf}{b c:Bool}(h:b=b5->c=b5):∀a,av B O b a->av B O c a:=λa z=>by
 cases b with
 |true=>rw[h rfl];exact z
 |false=>cases c with
  |true=>exact z.1
  |false=>exact z
structure Res(K:Ao)(ml:List Nat)(B:Bs)(O:Nat->Option Sf)(H:Hp)(σ:St)(pu bt bi:Bool)(H':Hp)(δ':Ev)(v:V)(d:cM):Prop where
 sta:Z0 K ml B O H' σ δ'
 frm:Fr (OA O) H H'
 pur:pu=b5->aD H H'
 rep:aU K (av B O bi) H' (at_ B O bt) v d
abbrev VF:=Ev->Option (cM×Ev)
inductive TVi(K:Ao)(ml:List Nat)(pu bt bi:Bool)(f:VF)(σ:St)(H:Hp)(Q:VK):Prop
 |mk (B:_) (O:_) (δ:_) (d:_) (δ':_) (h0:Z0 K ml B O H σ δ) (h1:f δ=b0 (d,δ')) (h2:∀v H',Res K ml B O H σ pu bt bi H' δ' v d->Q v H'):TVi K ml pu bt bi f σ H Q
def TV(K:Ao)(ml:List Nat)(pu bt bi:Bool)(f:VF):TE:=λσ H Q=>TVi K ml pu bt bi f σ H Q
def PE.imp{X:Cx}{e:Sj}{t u:TE}(h:PE X e t)(k:∀σ H Q,u σ H Q->t σ H Q):PE X e u:=λaa s σ H Q I w=>h aa s σ H Q I (k σ H Q w)
def PT.imp{X:Cx}{e:Sj}{t u:TT}(h:PT X e t)(k:∀σ H Q,u σ H Q->t σ H Q):PT X e u:=λaa s σ H Q I w=>h aa s σ H Q I (k σ H Q w)
def PW.imp{X:Cx}{e:Sj}{t u:TT}(h:PW X e t)(k:∀σ H Q,u σ H Q->t σ H Q):PW X e u:=λa aa s σ H Q I w=>h a aa s σ H Q I (k σ H Q w)
def PA.imp{X:Cx}{e:List Sj}{t u:TA}(h:PA X e t)(k:∀σ H Q,u σ H Q->t σ H Q):PA X e u:=λpos aa s σ H Q I w=>h pos aa s σ H Q I (k σ H Q w)
def PS.imp{X:Cx}{e:Su}{t u:TS}(h:PS X e t)(k:∀D σ H,u D σ H->t D σ H):PS X e u:=λaa s σ H D I w=>h aa s σ H D I (k D σ H w)
def NH.imp{X:Cx}{e:List Su}{t u:TS}(h:NH X e t)(k:∀D σ H,u D σ H->t D σ H):NH X e u:=λaa s σ H D I w=>h aa s σ H D I (k D σ H w)
section
variable{X:Cx}{K:Ao}{ml:List Nat}{e a b c:Sj}{pa ta ia pb tb ib pc tc ic:Bool}{fa fb fc:VF}{r:R2}{o:cM->cM->Option cM}{B:Bs}{O:Nat->Option Sf}{H H1 H':Hp}{σ:St}{δ δ':Ev}{v:V}{d:cM}
def fC(d:cM):VF:=λδ=>b0 (d,δ)
def Res.refl{pu bt bi:Bool}(S:Z0 K ml B O H σ δ)(h:aU K (av B O bi) H (at_ B O bt) v d):Res K ml B O H σ pu bt bi H δ v d:=⟨S,Fr.refl _ _,λ_=>aD.refl _,h⟩
def ve_c(h:PE X e (tC v))(b:∀N H M,aU K N H M v d):PE X e (TV K ml b5 b5 b5 (fC d)):=h.imp λσ H Q a=>by obtain⟨B,O,δ,d',δ',S,q,k⟩:=a;cases q;exact k v H (Res.refl S (b _ _ _))
def cK{i j pos}:PE X (.Constant (.int i) j pos) (TV K ml b5 b5 b5 (fC (.int i))):=ve_c WZ λ_ _ _=>.int i
def XA{i j pos}:PE X (.Constant (.bool i) j pos) (TV K ml b5 b5 b5 (fC (.bl i))):=ve_c eC λ_ _ _=>.bl i
def a6{j pos}:PE X (.Constant .none j pos) (TV K ml b5 b5 b5 (fC .non)):=ve_c jZ λ_ _ _=>.non
def b9{i j pos}:PE X (.Constant (.str i) j pos) (TV K ml b5 b5 b5 (fC (.str i))):=ve_c Yz λ_ _ _=>.str i
noncomputable def fV(i:Nat):VF:=λδ=>match δ[i]? with
 |some (.va d)=>b0 (d,δ)
 |_=>b3
noncomputable def fO(i:Nat):VF:=λδ=>match δ[i]? with
 |some (.va d)=>b0 (d,δ)
 |some (.ow d)=>b0 (d,δ)
 |_=>b3
def jR{i:Nat}(h:PE X e (WF i)):PE X e (TV K ml b5 b5 b5 (fV i)):=h.imp λσ H Q a=>by
 obtain⟨B,O,δ,d',δ',S,q,k⟩:=a;unfold fV at q;split at q
 ·rename_i d hd
  cases q;obtain⟨v,b,r⟩:=S.va i _ hd;exact⟨v,b,k v H (Res.refl S r)⟩
 ·cases q
def Zr{i:Nat}(h:PE X e (WF i)):PE X e (TV K ml b5 ba b5 (fO i)):=h.imp λσ H Q b=>by
 obtain⟨B,O,δ,d',δ',S,q,k⟩:=b;unfold fO at q;split at q
 ·rename_i d hd
  cases q;obtain⟨v,c,r⟩:=S.va i _ hd;exact⟨v,c,k v H (Res.refl S (r.mono (λ_ z=>z) λa z=>z.elim))⟩
 ·rename_i d hd
  cases q;obtain⟨a,c,f,w⟩:=S.ow i _ hd;exact⟨.ref a,f,k _ H (Res.refl S (w.rep λz=>z))⟩
 ·cases q
def Res.live{H2:Hp}{c:V}{e:cM}(R2:Res K ml B O H1 σ pb tb ib H2 δ' c e)(b:(pb || (ta&&ia))=b5)(h:aU K (av B O ia) H1 (at_ B O ta) v d):aU K (av B O ia) H2 (at_ B O ta) v d:=by
 cases pb with
 |true=>exact h.same (R2.pur rfl)
 |false=>
  have b:(ta&&ia)=b5:=by simpa using b
  obtain⟨h1,h2⟩:=(Ag _ _).mp b;subst h1 h2;exact h.fr R2.frm (λa z=>.inr z) λa z=>.inr z
noncomputable def f2(o:cM->cM->Option cM)(fa fb:VF):VF:=λδ=>(fa δ).bind λp=>(fb p.2).bind λq=>(o p.1 q.1).map λc=>(c,q.2)
def NN{δ2:Ev}(h:f2 o fa fb δ=b0 (d,δ2)):∃x δ1 y,fa δ=b0 (x,δ1)/\fb δ1=b0 (y,δ2)/\o x y=b0 d:=by
 unfold f2 at h;cases h1:fa δ with
 |none=>rw[h1]at h;cases h
 |some p=>
  rw[h1]at h;cases h2:fb p.2 with
  |none=>simp[h2]at h
  |some q=>
   simp only[Ai,h2]at h;obtain⟨c,a,h⟩:=Am.mp h;cases h;exact⟨p.1,p.2,q.1,rfl,h2,a⟩
def M0(K:Ao)(r:R2)(o:cM->cM->Option cM):Prop:=∀(H:Hp) (N N' M M':Sf->Prop) (x y:V) (d e c:cM) (Q:VK),aU K N H M x d->aU K N' H M' y e->o d e=b0 c->(∀v,(∀H' N M,aU K N H' M v c)->Q v H)->r x y H Q
def OpC(K:Ao)(r:R2)(o:cM->cM->Option cM):Prop:=∀(H:Hp) (N M M':Sf->Prop) (x y:V) (d e c:cM) (Q:VK),aU K N H M x d->aU K N H M' y e->o d e=b0 c->
 (∀v H',aD H H'->(∀M,(∀a,M a->∃o,H a=b0 o)->aU K N H' M v c)->Q v H')->r x y H Q
def OpI(K:Ao)(r:R2)(o:cM->cM->Option cM):Prop:=∀(H:Hp) (N N' M M':Sf->Prop) (x y:V) (d e c:cM) (Q:VK),aU K N H M x d->aU K N' H M' y e->o d e=b0 c->(∀v,aU K N H N v c->Q v H)->r x y H Q
def DP(j:M0 K r o)(i:(pb || (ta&&ia))=b5){Q:VK}(h:TV K ml (pa&&pb) b5 b5 (f2 o fa fb) σ H Q):tOp r (TV K ml pa ta ia fa) (TV K ml pb tb ib fb) σ H Q:=by
 obtain⟨B,O,δ,d,δ2,S,q,k⟩:=h;obtain⟨x,δ1,y,h1,h2,l⟩:=NN q;refine⟨B,O,δ,x,δ1,S,h1,λf H1 a=>⟨B,O,δ1,y,δ2,a.sta,h2,λe H2 R2=>?_⟩⟩;exact j H2 _ _ _ _ f e x y d Q (R2.live i a.rep) R2.rep l λv g=>k v H2 ⟨R2.sta,a.frm.trans R2.frm,λz=>by obtain⟨c,b⟩:=(Ag _ _).mp z;exact(a.pur c).trans (R2.pur b),g _ _ _⟩
def Yi(m:OpC K r o)(l:(pb || (ta&&ia))=b5){Q:VK}(h:TV K ml (pa&&pb) b5 (ia&&ib) (f2 o fa fb) σ H Q):tOp r (TV K ml pa ta ia fa) (TV K ml pb tb ib fb) σ H Q:=by obtain⟨B,O,δ,d,δ2,S,q,k⟩:=h;obtain⟨x,δ1,y,h1,h2,n⟩:=NN q;refine⟨B,O,δ,x,δ1,S,h1,λi H1 b=>⟨B,O,δ1,y,δ2,b.sta,h2,λg H2 R2=>?_⟩⟩;have s:∀a,av B O (ia&&ib) a->av B O ia a:=OI λz=>((Ag _ _).mp z).1;have p:∀a,av B O (ia&&ib) a->av B O ib a:=OI λz=>((Ag _ _).mp z).2;refine m H2 (av B O (ia&&ib)) _ _ i g x y d Q ((R2.live l b.rep).mono s λ_ z=>z) (R2.rep.mono p λ_ z=>z) n λv t c j=>k v t ⟨R2.sta.same c,(b.frm.trans R2.frm).trans c.fr,λz=>?_,j _ λa z=>R2.sta.nin z⟩;obtain⟨f,e⟩:=(Ag _ _).mp z;exact((b.pur f).trans (R2.pur e)).trans c
def dI(j:OpI K r o)(i:(pb || (ta&&ia))=b5){Q:VK}(h:TV K ml (pa&&pb) ia ia (f2 o fa fb) σ H Q):tOp r (TV K ml pa ta ia fa) (TV K ml pb tb ib fb) σ H Q:=by
 obtain⟨B,O,δ,d,δ2,S,q,k⟩:=h;obtain⟨x,δ1,y,h1,h2,l⟩:=NN q;refine⟨B,O,δ,x,δ1,S,h1,λf H1 a=>⟨B,O,δ1,y,δ2,a.sta,h2,λe H2 R2=>?_⟩⟩;exact j H2 _ _ _ _ f e x y d Q (R2.live i a.rep) R2.rep l λv g=>k v H2 ⟨R2.sta,a.frm.trans R2.frm,λz=>by obtain⟨c,b⟩:=(Ag _ _).mp z;exact(a.pur c).trans (R2.pur b),g.mono (λ_ z=>z) Vw⟩
def ZN{op:Operator}{pos:Pos}(e:VY X (Fn op) r)(c:M0 K r o)(g:PE X a (TV K ml pa ta ia fa))(f:PE X b (TV K ml pb tb ib fb))(d:(pb || (ta&&ia))=b5:=by rfl):PE X (.BinOp a op b pos) (TV K ml (pa&&pb) b5 b5 (f2 o fa fb)):=
 (Up e g f).imp λ_ _ _ h=>DP c d h
def bD{op:Operator}{pos:Pos}(e:VY X (Fn op) r)(c:OpC K r o)(g:PE X a (TV K ml pa ta ia fa))(f:PE X b (TV K ml pb tb ib fb))(d:(pb || (ta&&ia))=b5:=by rfl):PE X (.BinOp a op b pos) (TV K ml (pa&&pb) b5 (ia&&ib) (f2 o fa fb)):=
 (Up e g f).imp λ_ _ _ h=>Yi c d h
def XO{op:CmpOp}{pos:Pos}(e:VY X (Di op) r)(c:M0 K r o)(i:PE X a (TV K ml pa ta ia fa))(g:PE X b (TV K ml pb tb ib fb))(f:Hj op b=ba:=by exact HG _)(d:(pb || (ta&&ia))=b5:=by rfl):PE X (.Compare a [op] [b] pos) (TV K ml (pa&&pb) b5 b5 (f2 o fa fb)):=
 (Zt e i g f).imp λ_ _ _ h=>DP c d h
def eG{pos:Pos}(f:IxR X r)(d:OpI K r o)(i:PE X a (TV K ml pa ta ia fa))(g:PE X b (TV K ml pb tb ib fb))(c:V5 b)(e:(pb || (ta&&ia))=b5:=by rfl):PE X (.Subscript a b pos) (TV K ml (pa&&pb) ia ia (f2 o fa fb)):=
 (LI f i g c).imp λ_ _ _ h=>dI d e h
noncomputable def oI(C:Int->Int->Bool)(g:Int->Int->cM):cM->cM->Option cM
 |.int i,.int j=>if C i j=b5 then b0 (g i j)else b3
 |_,_=>b3
def Wy{C:Int->Int->Bool}{g:Int->Int->cM}{d e c:cM}(h:oI C g d e=b0 c):∃i j,d=.int i/\e=.int j/\C i j=b5/\c=g i j:=by
 unfold oI at h;split at h
 ·split at h
  ·rename_i hc
   cases h;exact⟨_,_,rfl,rfl,hc,rfl⟩
  ·cases h
 ·cases h
def A1{C:Int->Int->Prop}{a:Int->Int->Bool}{g:Int->Int->V}{g':Int->Int->cM}(m:∀i j,a i j=b5->C i j)(l:∀i j N H M,aU K N H M (g i j) (g' i j)):M0 K (rI C g) (oI a g'):=by intro H N N' M M' x y d e c Q f b h k;obtain⟨i,j,rfl,rfl,hc,rfl⟩:=Wy h;cases f.onI;cases b.onI;exact⟨_,_,rfl,rfl,m _ _ hc,k _ λ_ _ _=>l ..⟩
def LG{g:Int->Int->V}{g':Int->Int->cM}(f:∀i j N H M,aU K N H M (g i j) (g' i j)):M0 K (DE g) (oI (λ_ _=>b5) g'):=by intro H N N' M M' x y d e c Q b a h k;obtain⟨i,j,rfl,rfl,hc,rfl⟩:=Wy h;cases b.onI;cases a.onI;exact⟨_,_,rfl,rfl,k _ λ_ _ _=>f ..⟩
noncomputable def GR(i j:Int):Bool:=(decide (-18446744073709551616<i)&&decide (i<18446744073709551616)) || (decide (-18446744073709551616<j)&&decide (j<18446744073709551616))
noncomputable def GQ(i j:Int):Bool:=decide (0<j)&&decide (j<1073741824)
def cPow(i j:Int):Bool:=decide (0<=j)&&decide (j<=1000000)&&decide (i.natAbs<18446744073709551616)
abbrev SM:=oI (λ_ _=>b5) λi j=>.int (i-j)
abbrev oMul:=oI GR λi j=>.int (i*j)
abbrev LB:=oI GQ λi j=>.int (i/j)
abbrev MW:=oI (λ_ j=>decide (0<j)) λi j=>.int (i % j)
abbrev oPow:=oI cPow λi j=>.int (i ^ j.toNat)
abbrev oLt:=oI (λ_ _=>b5) λi j=>.bl (decide (i<j))
abbrev oLe:=oI (λ_ _=>b5) λi j=>.bl (decide (i<=j))
abbrev oGt:=oI (λ_ _=>b5) λi j=>.bl (decide (j<i))
abbrev oGe:=oI (λ_ _=>b5) λi j=>.bl (decide (j<=i))
def U8:M0 K (DE λi j=>.int (i-j)) SM:=LG λi j _ _ _=>.int _
def fS:M0 K (rI CMul λi j=>.int (i*j)) oMul:=A1 (λi j h=>by
 have p:(2:Int) ^ 64=18446744073709551616:=by decide
 unfold CMul;rw[p];simpa[GR]using h) λi j _ _ _=>.int _
def LX:M0 K (rI CDiv λi j=>.int (i/j)) LB:=A1 (λi j h=>by show 0<j/\j<1073741824;simpa[GQ]using h) λi j _ _ _=>.int _
def SU:M0 K (rI (λ_ j=>0<j) λi j=>.int (i % j)) MW:=A1 (λi j h=>by simpa using h) λi j _ _ _=>.int _
def lM:M0 K (rI CPow λi j=>.int (i ^ j.toNat)) oPow:=A1 (λi j h=>by
 have p:(2:Nat) ^ 64=18446744073709551616:=by decide
 unfold CPow;rw[p];simpa[cPow,and_assoc]using h) λi j _ _ _=>.int _
def s_lt:M0 K (DE λi j=>.bl (decide (i<j))) oLt:=LG λi j _ _ _=>.bl _
def s_le:M0 K (DE λi j=>.bl (decide (i<=j))) oLe:=LG λi j _ _ _=>.bl _
def DJ:M0 K (DE λi j=>.bl (decide (j<i))) oGt:=LG λi j _ _ _=>.bl _
def s_ge:M0 K (DE λi j=>.bl (decide (j<=i))) oGe:=LG λi j _ _ _=>.bl _
def GF(d:cM):Bool:=d.isD&&Eu d.pd
def eqD(d e:cM):Bool:=Je d.pd e.pd
def X7(d e:cM):Option cM:=if(GF d&&GF e)=b5 then b0 (.bl (eqD d e))else b3
def QW(d e:cM):Option cM:=if(GF d&&GF e)=b5 then b0 (.bl (!eqD d e))else b3
def s_eq:M0 K (rEqD K) X7:=by
 intro H N N' M M' x y d e c Q f b h k;unfold X7 at h;split at h
 ·rename_i a
  cases h;simp only[GF,Ag]at a;exact⟨d.pd,e.pd,f.dp a.1.1,b.dp a.2.1,a.1.2,a.2.2,k _ λ_ _ _=>.bl _⟩
 ·cases h
def SV:M0 K (rNeD K) QW:=by
 intro H N N' M M' x y d e c Q f b h k;unfold QW at h;split at h
 ·rename_i a
  cases h;simp only[GF,Ag]at a;exact⟨d.pd,e.pd,f.dp a.1.1,b.dp a.2.1,a.1.2,a.2.2,k _ λ_ _ _=>.bl _⟩
 ·cases h
noncomputable def isN:cM->Bool
 |.non=>b5
 |_=>ba
def LC:cM->cM->Option cM
 |d,.non=>b0 (.bl (isN d))
 |_,_=>b3
def UK:cM->cM->Option cM
 |d,.non=>b0 (.bl (!isN d))
 |_,_=>b3
def BL{N M:Sf->Prop}(h:aU K N H M v d):decide (v=V.non)=isN d:=by
 cases h<;>simp[isN]
def FR:M0 K (λx y H Q=>y=.non/\Q (.bl (decide (x=.non))) H) LC:=by
  intro H N N' M M' x y d e c Q b a h k;cases a<;>first
    | (cases h
       refine⟨rfl,?_⟩;rw[BL b];exact k _ λ_ _ _=>.bl _)
    |(simp[LC]at h)
def N7:M0 K (λx y H Q=>y=.non/\Q (.bl (!decide (x=.non))) H) UK:=by
  intro H N N' M M' x y d e c Q b a h k;cases a<;>first
    | (cases h
       refine⟨rfl,?_⟩;rw[BL b];exact k _ λ_ _ _=>.bl _)
    |(simp[UK]at h)
noncomputable def WM:cM->Option (List cM)
 |.tup ds=>b0 ds
 |.lst ds=>b0 ds
 |_=>b3
def aU.seq{N M:Sf->Prop}{ds:List cM}(h:aU K N H M v d)(e:WM d=b0 ds):∃a xs,v=.ref a/\(W7 K H a xs∨UV K H a xs)/\bT K N H xs ds:=by
 cases h<;>first
  |(cases e;rename_i q r;exact⟨_,_,rfl,.inr q,r⟩)
  |(cases e;rename_i q n r;exact⟨_,_,rfl,.inl (W7.of q),r⟩)
  |(cases e;rename_i q r;exact⟨_,_,rfl,.inl q.sq,r⟩)
  |cases e
def gR{N:Sf->Prop}{xs:List V}{ds:List cM}{i:Int}(r:bT K N H xs ds)(h:VC ds i=b0 d):∃v,VC xs i=b0 v/\aU K N H N v d:=by
 unfold VC at h⊢;rw[r.length];cases hi:K4 ds.length i with
 |none=>rw[hi]at h;cases h
 |some j=>
  rw[hi]at h;exact r.get h
end
section
variable{X:Cx}{K:Ao}{ml:List Nat}{e a b c:Sj}{es:List Sj}{pa ta ia pb tb ib pc tc ic pu bt bi ps bs:Bool}{fa fb fc:VF}{r r':R2}{o o':cM->cM->Option cM}{B:Bs}{O:Nat->Option Sf}{H H1 H':Hp}{σ:St}{δ δ':Ev}{v:V}{d:cM}{p:Sf}{pos:Pos}
def Z0.unadd(S:Z0 K ml (B.add p) O H σ δ):Z0 K ml B O H σ δ where
 len:=S.len
 va:=λi d e=>let ⟨v,a,b⟩:=S.va i d e;⟨v,a,b.mono QI QI⟩
 ow:=λi d e=>let ⟨a,b,c,w⟩:=S.ow i d e;⟨a,b,c,w.mono QI⟩
 dom:=S.dom
 inj:=S.inj
 old:=λi a h=>⟨λz=>(S.old i a h).1 (.inl z),(S.old i a h).2⟩
 zin:=λa h=>S.zin a (.inl h)
 frm:=S.frm
 par:=S.par
 pin:=S.pin
 kep:=λp h=>(S.kep p h).mono QI QI
structure ResN(K:Ao)(ml:List Nat)(B:Bs)(O:Nat->Option Sf)(H:Hp)(σ:St)(pu:Bool)(H':Hp)(δ':Ev)(p:Sf)(d:cM):Prop where
 sta:Z0 K ml (B.add p) O H' σ δ'
 frm:Fr (OA O) H H'
 pur:pu=b5->aD H H'
 own:QV K (Nn (B.add p) O) H' p d
 nz:¬Nn B O p
 h0:B.H0 p=b3
inductive TNi(K:Ao)(ml:List Nat)(pu:Bool)(f:VF)(σ:St)(H:Hp)(Q:VK):Prop
 |mk (B:_) (O:_) (δ:_) (d:_) (δ':_) (h0:Z0 K ml B O H σ δ) (h1:f δ=b0 (d,δ')) (h2:∀p H',ResN K ml B O H σ pu H' δ' p d->Q (.ref p) H'):TNi K ml pu f σ H Q
def TN(K:Ao)(ml:List Nat)(pu:Bool)(f:VF):TE:=λσ H Q=>TNi K ml pu f σ H Q
def a8{f:VF}(h:PE X e (TN K ml pu f)):PE X e (TV K ml pu b5 b5 f):=h.imp λσ H Q ⟨B,O,δ,d,δ',S,q,k⟩=>
 ⟨B,O,δ,d,δ',S,q,λp H' R=>k _ H' ⟨R.sta.unadd,R.frm,R.pur,(R.own.mono QI).rep R.nz⟩⟩
def mkN{xs:List V}{ds:List cM}(S:Z0 K ml B O H1 σ δ')(f:Fr (OA O) H H1)(s:pu=b5->aD H H1)(a:H1 p=b3)(r:bT K (Nn B O) H1 xs ds):ResN K ml B O H σ pu (aG H1 p (.lst xs)) δ' p (.lst ds):=
 ⟨S.laid a,f.trans (cD a).fr,λz=>(s z).trans (cD a),.lst bU ((r.away a _ _ WD).same (cD a)),S.new a,S.fresh a⟩
def mkD(S:Z0 K ml B O H1 σ δ')(f:Fr (OA O) H H1)(s:pu=b5->aD H H1)(a:H1 p=b3):ResN K ml B O H σ pu (aG H1 p (.dK [])) δ' p (.dct [] []):=
 ⟨S.laid a,f.trans (cD a).fr,λz=>(s z).trans (cD a),.dct (kvs:=[]) bU .nil,S.new a,S.fresh a⟩
def lT:PE X (.Dict [] [] pos) (TN K ml b5 (fC (.dct [] []))):=LH.imp λσ H Q a=>by obtain⟨B,O,δ,d,δ',S,q,k⟩:=a;cases q;exact λp b=>k p _ (mkD S (Fr.refl _ _) (λ_=>aD.refl _) b)
abbrev OF:=Ev->Option (List cM×Ev)
structure ResA(K:Ao)(ml:List Nat)(B:Bs)(O:Nat->Option Sf)(H:Hp)(σ:St)(pu b:Bool)(H':Hp)(δ':Ev)(vs:List V)(ds:List cM):Prop where
 sta:Z0 K ml B O H' σ δ'
 frm:Fr (OA O) H H'
 pur:pu=b5->aD H H'
 rep:bT K (av B O b) H' vs ds
inductive TAVi(K:Ao)(ml:List Nat)(pu b:Bool)(f:OF)(σ:St)(H:Hp)(Q:List V->Hp->Prop):Prop
 |mk (B:_) (O:_) (δ:_) (d:_) (δ':_) (h0:Z0 K ml B O H σ δ) (h1:f δ=b0 (d,δ')) (h2:∀vs H',ResA K ml B O H σ pu b H' δ' vs d->Q vs H'):TAVi K ml pu b f σ H Q
def TAV(K:Ao)(ml:List Nat)(pu b:Bool)(f:OF):TA:=λσ H Q=>TAVi K ml pu b f σ H Q
def bS:OF:=λδ=>b0 ([],δ)
noncomputable def cG(fa:VF)(fs:OF):OF:=λδ=>(fa δ).bind λp=>(fs p.2).map λq=>(p.1::q.1,q.2)
def IW{fs:OF}{ds:List cM}(h:cG fa fs δ=b0 (ds,δ')):∃x δ1 xs,fa δ=b0 (x,δ1)/\fs δ1=b0 (xs,δ')/\ds=x::xs:=by
 unfold cG at h;cases h1:fa δ with
 |none=>rw[h1]at h;cases h
 |some p=>
  rw[h1]at h;cases h2:fs p.2 with
  |none=>simp[h2]at h
  |some q=>
   simp only[Ai,h2]at h;cases h;exact⟨p.1,p.2,q.1,rfl,h2,rfl⟩
def cC:PA X [] (TAV K ml b5 b5 bS):=ZU.imp λσ H Q a=>by obtain⟨B,O,δ,d,δ',S,q,k⟩:=a;cases q;exact k [] H ⟨S,Fr.refl _ _,λ_=>aD.refl _,.nil⟩
def cL{fs:OF}(o:PE X a (TV K ml pa ta ia fa))(n:PA X es (TAV K ml ps bs fs))(e:SE X a es:=by rfl)(hl:(ps || (ta&&ia))=b5:=by rfl)(m:ta=b5:=by rfl):
  PA X (a::es) (TAV K ml (pa&&ps) (ta&&ia&&bs) (cG fa fs)):=(bL o n e).imp λσ H Q f=>by
 obtain⟨B,O,δ,d,δ2,S,q,k⟩:=f;obtain⟨x,δ1,xs,h1,h2,rfl⟩:=IW q;refine⟨B,O,δ,x,δ1,S,h1,λl H1 b=>⟨B,O,δ1,xs,δ2,b.sta,h2,λvs H2 R2=>k _ H2 ⟨R2.sta,b.frm.trans R2.frm,λz=>?_,?_⟩⟩⟩
 ·obtain⟨j,i⟩:=(Ag _ _).mp z
  exact(b.pur j).trans (R2.pur i)
 ·have g : ∀ c,((ta && ia && bs) = b5 -> c = b5) -> ∀ a,av B O (ta && ia && bs) a -> av B O c a := λc h => OI h
  have s:=g ta λz=>by simp only[Ag]at z;exact z.1.1
  have r:=g ia λz=>by simp only[Ag]at z;exact z.1.2
  have p:=g bs λz=>by simp only[Ag]at z;exact z.2
  refine .cons ?_ (R2.rep.mono p);have h:aU K (av B O ia) H2 (at_ B O ta) l x:=by
   cases ps with
   |true=>exact b.rep.same (R2.pur rfl)
   |false=>
    have e:(ta&&ia)=b5:=by simpa using hl
    obtain⟨h1,h2⟩:=(Ag _ _).mp e;subst h1 h2;exact b.rep.fr R2.frm (λa z=>.inr z) λa z=>.inr z
  subst m;exact h.mono r s
def Z0.lone(S:Z0 K ml B O H σ δ){i:Nat}{x:cM}(e:i∉ml)(h:fO i δ=b0 (x,δ')):δ'=δ/\∃v,σ[i]?=b0 (b0 v)/\aU K (av B O ba) H (av B O ba) v x:=by
 unfold fO at h;split at h
 ·rename_i d hd
  cases h;obtain⟨v,b,r⟩:=S.va i _ hd;exact⟨rfl,v,b,r.mono (λa z=>z.1) λa z=>z.1⟩
 ·rename_i d hd
  cases h;obtain⟨a,b,f,w⟩:=S.ow i _ hd;refine⟨rfl,.ref a,f,(w.mono λa z=>z.1).rep λz=>?_⟩;rcases z.2 with z|⟨j,z⟩
  ·exact(S.old i a b).1 z
  ·have c:=S.par.1 j a z
   have:i=j:=S.inj i j a b ((S.par.2 j c).trans z)
   exact e (this▸c)
 ·cases h
def SW{i:Nat}{fs:OF}(h:PE X a (WF i))(f:PA X es (TAV K ml ps bs fs))(e:SE X a es:=by rfl)(hl:ps=b5:=by rfl)(g:i∉ml:=by decide):
  PA X (a::es) (TAV K ml ps ba (cG (fO i) fs)):=(bL h f e).imp λσ H Q c=>by
 obtain⟨B,O,δ,d,δ2,S,q,k⟩:=c;obtain⟨x,δ1,xs,h1,h2,rfl⟩:=IW q;obtain⟨rfl,v,j,r⟩:=S.lone g h1;exact⟨v,j,B,O,δ1,xs,δ2,S,h2,λvs H2 R2=>k _ H2 ⟨R2.sta,R2.frm,R2.pur,.cons (r.same (R2.pur hl)) (R2.rep.mono (OI (b:=ba) λz=>nomatch z))⟩⟩
noncomputable def aJ(fs:OF):VF:=λδ=>(fs δ).bind λp=>if p.1.length<=16777216 then b0 (.tup p.1,p.2)else b3
noncomputable def ZA(fs:OF):VF:=λδ=>(fs δ).bind λp=>if p.1.length<=16777216 then b0 (.lst p.1,p.2)else b3
def EM{fs:OF}{g:List cM->cM}(h:((fs δ).bind λp=>if p.1.length<=16777216 then b0 (g p.1,p.2)else b3)=b0 (d,δ')):∃ds,fs δ=b0 (ds,δ')/\ds.length<=16777216/\d=g ds:=by
 cases h1:fs δ with
 |none=>rw[h1]at h;cases h
 |some p=>
  rw[h1]at h;have h:(if p.1.length<=16777216 then b0 (g p.1,p.2)else b3)=b0 (d,δ'):=h;split at h
  ·cases h
   exact⟨p.1,rfl,by assumption,rfl⟩
  ·cases h
def bQ{x1}{fs:OF}(h:PA X es (TAV K ml pu bs fs)):PE X (.Tuple es x1 pos) (TV K ml pu b5 bs (aJ fs)):=(C9 h).imp λσ H Q b=>by obtain⟨B,O,δ,d,δ',S,q,k⟩:=b;obtain⟨ds,h1,hl,rfl⟩:=EM (g:=cM.tup) q;refine⟨B,O,δ,ds,δ',S,h1,λvs H1 R=>⟨by rw[R.rep.length,Cr];exact hl,λp a=>k _ _ ⟨R.sta.same (cD a),R.frm.trans (cD a).fr,λz=>(R.pur z).trans (cD a),.tup (UV.of bU) (R.rep.same (cD a))⟩⟩⟩
def aR{fs:OF}(h:PA X es (TAV K ml pu b5 fs)):PE X (.List es pos) (TN K ml pu (ZA fs)):=(C8 h).imp λσ H Q a=>by obtain⟨B,O,δ,d,δ',S,q,k⟩:=a;obtain⟨ds,h1,hl,rfl⟩:=EM (g:=cM.lst) q;exact⟨B,O,δ,ds,δ',S,h1,λvs H1 R=>⟨by rw[R.rep.length,Cr];exact hl,λp b=>k p _ (mkN R.sta R.frm R.pur b R.rep)⟩⟩
abbrev VB:=Ev->Option (Bool×Ev)
structure ResB(K:Ao)(ml:List Nat)(B:Bs)(O:Nat->Option Sf)(H:Hp)(σ:St)(pu:Bool)(H':Hp)(δ':Ev):Prop where
 sta:Z0 K ml B O H' σ δ'
 frm:Fr (OA O) H H'
 pur:pu=b5->aD H H'
inductive TBi(K:Ao)(ml:List Nat)(pu:Bool)(f:VB)(σ:St)(H:Hp)(Q:Bool->Hp->Prop):Prop
 |mk (B:_) (O:_) (δ:_) (k:_) (δ':_) (h0:Z0 K ml B O H σ δ) (h1:f δ=b0 (k,δ')) (h2:∀H',ResB K ml B O H σ pu H' δ'->Q k H'):TBi K ml pu f σ H Q
def TB(K:Ao)(ml:List Nat)(pu:Bool)(f:VB):TT:=λσ H Q=>TBi K ml pu f σ H Q
noncomputable def fB(f:VF):VB:=λδ=>(f δ).bind λp=>match p.1 with
 |.bl k=>b0 (k,p.2)
 |_=>b3
def jf{f:VF}{k:Bool}(h:fB f δ=b0 (k,δ')):f δ=b0 (.bl k,δ'):=by
 unfold fB at h;cases h1:f δ with
 |none=>rw[h1]at h;cases h
 |some p=>
  obtain⟨x,δ1⟩:=p;rw[h1]at h;cases x<;>first
   |(cases h;rfl)
   |cases h
def HX{f:VF}{t:TE}(a:∀σ H Q,TV K ml pu bt bi f σ H Q->t σ H Q){Q:Bool->Hp->Prop}(h:TB K ml pu (fB f) σ H Q):t σ H λx H'=>∃k,x=.bl k/\Q k H':=by obtain⟨B,O,δ,k,δ',S,q,w⟩:=h;refine a σ H _ ⟨B,O,δ,.bl k,δ',S,jf q,λv H' R=>⟨k,?_,w H' ⟨R.sta,R.frm,R.pur⟩⟩⟩;exact R.rep.onB
def bN{op:CmpOp}(e:VY X (Di op) r)(c:M0 K r o)(i:PE X a (TV K ml pa ta ia fa))(g:PE X b (TV K ml pb tb ib fb))(f:Hj op b=ba:=by exact HG _)(d:(pb || (ta&&ia))=b5:=by rfl):PT X (.Compare a [op] [b] pos) (TB K ml (pa&&pb) (fB (f2 o fa fb))):=
 (eO e i g f).imp λ_ _ _ h=>HX (λ_ _ _=>DP c d) h
def ZE{f:VF}(h:PE X e (TV K ml pu bt bi f))(b:∀a,isTrue e X.env a=(do let v<-a;Px e.pos;Hv [v] (truthy v)):=by intro _;rfl):PT X e (TB K ml pu (fB f)):=
 (kR h b).imp λ_ _ _ h=>HX (λ_ _ _ z=>z) h
noncomputable def UF(x y:VB):VB:=λδ=>(x δ).bind λp=>if p.1=b5 then y p.2 else b0 (ba,p.2)
noncomputable def D2(x y:VB):VB:=λδ=>(x δ).bind λp=>if p.1=b5 then b0 (b5,p.2)else y p.2
noncomputable def UG(x:VB):VB:=λδ=>(x δ).map λp=>(!p.1,p.2)
def ResB.refl(S:Z0 K ml B O H σ δ):ResB K ml B O H σ pu H δ:=⟨S,Fr.refl _ _,λ_=>aD.refl _⟩
def eA{x y:VB}{Q:Bool->Hp->Prop}(h:TB K ml (pa&&pb) (UF x y) σ H Q):tAnd (TB K ml pa x) (TB K ml pb y) σ H Q:=by
 obtain⟨B,O,δ,k,δ',S,q,w⟩:=h;unfold UF at q;obtain⟨⟨b,δ1⟩,h1,q⟩:=Aa.mp q;refine⟨B,O,δ,b,δ1,S,h1,λH1 a=>?_⟩;cases b with
 |true=>
  have q:y δ1=b0 (k,δ'):=q;exact ER ⟨B,O,δ1,k,δ',a.sta,q,λH2 R2=>w H2 ⟨R2.sta,a.frm.trans R2.frm,λz=>by obtain⟨d,c⟩:=(Ag _ _).mp z;exact(a.pur d).trans (R2.pur c)⟩⟩
 |false=>
  have q:b0 (ba,δ1)=b0 (k,δ'):=q;cases q;exact EQ (w H1 ⟨a.sta,a.frm,λz=>a.pur ((Ag _ _).mp z).1⟩)
def lZ{x y:VB}{Q:Bool->Hp->Prop}(h:TB K ml (pa&&pb) (D2 x y) σ H Q):tOr (TB K ml pa x) (TB K ml pb y) σ H Q:=by
 obtain⟨B,O,δ,k,δ',S,q,w⟩:=h;unfold D2 at q;obtain⟨⟨b,δ1⟩,h1,q⟩:=Aa.mp q;refine⟨B,O,δ,b,δ1,S,h1,λH1 a=>?_⟩;cases b with
 |false=>
  have q:y δ1=b0 (k,δ'):=q;exact EQ ⟨B,O,δ1,k,δ',a.sta,q,λH2 R2=>w H2 ⟨R2.sta,a.frm.trans R2.frm,λz=>by obtain⟨d,c⟩:=(Ag _ _).mp z;exact(a.pur d).trans (R2.pur c)⟩⟩
 |true=>
  have q:b0 (b5,δ1)=b0 (k,δ'):=q;cases q;exact ER (w H1 ⟨a.sta,a.frm,λz=>a.pur ((Ag _ _).mp z).1⟩)
def YM{x:VB}(h:PT X a (TB K ml pu x)):PT X (.UnaryOp .Not a pos) (TB K ml pu (UG x)):=(mI h).imp λσ H Q b=>by obtain⟨B,O,δ,k,δ',S,q,w⟩:=b;unfold UG at q;obtain⟨p,h1,q⟩:=Am.mp q;cases q;exact⟨B,O,δ,p.1,p.2,S,h1,w⟩
def UD{x:VB}(h:PT X a (TB K ml pu x)):PW X (.BoolOp .And [a] pos) (TB K ml pu x):=jS h
def W6{x:VB}(h:PT X a (TB K ml pu x)):PW X (.BoolOp .Or [a] pos) (TB K ml pu x):=Zk h
def UC{x y:VB}(d:PT X a (TB K ml pa x))(c:PW X (.BoolOp .And (b::es) pos) (TB K ml pb y)):PW X (.BoolOp .And (a::b::es) pos) (TB K ml (pa&&pb) (UF x y)):=(hU d c).imp λ_ _ _ h=>eA h
def UU{x y:VB}(d:PT X a (TB K ml pa x))(c:PW X (.BoolOp .Or (b::es) pos) (TB K ml pb y)):PW X (.BoolOp .Or (a::b::es) pos) (TB K ml (pa&&pb) (D2 x y)):=(Yg d c).imp λ_ _ _ h=>lZ h
def UT{x:VB}(h:PW X e (TB K ml pu x)):PT X e (TB K ml pu x):=h.pt
noncomputable def NO(x y:VF):VF:=λδ=>(x δ).bind λp=>match p.1 with
 |.bl b5=>y p.2
 |.bl ba=>b0 (.bl ba,p.2)
 |_=>b3
def SY{op}{f:VF}(h:PE X a (TV K ml pu bt bi f)):PE X (.BoolOp op [a] pos) (TV K ml pu bt bi f):=iC h
def U1(m:PE X a (TV K ml pa ta ia fa))(l:PE X (.BoolOp .And (b::es) pos) (TV K ml pb tb ib fb)):PE X (.BoolOp .And (a::b::es) pos) (TV K ml (pa&&pb) tb ib (NO fa fb)):=(iN m l).imp λσ H Q f=>by
 obtain⟨B,O,δ,d,δ',S,q,k⟩:=f;unfold NO at q;obtain⟨⟨x,δ1⟩,h1,q⟩:=Aa.mp q;refine⟨B,O,δ,x,δ1,S,h1,λj H1 c=>?_⟩;cases x with
 |bl e=>
  have n:j=.bl e:=c.rep.onB;refine⟨e,n,?_⟩;cases e with
  |true=>
   exact ER ⟨B,O,δ1,d,δ',c.sta,q,λi H2 R2=>k i H2 ⟨R2.sta,c.frm.trans R2.frm,λz=>by obtain⟨h,g⟩:=(Ag _ _).mp z;exact(c.pur h).trans (R2.pur g),R2.rep⟩⟩
  |false=>
   cases q;exact EQ (k _ H1 ⟨c.sta,c.frm,λz=>c.pur ((Ag _ _).mp z).1,.bl _⟩)
 |_=>cases q
def KH(t:VB)(x y:VF):VF:=λδ=>(t δ).bind λp=>if p.1=b5 then x p.2 else y p.2
def XB{t:VB}(m:PT X c (TB K ml pc t))(o:PE X a (TV K ml pa ta ia fa))(n:PE X b (TV K ml pb tb ib fb)):PE X (.IfExp c a b pos) (TV K ml (pc&&pa&&pb) (ta&&tb) (ia&&ib) (KH t fa fb)):=(kD m o n).imp λσ H Q g=>by
 obtain⟨B,O,δ,d,δ',S,q,k⟩:=g;unfold KH at q;obtain⟨⟨i,δ1⟩,h1,q⟩:=Aa.mp q;refine⟨B,O,δ,i,δ1,S,h1,λH1 e=>?_⟩;have l:∀c,((ta&&tb)=b5->c=b5)->∀a,at_ B O (ta&&tb) a->at_ B O c a:=λc h=>gE h;have j:∀c,((ia&&ib)=b5->c=b5)->∀a,av B O (ia&&ib) a->av B O c a:=λc h=>OI h;cases i with
 |true=>
  exact ER ⟨B,O,δ1,d,δ',e.sta,q,λf H2 R2=>k f H2 ⟨R2.sta,e.frm.trans R2.frm,λz=>by simp only[Ag]at z;exact(e.pur z.1.1).trans (R2.pur z.1.2),R2.rep.mono (j _ λz=>((Ag _ _).mp z).1) (l _ λz=>((Ag _ _).mp z).1)⟩⟩
 |false=>
  exact EQ ⟨B,O,δ1,d,δ',e.sta,q,λf H2 R2=>k f H2 ⟨R2.sta,e.frm.trans R2.frm,λz=>by simp only[Ag]at z;exact(e.pur z.1.1).trans (R2.pur z.2),R2.rep.mono (j _ λz=>((Ag _ _).mp z).2) (l _ λz=>((Ag _ _).mp z).2)⟩⟩
noncomputable def f3(o o':cM->cM->Option cM)(fa fb fc:VF):VF:=λδ=>(fa δ).bind λp=>(fb p.2).bind λq=>(o p.1 q.1).bind λz=>match z with
 |.bl b5=>(fc q.2).bind λs=>(o' q.1 s.1).map λu=>(u,s.2)
 |.bl ba=>b0 (.bl ba,q.2)
 |_=>b3
def F4(A:M0 K r o)(l:M0 K r' o')(w:(pb || (ta&&ia))=b5)(j:(pc || (tb&&ib))=b5){Q:VK}(h:TV K ml (pa&&pb&&pc) b5 b5 (f3 o o' fa fb fc) σ H Q):DM r r' (TV K ml pa ta ia fa) (TV K ml pb tb ib fb) (TV K ml pc tc ic fc) σ H Q:=by
 obtain⟨B,O,δ,d,b,S,q,k⟩:=h;unfold f3 at q;obtain⟨⟨x,δ1⟩,h1,q⟩:=Aa.mp q;cases h2:fb δ1 with
 |none=>simp[h2]at q
 |some p2=>
  obtain⟨y,δ2⟩:=p2;simp only[Ai,h2]at q;refine⟨B,O,δ,x,δ1,S,h1,λt H1 a=>⟨B,O,δ1,y,δ2,a.sta,h2,λm H2 R2=>?_⟩⟩;obtain⟨z,E,q⟩:=Aa.mp q;refine A H2 _ _ _ _ t m x y z _ (R2.live w a.rep) R2.rep E λv c=>?_;have c:=c (λ_=>b3) (λ_=>True) λ_=>True;cases z with
  |bl i=>
   have F:v=.bl i:=c.onB;refine⟨i,F,?_⟩;cases i with
   |false=>
    cases q;exact EQ (k _ H2 ⟨R2.sta,a.frm.trans R2.frm,λz=>by simp only[Ag]at z;exact(a.pur z.1.1).trans (R2.pur z.1.2),.bl _⟩)
   |true=>
    have q:((fc δ2).bind λs=>(o' y s.1).map λu=>(u,s.2))=b0 (d,b):=q;obtain⟨⟨g,f⟩,D,q⟩:=Aa.mp q;have q:((o' y g).map λu=>(u,f))=b0 (d,b):=q;obtain⟨u,C,q⟩:=Am.mp q;cases q;refine ER ⟨B,O,δ2,g,_,R2.sta,D,λp n e=>?_⟩;exact l n _ _ _ _ m p y g d Q (e.live j R2.rep) e.rep C λv c=>k v n ⟨e.sta,(a.frm.trans R2.frm).trans e.frm,λz=>by simp only[Ag]at z;exact((a.pur z.1.1).trans (R2.pur z.1.2)).trans (e.pur z.2),c _ _ _⟩
  |_=>cases q
def eJ{op d:CmpOp}(k:VY X (Di op) r)(g:VY X (Di d) r')(i:M0 K r o)(e:M0 K r' o')(n:PE X a (TV K ml pa ta ia fa))(m:PE X b (TV K ml pb tb ib fb))(hc:PE X c (TV K ml pc tc ic fc))(l:Qa [op,d] [b,c]=ba:=by with_unfolding_all rfl)(j:(pb || (ta&&ia))=b5:=by rfl)(f:(pc || (tb&&ib))=b5:=by rfl):PE X (.Compare a [op,d] [b,c] pos) (TV K ml (pa&&pb&&pc) b5 b5 (f3 o o' fa fb fc)):=
 (fE k g n m hc l).imp λ_ _ _ h=>F4 i e j f h
def F9{op d:CmpOp}(k:VY X (Di op) r)(g:VY X (Di d) r')(i:M0 K r o)(e:M0 K r' o')(n:PE X a (TV K ml pa ta ia fa))(m:PE X b (TV K ml pb tb ib fb))(hc:PE X c (TV K ml pc tc ic fc))(l:Qa [op,d] [b,c]=ba:=by with_unfolding_all rfl)(j:(pb || (ta&&ia))=b5:=by rfl)(f:(pc || (tb&&ib))=b5:=by rfl):PT X (.Compare a [op,d] [b,c] pos) (TB K ml (pa&&pb&&pc) (fB (f3 o o' fa fb fc))):=
 (Zf k g n m hc l).imp λ_ _ _ h=>HX (λ_ _ _=>F4 i e j f) h
end
section
variable{X:Cx}{K:Ao}{ml:List Nat}{e a b c:Sj}{es:List Sj}{pa ta ia pb tb ib pc tc ic pu bt bi ps bs:Bool}{fa fb fc:VF}{B:Bs}{O:Nat->Option Sf}{H H1 H':Hp}{σ:St}{δ δ':Ev}{v:V}{d:cM}{p:Sf}{pos:Pos}
noncomputable def f1(o:cM->Option cM)(fa:VF):VF:=λδ=>(fa δ).bind λp=>(o p.1).map λc=>(c,p.2)
def KU{o:cM->Option cM}(h:f1 o fa δ=b0 (d,δ')):∃x,fa δ=b0 (x,δ')/\o x=b0 d:=by
 unfold f1 at h;cases h1:fa δ with
 |none=>rw[h1]at h;cases h
 |some p=>
  rw[h1]at h;have h:((o p.1).map λc=>(c,p.2))=b0 (d,δ'):=h;obtain⟨c,a,h⟩:=Am.mp h;cases h;exact⟨p.1,rfl,a⟩
abbrev RC:=List V->Hp->VK->Prop
def CalS(K:Ao)(r:RC)(o:cM->Option cM):Prop:=∀(H:Hp) (N M:Sf->Prop) (x:V) (d c:cM) (Q:VK),aU K N H M x d->o d=b0 c->(∀v,(∀H' N M,aU K N H' M v c)->Q v H)->r [x] H Q
def CalC(K:Ao)(r:RC)(o:cM->Option cM):Prop:=∀(H:Hp) (N M:Sf->Prop) (x:V) (d c:cM) (Q:VK),aU K N H M x d->o d=b0 c->
 (∀v H',aD H H'->(∀M,(∀a,M a->∃o,H a=b0 o)->aU K N H' M v c)->Q v H')->r [x] H Q
def CalN(K:Ao)(r:RC)(o:cM->Option cM):Prop:=∀(H:Hp) (N M:Sf->Prop) (x:V) (d c:cM) (Q:VK),aU K N H M x d->o d=b0 c->
 (∀p xs ds,H p=b3->bT K N H xs ds->c=.lst ds->Q (.ref p) (aG H p (.lst xs)))->r [x] H Q
def HZ(K:Ao)(r:RC)(o:cM->cM->Option cM):Prop:=∀(H:Hp) (N N' M M':Sf->Prop) (x y:V) (d e c:cM) (Q:VK),aU K N H M x d->aU K N' H M' y e->o d e=b0 c->(∀v,(∀H' N M,aU K N H' M v c)->Q v H)->r [x,y] H Q
def kN{r:RC}{o:cM->Option cM}(e:CalS K r o){Q:VK}(h:TV K ml pa b5 b5 (f1 o fa) σ H Q):tCB r (JU (TV K ml pa ta ia fa) tNil) σ H Q:=by obtain⟨B,O,δ,d,δ',S,q,k⟩:=h;obtain⟨x,h1,h2⟩:=KU q;exact⟨B,O,δ,x,δ',S,h1,λb H1 a=>e H1 _ _ b x d Q a.rep h2 λv c=>k v H1 ⟨a.sta,a.frm,a.pur,c _ _ _⟩⟩
def cQ{r:RC}{o:cM->Option cM}(g:CalC K r o){Q:VK}(h:TV K ml pa b5 ia (f1 o fa) σ H Q):tCB r (JU (TV K ml pa ta ia fa) tNil) σ H Q:=by obtain⟨B,O,δ,d,δ',S,q,k⟩:=h;obtain⟨x,h1,h2⟩:=KU q;exact⟨B,O,δ,x,δ',S,h1,λe H1 b=>g H1 _ _ e x d Q b.rep h2 λv H2 c f=>k v H2 ⟨b.sta.same c,b.frm.trans c.fr,λz=>(b.pur z).trans c,f _ λa z=>b.sta.nin z⟩⟩
def JX{r:RC}{o:cM->Option cM}(f:CalN K r o){Q:VK}(h:TN K ml pa (f1 o fa) σ H Q):tCB r (JU (TV K ml pa ta b5 fa) tNil) σ H Q:=by obtain⟨B,O,δ,d,δ',S,q,k⟩:=h;obtain⟨x,h1,h2⟩:=KU q;refine⟨B,O,δ,x,δ',S,h1,λb H1 a=>f H1 _ _ b x d Q a.rep h2 λp xs ds e c g=>?_⟩;subst g;exact k p _ (mkN a.sta a.frm a.pur e c)
def gD{r:RC}{o:cM->cM->Option cM}(j:HZ K r o)(i:(pb || (ta&&ia))=b5){Q:VK}(h:TV K ml (pa&&pb) b5 b5 (f2 o fa fb) σ H Q):tCB r (JU (TV K ml pa ta ia fa) (JU (TV K ml pb tb ib fb) tNil)) σ H Q:=by
 obtain⟨B,O,δ,d,δ2,S,q,k⟩:=h;obtain⟨x,δ1,y,h1,h2,l⟩:=NN q;refine⟨B,O,δ,x,δ1,S,h1,λf H1 a=>⟨B,O,δ1,y,δ2,a.sta,h2,λe H2 R2=>?_⟩⟩;exact j H2 _ _ _ _ f e x y d Q (R2.live i a.rep) R2.rep l λv g=>k v H2 ⟨R2.sta,a.frm.trans R2.frm,λz=>by obtain⟨c,b⟩:=(Ag _ _).mp z;exact(a.pur c).trans (R2.pur b),g _ _ _⟩
section
variable{x:Si}{p':Pos}{id T:String}{r:RC}
def F7{o:cM->Option cM}(hc:Z2 X (.builtin id) r)(e:CalS K r o)(i:Gl X x)(g:X.mg x=b3)(d:Bj x=b0 (.builtin id))(j:PE X a (TV K ml pa ta ia fa))(f:x≠ "__name__":=by decide)(b:ND x:=by decide)(c:SE X a []:=by rfl):PE X (.Call (.Name x p') [a] [] pos) (TV K ml pa b5 b5 (f1 o fa)):=
 (OZ hc i g d (bL j ZU c) f b c).imp λ_ _ _ h=>kN e h
def J0{o:cM->cM->Option cM}(hc:Z2 X (.builtin id) r)(j:HZ K r o)(m:Gl X x)(l:X.mg x=b3)(g:Bj x=b0 (.builtin id))(p:PE X a (TV K ml pa ta ia fa))(n:PE X b (TV K ml pb tb ib fb))(k:x≠ "__name__":=by decide)(e:ND x:=by decide)(f:SE X a [b]:=by rfl)(d:SE X b []:=by rfl)(c:(Ex pos (Bb [b] X.env)).any (·.1)=ba:=by rfl)(i:(pb || (ta&&ia))=b5:=by rfl):PE X (.Call (.Name x p') [a,b] [] pos) (TV K ml (pa&&pb) b5 b5 (f2 o fa fb)):=
 (OZ hc m l g (bL p (bL n ZU d) f) k e f c).imp λ_ _ _ h=>gD j i h
def J1{o:cM->Option cM}(hc:Z2 X (.type T) r)(e:CalC K r o)(i:Gl X x)(g:X.mg x=b3)(d:Bj x=b0 (.type T))(j:PE X a (TV K ml pa ta ia fa))(f:x≠ "__name__":=by decide)(b:ND x:=by decide)(c:SE X a []:=by rfl):PE X (.Call (.Name x p') [a] [] pos) (TV K ml pa b5 ia (f1 o fa)):=
 (V1 hc i g d (bL j ZU c) f b c).imp λ_ _ _ h=>cQ e h
def J3{o:cM->Option cM}(hc:Z2 X (.type T) r)(e:CalN K r o)(i:Gl X x)(g:X.mg x=b3)(d:Bj x=b0 (.type T))(j:PE X a (TV K ml pa ta b5 fa))(f:x≠ "__name__":=by decide)(b:ND x:=by decide)(c:SE X a []:=by rfl):PE X (.Call (.Name x p') [a] [] pos) (TN K ml pa (f1 o fa)):=
 (V1 hc i g d (bL j ZU c) f b c).imp λ_ _ _ h=>JX e h
def Vy{o:cM->Option cM}(hc:Z2 X (.builtin id) r)(e:CalN K r o)(i:Gl X x)(g:X.mg x=b3)(d:Bj x=b0 (.builtin id))(j:PE X a (TV K ml pa ta b5 fa))(f:x≠ "__name__":=by decide)(b:ND x:=by decide)(c:SE X a []:=by rfl):PE X (.Call (.Name x p') [a] [] pos) (TN K ml pa (f1 o fa)):=
 (OZ hc i g d (bL j ZU c) f b c).imp λ_ _ _ h=>JX e h
end
noncomputable def YU:cM->Option cM
 |.tup ds=>b0 (.int ds.length)
 |.lst ds=>b0 (.int ds.length)
 |.str z=>if z.length<=16777216 then b0 (.int z.length)else b3
 |_=>b3
def rLen(K:Ao):RC:=λxs H Q=>(∃p ys,xs=[.ref p]/\(W7 K H p ys∨UV K H p ys)/\Q (.int ys.length) H)∨∃z,xs=[.str z]/\z.length<=sizeLine/\Q (.int z.length) H
def mx(h:X.K=K:=by rfl):Z2 X (.builtin "len") (rLen K):=by subst h;exact GV.or GW
def lz:CalS K (rLen K) YU:=by
  intro H N M x d c Q b h k;cases d<;>first
    | (rename_i ds
       obtain⟨a,xs,rfl,sq,r⟩:=b.seq rfl;cases h;refine .inl ⟨a,xs,rfl,sq,?_⟩;rw[r.length];exact k _ λ_ _ _=>.int _)
    | (cases b.onS
       simp only[YU]at h;split at h
       · cases h
         exact .inr ⟨_,rfl,by rw[Cr];assumption,k _ λ_ _ _=>.int _⟩
       · cases h)
    |cases h
def NB(d:cM):Option cM:=(WM d).map cM.lst
def SO(d:cM):Option cM:=(WM d).map cM.tup
def Ub(K:Ao):RC:=λxs H Q=>∃p ys,xs=[.ref p]/\(W7 K H p ys∨UV K H p ys)/\∀l,H l=b3->Q (.ref l) (aG H l (.lst ys))
def BI(K:Ao):RC:=λxs H Q=>∃p ys,xs=[.ref p]/\((W7 K H p ys/\∀l,H l=b3->Q (.ref l) (aG H l (.tup ys)))∨(UV K H p ys/\Q (.ref p) H))
def NW(h:X.K=K:=by rfl):Z2 X (.type "list") (Ub K):=li h
def RF(h:X.K=K:=by rfl):Z2 X (.type "tuple") (BI K):=mq h
def FS{d:cM}{g:List cM->cM}{c:cM}(h:(WM d).map g=b0 c):∃ds,WM d=b0 ds/\c=g ds:=by
 cases h1:WM d with
 |none=>rw[h1]at h;cases h
 |some ds=>rw[h1]at h;cases h;exact⟨ds,rfl,rfl⟩
def XX:CalN K (Ub K) NB:=by intro H N M x d c Q b h k;obtain⟨ds,h1,rfl⟩:=FS h;obtain⟨a,xs,rfl,sq,r⟩:=b.seq h1;exact⟨a,xs,rfl,sq,λl hl=>k l xs ds hl r rfl⟩
def Q6:CalC K (BI K) SO:=by
 intro H N M x d c Q b h k;obtain⟨ds,h1,rfl⟩:=FS h;obtain⟨a,xs,rfl,sq,r⟩:=b.seq h1;rcases sq with sq|sq
 ·exact⟨a,xs,rfl,.inl ⟨sq,λl hl=>k _ _ (cD hl) λM e=>.tup (UV.of bU) (r.same (cD hl))⟩⟩
 ·exact⟨a,xs,rfl,.inr ⟨sq,k _ _ (aD.refl _) λM e=>.tup sq r⟩⟩
noncomputable def o2I(g:Int->Int->Int):cM->cM->Option cM
 |.int i,.int j=>b0 (.int (g i j))
 |_,_=>b3
def Vf{g:Int->Int->Int}:HZ K (λxs H Q=>∃i j,xs=[.int i,.int j]/\Q (.int (g i j)) H) (o2I g):=by
 intro H N N' M M' x y d e c Q b a h k;unfold o2I at h;split at h
 ·cases h
  cases b.onI;cases a.onI;exact⟨_,_,rfl,k _ λ_ _ _=>.int _⟩
 ·cases h
abbrev oMax:=o2I λi j=>if j>i then j else i
abbrev oMin:=o2I λi j=>if j<i then j else i
def Uv:HZ K (λxs H Q=>∃i j,xs=[.int i,.int j]/\Q (.int (if j>i then j else i)) H) oMax:=Vf
def Tr:HZ K (λxs H Q=>∃i j,xs=[.int i,.int j]/\Q (.int (if j<i then j else i)) H) oMin:=Vf
noncomputable def tyD:cM->Option String
 |.non=>b0 "NoneType"
 |.bl _=>b0 "bool"
 |.int _=>b0 "int"
 |.str _=>b0 "str"
 |.tup _=>b0 "tuple"
 |.lst _=>b0 "list"
 |_=>b3
noncomputable def NV(t n:String):Option Bool:=if((Kg t)==(Kg n))=b5 then b0 b5 else if W.kitMeta n=b5 then(PySem.fastBuiltinMro t).map (·.contains (.type n))else b3
def eY{t n:String}{k:Bool}(h:NV t n=b0 k):W.kitOne K (.type t) (.type n)=b0 k:=h
def TF:cM->cM->Option cM
 |d,.ty n=>(tyD d).bind λt=>(NV t n).map cM.bl
 |_,_=>b3
def rIsi(K:Ao):RC:=λxs H Q=>∃x n d N M t k,xs=[x,.ty n]/\aU K N H M x d/\tyD d=b0 t/\NV t n=b0 k/\Q (.bl k) H
def eL:Z2 X (.builtin "isinstance") (rIsi X.K):=by
 intro aa s σ H xs us Q I r h;obtain⟨x,n,d,N,M,t,k,rfl,j,b,hk,q⟩:=h;obtain⟨u,c,rfl,f,g⟩:=B6 r;cases (show c=Kg n from g);have e:=eY (K:=X.K) hk;have a:∀tk,EP X aa σ Q (.bool k) {s with toks:=tk}:=λtk=>⟨.bl k,H,I.tok tk,rfl,q⟩;cases j with
 |non=>cases b;exact RD I f (.non) e a
 |bl y=>cases b;exact RD I f (.bl y) e a
 |int i=>cases b;exact RD I f (.int i) e a
 |str y=>cases b;exact RD I f (.str y) e a
 |ty n=>cases b
 |fn _=>cases b
 |dct _ _ _=>cases b
 |nst _ _ _=>cases b
 |ktb _ _=>cases b
 |tup q _=>
  cases b;cases f;obtain⟨its,_,⟨o,h1,h2,_⟩,_⟩:=I.tuple q;exact Fq W.kitx_tuple I.kIn ⟨o,h1,h2⟩ e (λz=>nomatch z) a
 |lst q _ _=>
  cases b;cases f;obtain⟨its,_,⟨o,n,h1,h2,_⟩,_⟩:=I.list (W7.of q);exact Fq Mu I.kIn ⟨o,h1,h2⟩ e (λz=>nomatch z) a
 |fzm q _=>
  cases b;cases f;obtain⟨its,_,⟨o,n,h1,h2,_⟩,_⟩:=I.list q.sq;exact Fq Mu I.kIn ⟨o,h1,h2⟩ e (λz=>nomatch z) a
def kIsi(h:X.K=K:=by rfl):Z2 X (.builtin "isinstance") (rIsi K):=by subst h;exact eL
def jP:HZ K (rIsi K) TF:=by
  intro H N N' M M' x y d e c Q f b h k;cases b<;>first
    | (simp only [TF]at h
       cases h1:tyD d with
       |none=>rw[h1]at h;cases h
       |some t=>
         rw[h1]at h;rename_i n;have h:(NV t n).map cM.bl=b0 c:=h;obtain⟨a,h2,h⟩:=Am.mp h;cases h;exact⟨x,n,d,N,M,t,a,rfl,f,h1,h2,k _ λ_ _ _=>.bl _⟩)
    |cases h
def FA:cM->Option cM
 |.int i=>b0 (.int (-i))
 |_=>b3
def OB(f:PE X a (TV K ml pa ta ia fa)):PE X (.UnaryOp .USub a pos) (TV K ml pa b5 b5 (f1 FA fa)):=(eU lw f).imp λσ H Q c=>by
 obtain⟨B,O,δ,d,δ',S,q,k⟩:=c;obtain⟨x,h1,h2⟩:=KU q;refine⟨B,O,δ,x,δ',S,h1,λe H1 b=>?_⟩;cases x with
 |int i=>
  cases h2;have g:e=.int i:=b.rep.onI;exact⟨i,g,k _ H1 ⟨b.sta,b.frm,b.pur,.int _⟩⟩
 |_=>cases h2
abbrev VP:=Ev->Option (Option Int×Ev)
inductive TPOi(K:Ao)(ml:List Nat)(pu:Bool)(f:VP)(σ:St)(H:Hp)(Q:Option Int->Hp->Prop):Prop
 |mk (B:_) (O:_) (δ:_) (k:_) (δ':_) (h0:Z0 K ml B O H σ δ) (h1:f δ=b0 (k,δ')) (h2:∀H',ResB K ml B O H σ pu H' δ'->Q k H'):TPOi K ml pu f σ H Q
def TPO(K:Ao)(ml:List Nat)(pu:Bool)(f:VP):TO:=λσ H Q=>TPOi K ml pu f σ H Q
def pNo:VP:=λδ=>b0 (b3,δ)
noncomputable def A3(f:VF):VP:=λδ=>(f δ).bind λp=>match p.1 with
 |.int i=>b0 (b0 i,p.2)
 |_=>b3
def PO.imp{e:Option Sj}{t u:TO}(h:PO X e t)(k:∀σ H Q,u σ H Q->t σ H Q):PO X e u:=λaa s σ H Q I w=>h aa s σ H Q I (k σ H Q w)
def PP:PO X b3 (TPO K ml b5 pNo):=zG3.imp λσ H Q a=>by obtain⟨B,O,δ,d,δ',S,q,k⟩:=a;cases q;exact k H (ResB.refl S)
def PQ(h:PE X a (TV K ml pa ta ia fa)):PO X (b0 a) (TPO K ml pa (A3 fa)):=(mj h).imp λσ H Q c=>by
 obtain⟨B,O,δ,d,δ',S,q,k⟩:=c;unfold A3 at q;obtain⟨⟨x,δ1⟩,h1,q⟩:=Aa.mp q;refine⟨B,O,δ,x,δ1,S,h1,λe H1 b=>?_⟩;cases x with
 |int i=>
  have f:e=.int i:=b.rep.onI;cases q;exact⟨i,f,k H1 ⟨b.sta,b.frm,b.pur⟩⟩
 |_=>cases q
def T2(ds:List cM)(lo hi:Option Int):List cM:=(ds.drop (HT.sIx ds.length 0 lo)).take (HT.sIx ds.length ds.length hi-HT.sIx ds.length 0 lo)
def MG{N:Sf->Prop}{xs:List V}{ds:List cM}(r:bT K N H xs ds)(lo hi:Option Int):bT K N H (EF xs lo hi) (T2 ds lo hi):=by unfold EF T2;rw[r.length];exact(r.drop _).take _
noncomputable def oSl(d:cM)(lo hi:Option Int):Option cM:=match d with
 |.lst ds=>b0 (.lst (T2 ds lo hi))
 |.tup ds=>b0 (.tup (T2 ds lo hi))
 |_=>b3
def AF(fa:VF)(a b:VP):VF:=λδ=>(fa δ).bind λp=>(a p.2).bind λl=>(b l.2).bind λu=>(oSl p.1 l.1 u.1).map λc=>(c,u.2)
def iY{prog:Bh}{w:Sm}{A:Dh}{E:Se->Ah->Prop}{s:Ah}{t b:Sf}{items:Array Se}{f e:Se}{lo hi:Option Int}{Q:Se->Ah->Prop}(a:IsTup s.heap t items)(g:s.heap.IsSliceOf b f e .none)(i:IsPart f lo)(pu:IsPart e hi)(h1:HT.sIx items.size 0 lo=0)(h2:HT.sIx items.size items.size hi=items.size)(h:Q (.ref t) s):Sg (Sk prog w) A (Kv (.ref t) (.ref b)) Q E s:=by
 obtain⟨os,c,d,j⟩:=id g;have k:s.TypeIs (.ref b) "slice":=⟨os,c,d⟩;unfold Kv;try with_reducible refine Bv ?_
 first|refine Ac (As ?_)|skip
 refine Ac (Ib a.typeIs (by decide) ?_);refine Ac (Cw (name:=Bk "__getitem__") a.typeIs Er
  (Eo Er a.typeIs PyProof.Rows.entry_tuple_getitem ?_ (PyProof.Rows.args_tuple_getitem _ _)))
 show Sg _ _ (Jv (.ref t)>>=_) _ _ s;refine Ac (PyProof.Rows.tupleItemsOf_ a ?_);refine Ac (Ka k ?_);rw[if_pos (by decide)];refine Ac (HT.UO g i pu ?_);rw[h1,h2];show Sg _ _ (if((((0:Nat):Int)==0&&(1:Int)==1&&(items.size-0)==items.size)=b5)then _ else _) _ _ s;rw[if_pos (by simp)];refine Ac (m:=Qp _) (Ac (Ka a.typeIs (As ?_)));rw[if_pos (by decide)];exact Ac (Hy (As ⟨_,rfl,As h⟩))
def rSlW(K:Ao):V->Option Int->Option Int->Hp->VK->Prop:=λx lo hi H Q=>∃a xs,x=.ref a/\UV K H a xs/\(HT.sIx xs.length 0 lo=0/\HT.sIx xs.length xs.length hi=xs.length)/\Q (.ref a) H
def Zj:SlR X (rSlW X.K):=by
 intro aa s σ H x v j i lo hi k Q I d g e pu h;obtain⟨a,xs,rfl,f,hw,q⟩:=h;cases d;obtain⟨its,r,b,hz⟩:=I.tuple f;have c:its.toArray.size=xs.length:=by rw[Aq];exact r.length.symm
 refine⟨"tuple",_,PyProof.Rows.slot_tuple_getitem.lookup,b.typeIs,?_⟩;exact iY b g e pu (by rw[c];exact hw.1) (by rw[c];exact hw.2) ⟨.ref a,H,I,rfl,q⟩
def rSl(K:Ao):V->Option Int->Option Int->Hp->VK->Prop:=λx lo hi H Q=>(rSlT K x lo hi H Q∨rSlL K x lo hi H Q)∨rSlW K x lo hi H Q
def kSl(h:X.K=K:=by rfl):SlR X (rSl K):=by subst h;exact(zJ7.or kZ).or Zj
def lg{b e:VP}(h:AF fa b e δ=b0 (d,δ')):∃x δ1 l δ2 u,fa δ=b0 (x,δ1)/\b δ1=b0 (l,δ2)/\e δ2=b0 (u,δ')/\oSl x l u=b0 d:=by
 unfold AF at h;cases h1:fa δ with
 |none=>rw[h1]at h;cases h
 |some p=>
  rw[h1]at h;cases h2:b p.2 with
  |none=>simp[h2]at h
  |some q=>
   simp only[Ai,h2]at h;cases a:e q.2 with
   |none=>simp[a]at h
   |some s=>
    simp only[Ai,a]at h;obtain⟨c,f,h⟩:=Am.mp h;cases h;exact⟨p.1,p.2,q.1,q.2,s.1,rfl,h2,a,f⟩
def PM{lo hi:Option Sj}{p2:Pos}{v w:VP}(F:X.K=K)(E:PE X a (TV K ml pa ta ia fa))(hl:PO X lo (TPO K ml pb v))(D:PO X hi (TPO K ml pc w))(C:(pb&&pc || (ta&&ia))=b5:=by rfl):
  PE X (.Subscript a (.Slice lo hi b3 p2) pos) (TV K ml (pa&&pb&&pc) b5 ia (AF fa v w)):=(k8 (kSl F) E hl D).imp λσ H Q s=>by
 obtain⟨B,O,δ,d,i,S,q,k⟩:=s;obtain⟨x,δ1,l,δ2,u,h1,h2,G,t⟩:=lg q;refine⟨B,O,δ,x,δ1,S,h1,λA H1 h=>⟨B,O,δ1,l,δ2,h.sta,h2,λH2 R2=>⟨B,O,δ2,u,i,R2.sta,G,λy c=>?_⟩⟩⟩;have o:aU K (av B O ia) y (at_ B O ta) A x:=by
  rcases(Hn _ _).mp C with z|z
  ·obtain⟨m,j⟩:=(Ag _ _).mp z
   exact(h.rep.same (R2.pur m)).same (c.pur j)
  ·obtain⟨m,j⟩:=(Ag _ _).mp z
   subst m j;exact(h.rep.fr R2.frm (λa z=>.inr z) λa z=>.inr z).fr c.frm (λa z=>.inr z) λa z=>.inr z
 have g:(pa&&pb&&pc)=b5->aD H y:=λz=>by simp only[Ag]at z;exact((h.pur z.1.1).trans (R2.pur z.1.2)).trans (c.pur z.2)
 have f:=(h.frm.trans R2.frm).trans c.frm;cases x with
 |lst ds=>
  cases t;obtain⟨a,xs,rfl,sq,r⟩:=o.seq rfl;rcases sq with sq|sq
  ·exact .inl (.inr ⟨a,xs,rfl,sq,λp b=>k _ _ ⟨c.sta.same (cD b),f.trans (cD b).fr,λz=>(g z).trans (cD b),.lst bU (c.sta.new b) ((MG r l u).same (cD b))⟩⟩)
  ·cases o.onL with
   |lst q n r'=>exact .inl (.inr ⟨a,_,rfl,W7.of q,λp b=>k _ _ ⟨c.sta.same (cD b),f.trans (cD b).fr,λz=>(g z).trans (cD b),.lst bU (c.sta.new b) ((MG r' l u).same (cD b))⟩⟩)
   |fzm q r'=>exact .inl (.inr ⟨a,_,rfl,q.sq,λp b=>k _ _ ⟨c.sta.same (cD b),f.trans (cD b).fr,λz=>(g z).trans (cD b),.lst bU (c.sta.new b) ((MG r' l u).same (cD b))⟩⟩)
 |tup ds=>
  cases t;cases o.onT with
  |tup q r'=>
   by_cases hw:HT.sIx ds.length 0 l=0/\HT.sIx ds.length ds.length u=ds.length
   ·refine .inr ⟨_,_,rfl,q,by rw [r'.length];exact hw,k _ _ ⟨c.sta,f,g,?_⟩⟩
    have e:T2 ds l u=ds:=by unfold T2;rw[hw.1,hw.2];simp
    rw[e];exact .tup q r'
   ·exact .inl (.inl ⟨_,_,rfl,q,by rw[r'.length];exact hw,λp b=>k _ _ ⟨c.sta.same (cD b),f.trans (cD b).fr,λz=>(g z).trans (cD b),.tup (UV.of bU) ((MG r' l u).same (cD b))⟩⟩)
 |_=>cases t
end
inductive Ou where
 |nx (δ:Ev)|rt (d:cM) (δ:Ev)|bk (δ:Ev)|ct (δ:Ev)
abbrev VS:=Ev->Option Ou
def Post(K:Ao)(ml:List Nat)(B:Bs)(D:DV):Ou->Prop
 |.nx δ'=>∀a H' b,Z0 K ml B b H' a δ'->D.nx a H'
 |.rt d δ'=>∀v a H' b,Z0 K ml B b H' a δ'->aU K (rz B) H' (rz B) v d->D.rt v H'
 |.bk δ'=>∀a H' b,Z0 K ml B b H' a δ'->D.bk a H'
 |.ct δ'=>∀a H' b,Z0 K ml B b H' a δ'->D.ct a H'
inductive TSti(K:Ao)(ml:List Nat)(g:VS)(D:DV)(σ:St)(H:Hp):Prop
 |mk (B:_) (O:_) (δ:_) (o:_) (h0:Z0 K ml B O H σ δ) (h1:g δ=b0 o) (h2:Post K ml B D o):TSti K ml g D σ H
def TJ(K:Ao)(ml:List Nat)(g:VS):TS:=λD σ H=>TSti K ml g D σ H
section
variable{X:Cx}{K:Ao}{ml:List Nat}{e a b c:Sj}{es:List Sj}{pa ta ia pb tb ib pc tc ic pu bt bi ps bs:Bool}{fa fb fc f:VF}{B B':Bs}{O:Nat->Option Sf}{H H1 H':Hp}{σ:St}{δ δ':Ev}{v:V}{d:cM}{p:Sf}{pos:Pos}{st:Su}{rest:List Su}{g g':VS}
def aI:VS:=λδ=>b0 (.nx δ)
def b8(g g':VS):VS:=λδ=>(g δ).bind λo=>match o with
 |.nx δ'=>g' δ'
 |o=>b0 o
def b7:NH X [] (TJ K ml aI):=BA.imp λD σ H a=>by obtain⟨B,O,δ,o,S,q,k⟩:=a;cases q;exact k σ H O S
def cJ(h1:PS X st (TJ K ml g))(h2:NH X rest (TJ K ml g')):NH X (st::rest) (TJ K ml (b8 g g')):=(FJ h1 h2).imp λD σ H a=>by
 obtain⟨B,O,δ,o,S,q,k⟩:=a;unfold b8 at q;obtain⟨z,h1,q⟩:=Aa.mp q;refine⟨B,O,δ,z,S,h1,?_⟩;cases z with
 |nx δ1=>exact λb H' e c=>⟨B,e,δ1,o,c,q,k⟩
 |rt d δ1=>cases q;exact k
 |bk δ1=>cases q;exact k
 |ct δ1=>cases q;exact k
def cI(h1:PS X st (TJ K ml g)):NH X [st] (TJ K ml g):=(FJ h1 BA).imp λD σ H ⟨B,O,δ,o,S,q,k⟩=>⟨B,O,δ,o,S,q,by cases o<;>exact k⟩
noncomputable def bK(f:VF):VS:=λδ=>(f δ).map λp=>.rt p.1 p.2
def cB(h:PE X e (TV K ml pu bt bi f))(b:bt=b5:=by rfl):PS X (.Return (b0 e) pos) (TJ K ml (bK f)):=(Tz h).imp λD σ H a=>by obtain⟨B,O,δ,o,S,q,k⟩:=a;unfold bK at q;obtain⟨p,h1,q⟩:=Am.mp q;cases q;subst b;exact⟨B,O,δ,p.1,p.2,S,h1,λv H' R=>k v σ H' O R.sta (R.rep.mono R.sta.rza R.sta.rzn)⟩
def B7{i:Nat}(h:PE X e (WF i))(b:i∉ml:=by decide):PS X (.Return (b0 e) pos) (TJ K ml (bK (fO i))):=(Tz h).imp λD σ H a=>by obtain⟨B,O,δ,o,S,q,k⟩:=a;unfold bK at q;obtain⟨⟨x,δ1⟩,h1,q⟩:=Am.mp q;cases q;obtain⟨rfl,v,c,r⟩:=S.lone b h1;exact⟨v,c,k v σ H O S (r.mono S.rza S.rza)⟩
def BQ(f:VF):VS:=λδ=>(f δ).map λp=>.nx p.2
def iU(h:PE X e (TV K ml pu bt bi f))(b:Gv e b3 pos.line X.env=pure ba:=by rfl):PS X (.Expr e pos) (TJ K ml (BQ f)):=(HM h b).imp λD σ H a=>by obtain⟨B,O,δ,o,S,q,k⟩:=a;unfold BQ at q;obtain⟨p,h1,q⟩:=Am.mp q;cases q;exact⟨B,O,δ,p.1,p.2,S,h1,λv H' R=>k σ H' O R.sta⟩
def YN(t:VB)(g g':VS):VS:=λδ=>(t δ).bind λp=>if p.1=b5 then g p.2 else g' p.2
def bI{x y:List Su}{t:VB}(e:PT X c (TB K ml pc t))(h:NH X x (TJ K ml g))(f:NH X y (TJ K ml g')):PS X (.If c x y pos) (TJ K ml (YN t g g')):=(dD e h f).imp λD σ H a=>by
 obtain⟨B,O,δ,o,S,q,k⟩:=a;unfold YN at q;obtain⟨⟨b,δ1⟩,h1,q⟩:=Aa.mp q;refine⟨B,O,δ,b,δ1,S,h1,λH1 d=>?_⟩;cases b with
 |true=>exact ER ⟨B,O,δ1,o,d.sta,q,k⟩
 |false=>exact EQ ⟨B,O,δ1,o,d.sta,q,k⟩
abbrev VX:=Ev->Option (Sl×Ev)
inductive St1(K:Ao)(B:Bs)(O:Nat->Option Sf)(H:Hp):Bs->V->Sl->Prop
 |va {v:V}{d:cM}:St1 K B O H {B with kp:=[(v,d)]++B.kp} v (.va d)
 |ol {p:Sf}{xs:List V}{ds:List cM}:H p=b0 (.lst xs)->xs.length=ds.length->¬Nn B O p->B.H0 p=b3->St1 K B O H {B.add p with kp:=xs.zip ds++B.kp} (.ref p) (.ow (.lst ds))
 |od {p:Sf}{kvs:List (aS×V)}{ds:List cM}:H p=b0 (.dK kvs)->kvs.length=ds.length->¬Nn B O p->B.H0 p=b3->St1 K B O H {B.add p with kp:=(kvs.map Dd).zip ds++B.kp} (.ref p) (.ow (.dct (kvs.map Cg) ds))
 |of {p:Sf}{sh:List (Option Nat)}{vs:List V}{ds:List cM}:RW H p sh vs->vs.length=ds.length->¬Nn B O p->B.H0 p=b3->St1 K B O H {B.add p with kp:=vs.zip ds++B.kp} (.ref p) (.ow (.nst sh ds))
def St1.fr{s:Sl}(h:St1 K B O H B' v s)(f:Fr (OA O) H H'):St1 K B O H' B' v s:=by
 cases h with
 |va=>exact .va
 |ol q l n z=>exact .ol (f _ _ q λw=>absurd (.inr w) n) l n z
 |od q l n z=>exact .od (f _ _ q λw=>absurd (.inr w) n) l n z
 |of q l n z=>exact .of (q.fr f λw=>n (.inr w)) l n z
inductive TXi(K:Ao)(ml:List Nat)(f:VX)(σ:St)(H:Hp)(Q:VK):Prop
 |mk (B:_) (O:_) (δ:_) (s:_) (δ':_) (h0:Z0 K ml B O H σ δ) (h1:f δ=b0 (s,δ')) (h2:∀v H' B',Z0 K ml B' O H' σ δ'->St1 K B O H' B' v s->Fr (OA O) H H'->Q v H'):TXi K ml f σ H Q
def TX(K:Ao)(ml:List Nat)(f:VX):TE:=λσ H Q=>TXi K ml f σ H Q
noncomputable def xV(f:VF):VX:=λδ=>(f δ).map λp=>(.va p.1,p.2)
noncomputable def xO(f:VF):VX:=λδ=>(f δ).map λp=>(.ow p.1,p.2)
def aZ(h:PE X e (TV K ml pu b5 b5 f)):PE X e (TX K ml (xV f)):=h.imp λσ H Q a=>by
 obtain⟨B,O,δ,o,δ',S,q,k⟩:=a;unfold xV at q;obtain⟨p,h1,q⟩:=Am.mp q;cases q;exact⟨B,O,δ,p.1,p.2,S,h1,λv H' R=>k v H' _ (R.sta.keepV (ps:=[(v,p.1)]) λz hz=>by rw[An.mp hz];exact R.rep) .va R.frm⟩
theorem WH{N:Sf->Prop}:∀{xs:List V}{ds:List cM},bT K N H xs ds->∀z∈xs.zip ds,aU K N H N z.1 z.2
 |_,_,.nil,z,hz=>nomatch hz
 |_,_,.cons h t,z,hz=>by
  rcases Aj.mp hz with e|e
  ·rw[e];exact h
  ·exact WH t z e
theorem UA{N:Sf->Prop}:∀{xs:List V}{ds:List cM},xs.length=ds.length->(∀z∈xs.zip ds,aU K N H N z.1 z.2)->bT K N H xs ds
 |[],[],_,_=>.nil
 |x::xs,d::ds,hl,h=>.cons (h (x,d) (Aw ..)) (UA (by simpa using hl) λz hz=>h z (Ap _ hz))
def WS(h:PE X e (TN K ml pu f)):PE X e (TX K ml (xO f)):=h.imp λσ H Q a=>by
 obtain⟨B,O,δ,o,δ',S,q,k⟩:=a;unfold xO at q;cases h1:f δ with
 |none=>rw[h1]at q;cases q
 |some p=>
  obtain⟨d,δ1⟩:=p;rw[h1]at q;cases q;refine⟨B,O,δ,d,δ1,S,h1,λp H' R=>?_⟩;have w:=R.own;cases w with
  |lst q r=>exact k _ H' _ (R.sta.keepV (WH r)) (.ol q r.length R.nz R.h0) R.frm
  |dct q r=>exact k _ H' _ (R.sta.keepV (WH r)) (.od q (by simpa using r.length) R.nz R.h0) R.frm
  |nst q r=>exact k _ H' _ (R.sta.keepV (WH r)) (.of q r.length R.nz R.h0) R.frm
def St1.bind{c:Nat->Option Sf}{s:Sl}{i:Nat}(h:St1 K B O H' B' v s)(S:Z0 K ml B' c H' σ δ)(a:i∉ml)(hl:i<δ.length):∃b,Z0 K ml B b H' (σ.set i (b0 v)) (δ.set i s):=by
 cases h with
 |va=>
  refine⟨_,Z0.unkeep (ps:=_) (S.setVa a (S.kep _ (Bz _ (An.mpr rfl))))⟩
 |ol q l n z=>
  refine⟨_,Z0.setOw (Z0.unkeep (B:=B.add _) S) a hl (λw=>n (.inl w)) z (.lst q (UA l λz hz=>S.kep z (Bz _ hz)))⟩
 |od q l n z=>
  refine⟨_,Z0.setOw (Z0.unkeep (B:=B.add _) S) a hl (λw=>n (.inl w)) z (.dct q (UA (by simpa using l) λz hz=>S.kep z (Bz _ hz)))⟩
 |of q l n z=>
  refine⟨_,Z0.setOw (Z0.unkeep (B:=B.add _) S) a hl (λw=>n (.inl w)) z (.nst q (UA l λz hz=>S.kep z (Bz _ hz)))⟩
noncomputable def aK(i:Nat)(x:VX):VS:=λδ=>(x δ).bind λp=>if i<p.2.length then b0 (.nx (p.2.set i p.1))else b3
def bO{i:Nat}{y:Si}{x:VX}{af:Pos}(j:X.N.Nodup)(h:PE X e (TX K ml x))(hi:X.N[i]?=b0 y:=by rfl)(c:Loc X.env.scope y:=by first|exact .inl rfl|exact .inr rfl)(f:i∉ml:=by decide)(d:Gv e (b0 (.Name y af)) pos.line X.env=pure ba:=by rfl)
  (g:LO X y:=by first|exact .inl rfl|exact .inr rfl|assumption):PS X (.Assign [.Name y af] e pos) (TJ K ml (aK i x)):=(mD j hi c h d g).imp λD σ H a=>by
 obtain⟨B,O,δ,o,S,q,k⟩:=a;unfold aK at q;obtain⟨⟨s,δ1⟩,h1,q⟩:=Aa.mp q;have q:(if i<δ1.length then b0 (Ou.nx (δ1.set i s))else b3)=b0 o:=q;split at q
 ·rename_i hl
  cases q;refine⟨B,O,δ,s,δ1,S,h1,λv H' B' l h' n=>?_⟩;obtain⟨m,b⟩:=h'.bind l f hl;exact k _ _ _ b
 ·cases q
noncomputable def LV(i j:Nat)(x y:VX):VS:=λδ=>(x δ).bind λp=>(y p.2).bind λq=>if i<q.2.length/\j<q.2.length then b0 (.nx ((q.2.set j q.1).set i p.1))else b3
def MQ{i j:Nat}{y z:Si}{n m:VX}{e d pt:Pos}{kt k2 pt2}(hc:X.calm=b5)(J:X.N.Nodup)(hi:X.N[i]?=b0 y)(E:X.N[j]?=b0 z)(c:i≠j)(A:X.env.scope.names.lookup y=b0 .local)(x:X.env.scope.names.lookup z=b0 .local)(I:PE X a (TX K ml n))(G:PE X b (TX K ml m))(hw:Eh [.Tuple [.Name y e,.Name z d] kt pt] (.Tuple [a,b] k2 pt2) X.env=pure (b0 [y,z]))(h:i∉ml:=by decide)(g:j∉ml:=by decide)(C:Eg [.Tuple [.Name y e,.Name z d] kt pt] (.Tuple [a,b] k2 pt2) pos.line X.env=pure ba:=by rfl)(F:SE X a [b]:=by rfl)(l:SE X b []:=by rfl):
  PS X (.Assign [.Tuple [.Name y e,.Name z d] kt pt] (.Tuple [a,b] k2 pt2) pos) (TJ K ml (LV i j n m)):=(gV hc J hi E c A x (bL I (bL G ZU l) F) hw C).imp λD σ H f=>by
 obtain⟨B,O,δ,o,S,q,k⟩:=f;unfold LV at q;obtain⟨⟨s,δ1⟩,h1,q⟩:=Aa.mp q;cases h2:m δ1 with
 |none=>simp[h2]at q
 |some p2=>
  obtain⟨w,δ2⟩:=p2;simp only[Ai,h2]at q;split at q
  ·rename_i hl
   cases q;refine⟨B,O,δ,s,δ1,S,h1,λv H1 Q P t f1=>⟨Q,O,δ1,w,δ2,P,h2,λu H2 U M r f2=>⟨v,u,rfl,?_⟩⟩⟩;obtain⟨T,L⟩:=r.bind M g hl.2;obtain⟨R,p⟩:=(t.fr f2).bind L h (by rw[Cf];exact hl.1);rw[Es _ _ (Dj c)]at p;exact k _ _ _ p
  ·cases q
abbrev VG:=cM->Ev->Option Ev
inductive TGVi(K:Ao)(ml:List Nat)(h:VG)(v:V)(σ:St)(H:Hp)(Q:St->Hp->Prop):Prop
 |mk (B:_) (O:_) (δ:_) (d:_) (δ':_) (h0:Z0 K ml B O H σ δ) (h1:aU K (Nn B O) H (Nn B O) v d) (h2:h d δ=b0 δ') (h3:∀σ' O',Z0 K ml B O' H σ' δ'->(∀i∈ml,σ'[i]?=σ[i]?)->Q σ' H):TGVi K ml h v σ H Q
def TGV(K:Ao)(ml:List Nat)(h:VG):TG:=λv σ H Q=>TGVi K ml h v σ H Q
def PG.imp{t u:TG}(h:PG X e t)(k:∀v σ H Q,u v σ H Q->t v σ H Q):PG X e u:=λaa s σ H v w Q I r z=>h aa s σ H v w Q I r (k v σ H Q z)
def PGs.imp{t u:TGs}(h:PGs X es t)(k:∀v σ H Q,u v σ H Q->t v σ H Q):PGs X es u:=λaa s σ H v w Q I r z=>h aa s σ H v w Q I r (k v σ H Q z)
def PG.or{t u:TG}(h:PG X e t)(h':PG X e u):PG X e (λv σ H Q=>t v σ H Q∨u v σ H Q):=λaa s σ H v w Q I r z=>by
 rcases z with z|z
 ·exact h aa s σ H v w Q I r z
 ·exact h' aa s σ H v w Q I r z
def gN(i:Nat):VG:=λd δ=>b0 (δ.set i (.va d))
def bZ{i:Nat}{x:Si}(g:X.N.Nodup)(hi:X.N[i]?=b0 x:=by rfl)(c:Loc X.env.scope x:=by first|exact .inl rfl|exact .inr rfl)(b:i∉ml:=by decide)(f:LO X x:=by first|exact .inl rfl|exact .inr rfl|assumption):PG X (.Name x pos) (TGV K ml (gN i)):=
 (O7 g hi c f).imp λv σ H Q a=>by obtain⟨B,O,δ,d,δ',S,r,q,k⟩:=a;cases q;exact k _ _ (S.setVa b r) λj e=>Ca λ(z:i=j)=>b (z▸e)
abbrev VGs:=List cM->Ev->Option Ev
inductive Uh(K:Ao)(ml:List Nat)(h:VGs)(vs:List V)(σ:St)(H:Hp)(Q:St->Hp->Prop):Prop
 |mk (B:_) (O:_) (δ:_) (ds:_) (δ':_) (h0:Z0 K ml B O H σ δ) (h1:bT K (Nn B O) H vs ds) (h2:h ds δ=b0 δ') (h3:∀σ' O',Z0 K ml B O' H σ' δ'->(∀i∈ml,σ'[i]?=σ[i]?)->Q σ' H):Uh K ml h vs σ H Q
def TGVs(K:Ao)(ml:List Nat)(h:VGs):TGs:=λvs σ H Q=>Uh K ml h vs σ H Q
def Y4:VGs:=λds δ=>match ds with
 |[]=>b0 δ
 |_=>b3
def bG(g:VG)(a:VGs):VGs:=λds δ=>match ds with
 |d::r=>(g d δ).bind λδ1=>a r δ1
 |[]=>b3
def ZM:PGs X [] (TGVs K ml Y4):=HK.imp λvs σ H Q a=>by
 obtain⟨B,O,δ,ds,δ',S,r,q,k⟩:=a;cases r with
 |nil=>cases q;exact⟨rfl,k _ _ S λ_ _=>rfl⟩
 |cons _ _=>cases q
def bM{g:VG}{c:VGs}(h1:PG X e (TGV K ml g))(h2:PGs X es (TGVs K ml c))(l:(Sh (e::es) X.env).map (·.2)=assign e X.env::(Sh es X.env).map (·.2):=by rfl):PGs X (e::es) (TGVs K ml (bG g c)):=
 (UN h1 h2 l).imp λvs σ H Q b => by
  obtain⟨B,O,δ,ds,δ',S,r,q,k⟩:=b;cases r with
  |nil=>cases q
  | @cons v vs d ds h t=>
   have q:((g d δ).bind λδ1=>c ds δ1)=b0 δ':=q;obtain⟨δ1,h1,q⟩:=Aa.mp q;have n:=S.keepV (WH t);exact⟨v,vs,rfl,_,O,δ,d,δ1,n,h,h1,λj p f m1=>⟨B,p,δ1,ds,δ',f.unkeep,UA t.length λz hz=>f.kep z (Bz _ hz),q,λa o m m2=>k a o m λi hi=>(m2 i hi).trans (m1 i hi)⟩⟩
def OC(n:Nat)(a:VGs):VG:=λd δ=>(WM d).bind λds=>if ds.length=n then a ds δ else b3
def YV{e:VGs}{k n:Nat}(j:X.K=K)(hc:X.calm=b5)(h:PGs X es (TGVs K ml e))(i:(Sh es X.env).length=n:=by rfl)(b:(Sh es X.env).findIdx? (·.1)=b3:=by rfl):PG X (.Tuple es k pos) (TGV K ml (OC n e)):=
 ((Xo (K := K) j hc h i b).or (lF (K := K) j hc h i b)).imp λv σ H Q g => by
  obtain⟨B,O,δ,d,δ',S,r,q,k⟩:=g;unfold OC at q;obtain⟨ds,h1,q⟩:=Aa.mp q;have q:(if ds.length=n then e ds δ else b3)=b0 δ':=q;split at q
  ·rename_i hl
   obtain⟨a,xs,rfl,sq,f⟩:=r.seq h1;have c:TGVs K ml e xs σ H Q:=⟨B,O,δ,ds,δ',S,f,q,k⟩;rcases sq with sq|sq
   ·exact .inr ⟨a,xs,rfl,sq,f.length.trans hl,c⟩
   ·exact .inl ⟨a,xs,rfl,sq,f.length.trans hl,c⟩
  ·cases q
noncomputable def LS(f:VF)(g:VG):VS:=λδ=>(f δ).bind λp=>(g p.1 p.2).map Ou.nx
def SZ{tg:Sj}{gg:VG}(h:PE X e (TV K ml pu b5 b5 f))(g:PG X tg (TGV K ml gg))(c:Eg [tg] e pos.line X.env=pure ba:=by rfl)(hw:Eh [tg] e X.env=pure b3:=by rfl)
  (h1:(Sh [tg] X.env).map (·.2)=[assign tg X.env]:=by rfl):PS X (.Assign [tg] e pos) (TJ K ml (LS f gg)):=(QL h g c hw h1).imp λD σ H b=>by
 obtain⟨B,O,δ,o,S,q,k⟩:=b;unfold LS at q;obtain⟨⟨d,δ1⟩,h1,q⟩:=Aa.mp q;have q:(gg d δ1).map Ou.nx=b0 o:=q;obtain⟨δ2,h2,q⟩:=Am.mp q;cases q;exact⟨B,O,δ,d,δ1,S,h1,λv H' R=>⟨B,O,δ1,d,δ2,R.sta,R.rep,h2,λa j i _=>k a H' j i⟩⟩
def MuV(K:Ao)(r:V->List V->Hp->VK->Prop)(m:List cM->List cM->Option (List cM)):Prop:=∀(H:Hp) (N:Sf->Prop) (l:Sf) (xs vs:List V) (ds es b:List cM) (Q:VK),
 H l=b0 (.lst xs)->N l->bT K N H xs ds->bT K N H vs es->m ds es=b0 b->(∀v a,bT K N H a b->Q v (aG H l (.lst a)))->r (.ref l) vs H Q
noncomputable def VD(δ:Ev)(i:Nat):Option (List cM):=match δ[i]? with
 |some (.ow (.lst ds))=>b0 ds
 |_=>b3
def VT(i:Nat)(m:List cM->List cM->Option (List cM))(fs:OF):VS:=λδ=>(VD δ i).bind λ_=>(fs δ).bind λp=>(VD p.2 i).bind λds=>(m ds p.1).map λa=>.nx (p.2.set i (.ow (.lst a)))
def RK{i:Nat}{ds:List cM}(h:VD δ i=b0 ds):δ[i]?=b0 (.ow (.lst ds)):=by
 unfold VD at h;split at h
 ·cases h;assumption
 ·cases h
def NC{N:Sf->Prop}{l:Sf}{o:HO}{xs:List V}{ds ys:List cM}{zs:List V}(d:H l=b0 (.lst zs))(e:N l)(h:bT K N H xs ds):bT K N (aG H l o) xs ds:=
 h.fr (P:=λb=>b=l) (λb u q n=>by
  by_cases c:b=l
  ·subst c
   rw[d]at q;cases q;exact absurd (n rfl) λz=>z
  ·rw[bC c]
   exact q) λa z=>z▸e
def Y8{i:Nat}{x:Si}{name:Si}{ak ae c:Pos}{id:String}{r:V->List V->Hp->VK->Prop}{m:List cM->List cM->Option (List cM)}{fs:OF}(slot:Slot "list" name id)(g:typeOf (.builtin id)=pure (.type "method_descriptor"))(I:MtR X id r)(n:MuV K r m)(G:PE X (.Name x c) (WF i))(J:PA X (e::es) (TAV K ml pu b5 fs))(T:Gq (.Name x c) name X.env (eval (.Name x c) X.env)=eval (.Name x c) X.env:=by rfl)(Q:((Ex ae (Bb (e::es) X.env)).all (λx=> !x.1)&&(Mg ae (Ic [] X.env)).all (λx=>x.1.isSome)&&decide ((e::es).length+([]:List Ie).length+(if([]:List Ie).isEmpty then 0 else 1)<30))=b5:=by rfl)(U:(ak.endLine==ae.line)=b5:=by rfl)(F:SE X e es:=by rfl)(W:(Ex ae (Bb es X.env)).any (·.1)=ba:=by rfl)(h:Gv (.Call (.Attribute (.Name x c) name ak) (e::es) [] ae) b3 pos.line X.env=pure ba:=by rfl)(L:X.K=K:=by rfl):PS X (.Expr (.Call (.Attribute (.Name x c) name ak) (e::es) [] ae) pos) (TJ K ml (VT i m fs)):=
 (HM (kBm (K := K) L Ho slot g I G J T Q U F W) h).imp λD σ H j => by
  obtain⟨B,O,δ,o,S,q,k⟩:=j;unfold VT at q;obtain⟨P,M,q⟩:=Aa.mp q;have q:((fs δ).bind λp=>(VD p.2 i).bind λds=>(m ds p.1).map λa=>Ou.nx (p.2.set i (.ow (.lst a))))=b0 o:=q;obtain⟨⟨b,δ1⟩,h1,q⟩:=Aa.mp q;have q:((VD δ1 i).bind λds=>(m ds b).map λa=>Ou.nx (δ1.set i (.ow (.lst a))))=b0 o:=q;obtain⟨ds,h2,q⟩:=Aa.mp q;have q:((m ds b).map λa=>Ou.nx (δ1.set i (.ow (.lst a))))=b0 o:=q;cases t:m ds b with
  |none=>rw[t]at q;cases q
  |some a=>
   rw[t]at q;cases q;obtain⟨l,f,N,w⟩:=S.ow i _ (RK M);cases w with
   |lst s _=>
    refine⟨.ref l,N,.inl ⟨rfl,_,W7.of s⟩,B,O,δ,b,δ1,S,h1,λvs H1 R=>?_⟩;obtain⟨Y,u,_,A⟩:=R.sta.ow i _ (RK h2);rw[f]at u;cases u;cases A with
    |lst d E=>
     refine n H1 (Nn B O) l _ vs ds b a _ d (.inr ⟨i,f⟩) E R.rep t λv y C=>?_;exact k σ _ O (R.sta.wrote f (λz=>z) (.lst bU (NC (ys:=[]) d (.inr ⟨i,f⟩) C)))
noncomputable def UJ:List cM->List cM->Option (List cM)
 |ds,[d]=>if ds.length<16777216 then b0 (ds++[d])else b3
 |_,_=>b3
def YI:MuV K BG UJ:=by
 intro H N l xs vs ds es c Q hl e a b h k;cases b with
 |nil=>cases h
 | @cons v vs d es hd t=>
  cases t with
  |cons _ _=>cases h
  |nil=>
   simp only[UJ]at h;split at h
   ·rename_i hz
    cases h;exact⟨l,xs,v,rfl,rfl,hl,by rw[a.length,Cr];exact hz,k _ _ (a.snoc hd)⟩
   ·cases h
end
section
variable{X:Cx}{K:Ao}{ml:List Nat}{e a b c:Sj}{es:List Sj}{pa ta ia pb tb ib pc tc ic pu bt bi ps bs:Bool}{fa fb fc f:VF}{B B':Bs}{O:Nat->Option Sf}{H H1 H':Hp}{σ:St}{δ δ':Ev}{v:V}{d:cM}{p:Sf}{pos:Pos}{st:Su}{rest:List Su}{g g':VS}
def XE(a:VS):Ou->Option Ou
 |.nx δ=>a δ
 |.ct δ=>a δ
 |.bk δ=>b0 (.nx δ)
 |.rt d δ=>b0 (.rt d δ)
noncomputable def Z4(t:VB)(g:VS):Nat->VS
 |0=>λ_=>b3
 |n+1=>λδ=>(t δ).bind λp=>if p.1=b5 then(g p.2).bind (XE (Z4 t g n))else b0 (.nx p.2)
theorem S8{t:VB}:∀{n:Nat}{δ:Ev}{o:Ou},Z4 t g n δ=b0 o->Z4 t g (n+1) δ=b0 o
 |0,_,_,h=>by cases h
 | n + 1,δ,o,h => by
  dsimp only[Z4]at h;show((t δ).bind λp=>if p.1=b5 then(g p.2).bind (XE (Z4 t g (n+1)))else b0 (.nx p.2))=b0 o;cases h1:t δ with
  |none=>rw[h1]at h;cases h
  |some p=>
   rw[h1]at h;obtain⟨a,δ1⟩:=p;cases a with
   |false=>exact h
   |true=>
    have h:(g δ1).bind (XE (Z4 t g n))=b0 o:=h;show(g δ1).bind (XE (Z4 t g (n+1)))=b0 o;cases h2:g δ1 with
    |none=>rw[h2]at h;cases h
    |some z=>
     rw[h2]at h;cases z with
     |nx δ2=>exact S8 (n:=n) h
     |ct δ2=>exact S8 (n:=n) h
     |bk δ2=>exact h
     |rt d δ2=>exact h
theorem QO{t:VB}{n:Nat}{o:Ou}(h:Z4 t g n δ=b0 o):∀k,Z4 t g (n+k) δ=b0 o
 |0=>h
 |k+1=>S8 (QO h k)
def DQ{t:VB}{n m:Nat}{o o':Ou}(h:Z4 t g n δ=b0 o)(h':Z4 t g m δ=b0 o'):o=o':=by have b:=QO h m;have a:=QO h' n;rw[Kb]at a;rw[b]at a;exact Bu a
open Classical in
noncomputable def SS(t:VB)(g:VS):VS:=λδ=>if h:∃o n,Z4 t g n δ=b0 o then b0 (Classical.choose h)else b3
def N6{t:VB}{n:Nat}{o:Ou}(h:Z4 t g n δ=b0 o):SS t g δ=b0 o:=by have a:∃o n,Z4 t g n δ=b0 o:=⟨o,n,h⟩;unfold SS;rw[dif_pos a];obtain⟨m,b⟩:=Lz a;rw[DQ b h]
def DI{t:VB}{o:Ou}(h:SS t g δ=b0 o):∃n,Z4 t g n δ=b0 o:=by
 unfold SS at h;split at h
 ·rename_i a
  cases h;exact Lz a
 ·cases h
def L8{body:List Su}{t:VB}(l:Py (Sk X.prog X.w) X.A X.env X.xe)(hc:PT X c (TB K ml pc t))(s:NH X body (TJ K ml g)):PS X (.While c body [] pos) (TJ K ml (SS t g)):=(gF l hc s).imp λD σ H h=>by
 obtain⟨B,O,δ,o,S,q,k⟩:=h;obtain⟨n,p⟩:=DI q;refine⟨λm σ H=>∃O δ,Z0 K ml B O H σ δ/\Z4 t g m δ=b0 o,⟨n,O,δ,S,p⟩,?_⟩;rintro m σ H ⟨O,δ,S,b⟩;cases m with
 |zero=>cases b
 |succ m=>
  dsimp only[Z4]at b;obtain⟨⟨i,δ1⟩,h1,b⟩:=Aa.mp b;refine⟨B,O,δ,i,δ1,S,h1,λH1 j=>?_⟩;cases i with
  |false=>
   have b:b0 (Ou.nx δ1)=b0 o:=b;cases b;exact EQ (k σ H1 O j.sta)
  |true=>
   have b:(g δ1).bind (XE (Z4 t g m))=b0 o:=b;obtain⟨z,h2,b⟩:=Aa.mp b;refine ER ⟨λa H'=>∃O δ,Z0 K ml B O H' a δ/\Z4 t g m δ=b0 o,λa H' w=>⟨m,Nat.lt_succ_self _,w⟩,B,O,δ1,z,j.sta,h2,?_⟩;cases z with
   |nx δ2=>exact λa H' f e=>⟨f,δ2,e,b⟩
   |ct δ2=>exact λa H' f e=>⟨f,δ2,e,b⟩
   |bk δ2=>cases b;exact λa H' f e=>k a H' f e
   |rt d δ2=>cases b;exact λv a H' f e r=>k v a H' f e r
def Walk(K:Ao)(J:It)(a:List (V×cM))(ds:List cM):Prop:=∀(N:Sf->Prop) (H:Hp),(∀p∈a,aU K N H N p.1 p.2)->
 (∀(i:Nat) (d:cM),ds[i]?=b0 d->J.go i H/\∀x H',J.yld i H x H'->aD H H'/\aU K N H' N x d)/\J.stop ds.length H
abbrev VI:=Ev->Option (List cM×Ev)
inductive TIVi(K:Ao)(ml:List Nat)(pu:Bool)(f:VI)(σ:St)(H:Hp)(R:It->Hp->Prop):Prop
 |mk (B:_) (O:_) (δ:_) (ds:_) (δ':_) (h0:Z0 K ml B O H σ δ) (h1:f δ=b0 (ds,δ')) (h2:∀J kps H',Z0 K ml {B with kp:=kps++B.kp} O H' σ δ'->Fr (OA O) H H'->(pu=b5->aD H H')->Walk K J kps ds->R J H'):TIVi K ml pu f σ H R
def TIV(K:Ao)(ml:List Nat)(pu:Bool)(f:VI):TI:=λσ H R=>TIVi K ml pu f σ H R
def PI.imp{tg:Sj}{t u:TI}(h:PI X tg e t)(k:∀σ H R,u σ H R->t σ H R):PI X tg e u:=λaa s σ H R I w=>h aa s σ H R I (k σ H R w)
def PI.or{tg:Sj}{t u:TI}(h:PI X tg e t)(h':PI X tg e u):PI X tg e (λσ H R=>t σ H R∨u σ H R):=λaa s σ H R I z=>by
 rcases z with z|z
 ·exact h aa s σ H R I z
 ·exact h' aa s σ H R I z
def WB(f:VF):VI:=λδ=>(f δ).bind λp=>(WM p.1).map λds=>(ds,p.2)
def jz{a:Sf}{ds:List cM}:Walk K (Itl K a) [(.ref a,.lst ds)] ds:=by
 intro N H h;have r:=h _ (An.mpr rfl);have b:∀xs,W7 K H a xs->bT K N H xs ds->(∀(i:Nat) (d:cM),ds[i]?=b0 d->(Itl K a).go i H/\∀x H',(Itl K a).yld i H x H'->aD H H'/\aU K N H' N x d)/\(Itl K a).stop ds.length H:=λxs sq r=>by
  refine⟨λi d e=>?_,xs,sq,by rw[r.length];exact Au _⟩;obtain⟨x,c,f⟩:=r.get e;refine⟨⟨xs,x,sq,c⟩,λy H' g=>?_⟩;obtain⟨k,j⟩:=g;subst k;have:=j xs sq
  rw[c]at this;cases this;exact⟨aD.refl _,f⟩
 cases r.onL with
 |lst q n r=>exact b _ (W7.of q) r
 |fzm q r=>exact b _ q.sq r
def jd{a:Sf}{ds:List cM}:Walk K (Itt K a) [(.ref a,.tup ds)] ds:=by
 intro N H h;have r:=h _ (An.mpr rfl);cases r.onT with
 |tup sq r=>
  refine⟨λi d e=>?_,_,sq,by rw[r.length];exact Au _⟩;obtain⟨x,b,c⟩:=r.get e;refine⟨⟨_,x,sq,b⟩,λy H' f=>?_⟩;obtain⟨j,g⟩:=f;subst j;have:=g _ sq
  rw[b]at this;cases this;exact⟨aD.refl _,c⟩
def X9{tg:Sj}(i:X.K=K)(h:PE X e (TV K ml pu b5 b5 f)):PI X tg e (TIV K ml pu (WB f)):=((Xw (K:=K) i h).or (Ua (K:=K) i h)).imp λσ H R c=>by
 obtain⟨B,O,δ,ds,δ',S,q,k⟩:=c;unfold WB at q;obtain⟨⟨x,δ1⟩,h1,q⟩:=Aa.mp q;cases x with
 |lst g=>
  cases q;refine .inl ⟨B,O,δ,_,δ1,S,h1,λv H1 b=>?_⟩;obtain⟨a,xs,rfl,sq,r⟩:=b.rep.seq rfl;refine⟨a,rfl,?_,k _ [(.ref a,.lst ds)] H1 (b.sta.keepV λp d=>by rw[An.mp d];exact b.rep) b.frm b.pur jz⟩;have r:=b.rep;cases r.onL with
  |lst q _ _=>exact⟨_,W7.of q⟩
  |fzm q _=>exact⟨_,q.sq⟩
 |tup g=>
  cases q;refine .inr ⟨B,O,δ,_,δ1,S,h1,λv H1 b=>?_⟩;obtain⟨a,xs,rfl,sq,r⟩:=b.rep.seq rfl;refine⟨a,rfl,?_,k _ [(.ref a,.tup ds)] H1 (b.sta.keepV λp d=>by rw[An.mp d];exact b.rep) b.frm b.pur jd⟩;have r:=b.rep;cases r.onT with
  |tup q _=>exact⟨_,q⟩
 |_=>cases q
def X8(lo:Int)(n:Nat):List cM:=(Bm n).map λk:Nat=>.int (lo+k)
noncomputable def iR1(f:VF):VI:=λδ=>(f δ).bind λp=>match p.1 with
 |.int j=>if -4611686018427387904<=j/\j<4611686018427387904 then b0 (X8 0 j.toNat,p.2)else b3
 |_=>b3
noncomputable def iR2(f g:VF):VI:=λδ=>(f δ).bind λp=>(g p.2).bind λq=>match p.1,q.1 with
 |.int i,.int j=>if(-4611686018427387904<=i/\i<4611686018427387904)/\ -4611686018427387904<=j/\j<4611686018427387904 then b0 (X8 i (j-i).toNat,q.2)else b3
 |_,_=>b3
def mN{lo:Int}{n i:Nat}{d:cM}(h:(X8 lo n)[i]?=b0 d):i<n/\d=.int (lo+i):=by
 unfold X8 at h;rw[De]at h;obtain⟨k,h1,h⟩:=Am.mp h;cases h;have:=Af.mp h1
 obtain⟨hl,e⟩:=this;rw[Ig]at hl;rw[List.getElem_range]at e;subst e;exact⟨hl,rfl⟩
def GA{lo:Int}{n:Nat}:Walk K (Itr lo n) [] (X8 lo n):=by intro N H _;refine⟨λi d e=>?_,by simp[Itr,X8]⟩;obtain⟨hl,rfl⟩:=mN e;refine⟨hl,λx H' a=>?_⟩;obtain⟨rfl,rfl⟩:=a;exact⟨aD.refl _,.int _⟩
def US{tg:Sj}{p':Pos}(l:Gl X "range")(i:X.mg "range"=b3)(h:PE X a (TV K ml pa ta ia fa))(g:Bb [a] X.env=[(ba,eval a X.env)]:=by rfl)(d:SE X a []:=by rfl):
  PI X tg (.Call (.Name "range" p') [a] [] pos) (TIV K ml pa (iR1 fa)):=(kY l i (bL h ZU d) g).imp λσ H R e=>by
 obtain⟨B,O,δ,ds,δ',S,q,k⟩:=e;unfold iR1 at q;obtain⟨⟨x,δ1⟩,h1,q⟩:=Aa.mp q;cases x with
 |int j=>
  have q:(if -4611686018427387904<=j/\j<4611686018427387904 then b0 (X8 0 j.toNat,δ1)else b3)=b0 (ds,δ'):=q;split at q
  ·rename_i f
   cases q;have b:(2:Int) ^ 62=4611686018427387904:=by decide
   refine⟨B,O,δ,_,_,S,h1,λv H1 c=>⟨j,?_,by rw[b];exact f.1,by rw[b];exact f.2,k _ [] H1 (c.sta.keepV λ_ z=>nomatch z) c.frm c.pur GA⟩⟩;rw[c.rep.onI]
  ·cases q
 |_=>cases q
def Zu{tg:Sj}{p':Pos}(t:Gl X "range")(s:X.mg "range"=b3)(h:PE X a (TV K ml pa ta ia fa))(h':PE X b (TV K ml pb tb ib fb))(r:Bb [a,b] X.env=[(ba,eval a X.env),(ba,eval b X.env)]:=by rfl)(f:Bb [b] X.env=[(ba,eval b X.env)]:=by rfl)(u:SE X a [b]:=by rfl)(l:SE X b []:=by rfl):
  PI X tg (.Call (.Name "range" p') [a,b] [] pos) (TIV K ml (pa&&pb) (iR2 fa fb)):=(ls t s (bL h (bL h' ZU l) u) r f).imp λσ H R g=>by
 obtain⟨B,O,δ,ds,δ',S,q,k⟩:=g;unfold iR2 at q;obtain⟨⟨x,δ1⟩,h1,q⟩:=Aa.mp q;cases h2:fb δ1 with
 |none=>simp[h2]at q
 |some p2=>
  obtain⟨y,δ2⟩:=p2;simp only[Ai,h2]at q;cases x with
  |int i=>
   cases y with
   |int j=>
    have q:(if(-4611686018427387904<=i/\i<4611686018427387904)/\ -4611686018427387904<=j/\j<4611686018427387904 then b0 (X8 i (j-i).toNat,δ2)else b3)=b0 (ds,δ'):=q;split at q
    ·rename_i c
     cases q;have e:(2:Int) ^ 62=4611686018427387904:=by decide
     refine⟨B,O,δ,_,_,S,h1,λv H1 d=>⟨B,O,δ1,_,_,d.sta,h2,λw H2 R2=>⟨i,j,?_,by rw[e];exact⟨c.1.1,c.1.2,c.2.1,c.2.2⟩,k _ [] H2 (R2.sta.keepV λ_ z=>nomatch z) (d.frm.trans R2.frm) (λz=>by obtain⟨n,m⟩:=(Ag _ _).mp z;exact(d.pur n).trans (R2.pur m)) GA⟩⟩⟩
     have p:=d.rep;have o:=R2.rep;cases p.onI;cases o.onI;rfl
    ·cases q
   |_=>cases q
  |_=>cases q
noncomputable def Y3(gg:VG)(s:VS):List cM->VS
 |[]=>λδ=>b0 (.nx δ)
 |d::r=>λδ=>(gg d δ).bind λδ1=>(s δ1).bind (XE (Y3 gg s r))
def QX(a:VI)(gg:VG)(s:VS):VS:=λδ=>(a δ).bind λp=>Y3 gg s p.1 p.2
def W5{tg iter:Sj}{body:List Su}{t:VI}{gg:VG}(s:Py (Sk X.prog X.w) X.A X.env X.xe)(hc:X.calm=b5)(hi:PI X tg iter (TIV K ml pu t))(M:PG X tg (TGV K ml gg))(N:NH X body (TJ K ml g))
  (L:∀x,Ss iter X.env x=pure x:=by intro _;rfl):PS X (.For tg iter body [] pos) (TJ K ml (QX t gg g)):=(mh s hc hi M N L).imp λD σ H n=>by
 obtain⟨B,O,δ,o,S,q,k⟩:=n;unfold QX at q;obtain⟨⟨ds,δ1⟩,h1,q⟩:=Aa.mp q;have q:Y3 gg g ds δ1=b0 o:=q;refine⟨B,O,δ,ds,δ1,S,h1,λJ l H1 R _ _ C=>?_⟩;refine⟨λi m σ H=>m=ds.length-i/\i<=ds.length/\∃O δ,Z0 K ml {B with kp:=l++B.kp} O H σ δ/\Y3 gg g (ds.drop i) δ=b0 o,⟨ds.length,rfl,Dx _,O,δ1,R,q⟩,?_⟩;rintro i m σ H ⟨rfl,hi,O,δ,S,b⟩;have w:=C (Nn B O) H λp s=>S.kep p (Bz _ s);by_cases f:i<ds.length
 ·obtain ⟨go,y⟩ := w.1 i ds[i] (by simp [f])
  rw[Fm f]at b;refine .inr ⟨go,λa H'=>∃O δ,Z0 K ml {B with kp:=l++B.kp} O H' a δ/\Y3 gg g (ds.drop (i+1)) δ=b0 o,λa H' E=>⟨ds.length-(i+1),by lia,rfl,f,E⟩,λx H' I=>?_⟩;obtain⟨F,G⟩:=y x H' I;have b:((gg ds[i] δ).bind λδ1=>(g δ1).bind (XE (Y3 gg g (ds.drop (i+1)))))=b0 o:=b;obtain⟨δ2,h2,b⟩:=Aa.mp b;have b:(g δ2).bind (XE (Y3 gg g (ds.drop (i+1))))=b0 o:=b;refine⟨_,O,δ,ds[i],δ2,S.same F,G,h2,λu T Q _=>?_⟩;obtain⟨z,P,b⟩:=Aa.mp b;refine⟨_,T,δ2,z,Q,P,?_⟩;cases z with
  |nx c=>exact λa H' j h=>⟨j,c,h,b⟩
  |ct c=>exact λa H' j h=>⟨j,c,h,b⟩
  |bk c=>cases b;exact λa H' j h=>k a H' j h.unkeep
  |rt d c=>cases b;exact λv a H' j h r=>k v a H' j h.unkeep r
 ·have e : i = ds.length := by lia
  subst e;rw[Gy]at b;cases b;exact .inl ⟨w.2,k σ H O S.unkeep⟩
end
section
variable{X:Cx}{K:Ao}{ml:List Nat}{e a b c:Sj}{es:List Sj}{pa ta ia pb tb ib pc tc ic pu bt bi ps bs:Bool}{fa fb fc f:VF}{B B':Bs}{O:Nat->Option Sf}{H H1 H':Hp}{σ:St}{δ δ':Ev}{v:V}{d:cM}{p:Sf}{pos:Pos}{st:Su}{rest:List Su}{g g':VS}
def Z0.call{P:Sf->Prop}(S:Z0 K ml B O H σ δ)(hl:δ'.length=δ.length)(h:∀i:Nat,(δ'[i]?=δ[i]? /\∀a,O i=b0 a->¬P a)∨∃a d',O i=b0 a/\δ'[i]?=b0 (Sl.ow d')/\QV K (Nn B O) H' a d')
  (f:Fr P H H') (j:∀a,P a->OA O a):Z0 K ml B O H' σ δ' where
 len:=by rw[hl,S.len]
 va:=λi d e=>by
  rcases h i with⟨g,_⟩|⟨a,d',_,g,_⟩
  ·rw[g]at e
   obtain⟨v,c,r⟩:=S.va i d e;exact⟨v,c,r.fr f (λa z=>.inr (j a z)) λa z=>.inr (j a z)⟩
  ·rw[g]at e
   cases e
 ow:=λi d e=>by
  rcases h i with⟨g,n⟩|⟨a,d',c,g,w⟩
  ·rw[g]at e
   obtain⟨a,c,k,w⟩:=S.ow i d e;exact⟨a,c,k,w.fr f (λa z=>.inr (j a z)) (n a c)⟩
  ·rw[g]at e
   cases e;obtain⟨d0,q0⟩:=S.dom i a c;obtain⟨s,k,m,_⟩:=S.ow i d0 q0;rw[c]at k;cases k;exact⟨a,c,m,w⟩
 dom:=λi a e=>by
  rcases h i with⟨g,n⟩|⟨a,d',c,g,w⟩
  ·obtain⟨d0,q0⟩:=S.dom i a e
   exact⟨d0,g.trans q0⟩
  ·exact⟨d',g⟩
 inj:=S.inj
 old:=S.old
 zin:=λa h'=>by
  obtain⟨o,q⟩:=S.zin a h';exact⟨o,f a o q λz=>by obtain⟨i,e⟩:=j a z;exact absurd h' (S.old i a e).1⟩
 frm:=λb o q n=>by
  have h1:=S.frm b o q n;refine f b o h1 λz=>?_;obtain⟨i,e⟩:=j b z;rcases(S.old i b e).2 with w|w
  ·exact n w
  ·rw[q]at w;cases w
 par:=S.par
 pin:=λa h'=>by
  obtain⟨o,q⟩:=S.pin a h';by_cases z:P a
  ·obtain⟨i,e⟩:=j a z
   rcases h i with⟨_,n⟩|⟨s,d',c,g,w⟩
   ·exact absurd z (n a e)
   ·rw[e]at c
    cases c;obtain⟨o,q,_⟩:=w.soft;exact⟨o,q⟩
  ·exact⟨o,f a o q λy=>absurd y z⟩
 kep:=λp l=>(S.kep p l).fr f (λa z=>.inr (j a z)) λa z=>.inr (j a z)
abbrev bW:=List cM->Option (cM×List cM)
def VA(ml:List Nat)(vs:List V):Sf->Prop:=λa=>∃i∈ml,vs[i]?=b0 (.ref a)
def Zp(Z:Sf->Prop)(ml:List Nat)(vs:List V):Sf->Prop:=λa=>Z a∨VA ml vs a
structure Ue(K:Ao)(ml:List Nat)(Z:Sf->Prop)(H:Hp)(vs:List V)(ds:List cM):Prop where
 len:vs.length=ds.length
 mem:∀i∈ml,i<ds.length
 va:∀(i:Nat) (d:cM),i∉ml->ds[i]?=b0 d->∃v,vs[i]?=b0 v/\aU K (Zp Z ml vs) H (Zp Z ml vs) v d
 ow:∀(i:Nat) (d:cM),i∈ml->ds[i]?=b0 d->∃a,vs[i]?=b0 (.ref a)/\QV K (Zp Z ml vs) H a d/\¬Z a
 inj:∀(i j:Nat) (a:Sf),i∈ml->j∈ml->vs[i]?=b0 (.ref a)->vs[j]?=b0 (.ref a)->i=j
 zin:∀a,Z a->∃o,H a=b0 o
inductive spVi(K:Ao)(ml:List Nat)(n:Nat)(F:bW)(vs:List V)(H:Hp)(Q:VK):Prop
 |mk (Z:Sf->Prop) (ds:List cM) (r:cM) (os:List cM) (h0:ds.length=n) (h1:Ue K ml Z H vs ds) (h2:F ds=b0 (r,os)) (h3:∀v H',Fr (VA ml vs) H H'->(∀(k i:Nat) (a:Sf) (o:cM),ml[k]?=b0 i->vs[i]?=b0 (.ref a)->os[k]?=b0 o->QV K (Zp Z ml vs) H' a o)->aU K (Zp Z ml vs) H' (Zp Z ml vs) v r->Q v H'):spVi K ml n F vs H Q
def spV(K:Ao)(ml:List Nat)(n:Nat)(F:bW):Sp:=λvs H Q _=>spVi K ml n F vs H Q
def bV(ml:List Nat)(n:Nat)(ds:List cM):Ev:=ds.mapIdx (λi d=>if i∈ml then Sl.ow d else Sl.va d)++Ak (n-ds.length) Sl.no
noncomputable def SR(ml:List Nat)(δ:Ev):Option (List cM):=ml.mapM λ(i:Nat)=>match(δ[i]? :Option Sl)with
 |some (Sl.ow d)=>b0 d
 |_=>b3
def aT(n:Nat)(ml:List Nat)(g:VS):bW:=λds=>(g (bV ml n ds)).bind λo=>match o with
 |.rt d δ=>(SR ml δ).map λos=>(d,os)
 |.nx δ=>(SR ml δ).map λos=>(.non,os)
 |_=>b3
theorem FF:∀{ml:List Nat}{δ:Ev}{os:List cM},SR ml δ=b0 os->∀(k i:Nat) (o:cM),ml[k]?=b0 i->os[k]?=b0 o->δ[i]?=b0 (.ow o)
 |[],_,_,h,k,i,o,a,b=>by simp at a
 | j :: ml,δ,os,h,k,i,o,a,b => by
  unfold SR at h;rw[Qr]at h;split at h
  ·rename_i d hd
   cases h2:(ml.mapM λ(i:Nat)=>match(δ[i]? :Option Sl)with
    |some (Sl.ow d)=>b0 d
    |_=>b3:Option (List cM))with
   |none=>rw[h2]at h;cases h
   |some c=>
    rw[h2]at h;cases h;cases k with
    |zero=>
     cases a;cases b;exact hd
    |succ k=>exact FF (ml:=ml) h2 k i o (by simpa using a) (by simpa using b)
  ·cases h
def lU{N:List Si}{Z:Sf->Prop}{vs:List V}{ds:List cM}(A:Ue K ml Z H vs ds)(B:ds.length<=N.length):∃g:Nat->Option Sf,(∀i a,g i=b0 a↔i∈ml/\vs[i]?=b0 (.ref a))/\Z0 K ml ⟨Z,VA ml vs,H,g,[]⟩ g H (start N vs) (bV ml N.length ds):=by
 classical
 let g:Nat->Option Sf:=λi=>if i∈ml then(match vs[i]? with
  |some (.ref a)=>b0 a
  |_=>b3)else b3
 have c:∀i a,g i=b0 a↔i∈ml/\vs[i]?=b0 (.ref a):=λi a=>by
  show(if i∈ml then(match vs[i]? with
   |some (.ref a)=>b0 a
   |_=>b3)else b3)=b0 a↔_
  by_cases hi:i∈ml
  ·rw[if_pos hi]
   constructor
   ·intro h
    split at h
    ·rename_i b x
     cases h;exact⟨hi,x⟩
    ·cases h
   ·rintro ⟨_,h⟩
    rw[h]
  ·rw[if_neg hi]
   exact⟨(λh=>nomatch h),λh=>absurd h.1 hi⟩
 have m:∀a,Nn ⟨Z,VA ml vs,H,g,[]⟩ g a->Zp Z ml vs a:=λa h=>by
  rcases h with h|⟨i,h⟩
  ·exact .inl h
  ·exact .inr ⟨i,(c i a).mp h⟩
 have t:∀(i:Nat) (s:Sl),(bV ml N.length ds)[i]?=b0 s->(∃d,ds[i]?=b0 d/\s=if i∈ml then .ow d else .va d)∨s=.no:=λi s h=>by
  unfold bV at h;by_cases hi:i<ds.length
  ·rw [Ae (by simpa using hi),Mj]at h
   cases q:ds[i]? with
   |none=>rw[q]at h;cases h
   |some d=>rw[q]at h;cases h;exact .inl ⟨d,rfl,rfl⟩
  ·rw [At (by simpa using hi),El]at h
   split at h
   ·cases h;exact .inr rfl
   ·cases h
 have k:∀(i:Nat) (v:V),vs[i]?=b0 v->(start N vs)[i]?=b0 (b0 v):=λi v h=>by unfold start;have hi:i<vs.length:=(Af.mp h).1;rw[Ae (by simpa using hi),De,h];rfl
 refine⟨g,c,?_,λi d q=>?_,λi d q=>?_,λi a q=>?_,λi j a q1 q2=>?_,λi a q=>?_,A.zin,Fr.refl _ _,⟨λi a q=>((c i a).mp q).1,λi _=>rfl⟩,λa q=>?_,λp u=>nomatch u⟩
 ·unfold start bV
  have:=A.len
  simp;lia
 ·rcases t i _ q with⟨e,h1,h2⟩|h
  ·by_cases hi:i∈ml
   ·rw[if_pos hi]at h2;cases h2
   ·rw[if_neg hi]at h2
    cases h2;obtain⟨v,f,r⟩:=A.va i d hi h1;exact⟨v,k i v f,r.mono m m⟩
  ·cases h
 ·rcases t i _ q with⟨e,h1,h2⟩|h
  ·by_cases hi:i∈ml
   ·rw[if_pos hi]at h2
    cases h2;obtain⟨a,f,w,_⟩:=A.ow i d hi h1;exact⟨a,(c i a).mpr ⟨hi,f⟩,k i _ f,w.mono m⟩
   ·rw[if_neg hi]at h2;cases h2
  ·cases h
 ·obtain⟨hi,f⟩:=(c i a).mp q
  have hl:=A.mem i hi;refine⟨ds[i],?_⟩;unfold bV;rw[Ae (by simpa using hl),Mj];simp[hl,hi]
 ·exact A.inj i j a ((c i a).mp q1).1 ((c j a).mp q2).1 ((c i a).mp q1).2 ((c j a).mp q2).2
 ·obtain⟨hi,f⟩:=(c i a).mp q
  refine⟨λz=>?_,.inl ⟨i,hi,f⟩⟩;obtain⟨y,l,_,n⟩:=A.ow i (ds[i]'(A.mem i hi)) hi (by simp[A.mem i hi]);rw[f]at l;cases l;exact n z
 ·obtain⟨i,hi,f⟩:=q
  obtain⟨y,l,w,n⟩:=A.ow i (ds[i]'(A.mem i hi)) hi (by simp[A.mem i hi]);rw[f]at l;cases l;obtain⟨o,q,_⟩:=w.soft;exact⟨o,q⟩
def Vx{N ps:List Si}{vs:List V}{Q:VK}{E:XK}(u:ps.length<=N.length)(h:spV K ml ps.length (aT N.length ml g) vs H Q E):TJ K ml g {nx:=λ_ H'=>Q .non H',rt:=Q} (start N vs) H:=by
 obtain⟨Z,ds,r,os,D,AV,c,k⟩:=h;obtain⟨q,n,J⟩:=lU (N:=N) AV (by rw[D];exact u);unfold aT at c;obtain⟨o,h1,c⟩:=Aa.mp c;refine⟨_,q,_,o,J,h1,?_⟩;have s:∀(δ':Ev) (v:V) (f:St) (H':Hp) (p:Nat->Option Sf),SR ml δ'=b0 os->Z0 K ml ⟨Z,VA ml vs,H,q,[]⟩ p H' f δ'->aU K (rz ⟨Z,VA ml vs,H,q,[]⟩) H' (rz ⟨Z,VA ml vs,H,q,[]⟩) v r->Q v H':=λδ' v f H' p C l m=>by
  have hz:∀a,Zp Z ml vs a->rz ⟨Z,VA ml vs,H,q,[]⟩ a:=λa h=>by
   rcases h with h|⟨i,hi,e⟩
   ·exact .inl h
   ·exact .inr ⟨i,(n i a).mpr ⟨hi,e⟩⟩
  refine k v H' l.frm (λB i a o A I G=>?_) (m.mono hz hz);have hd:=FF C B i o A G;obtain⟨L,z,_,w⟩:=l.ow i o hd;have hi:i∈ml:=Cn A;have:=(l.par.2 i hi).trans ((n i a).mpr ⟨hi,I⟩)
  rw[this]at z;cases z;refine w.mono λb x=>?_;rcases x with x|⟨j,y,F⟩
  ·exact .inl x
  ·exact .inr ⟨j,(l.par.2 j y).trans ((n j b).mpr ⟨y,F⟩)⟩
 cases o with
 |rt d δ'=>
  have c:(SR ml δ').map (λos=>(d,os))=b0 (r,os):=c;cases h2:SR ml δ' with
  |none=>rw[h2]at c;cases c
  |some t=>
   rw[h2]at c;cases c;exact λv f H' p l m=>s δ' v f H' p h2 l m
 |nx δ'=>
  have c:(SR ml δ').map (λos=>(cM.non,os))=b0 (r,os):=c;cases h2:SR ml δ' with
  |none=>rw[h2]at c;cases c
  |some t=>
   rw[h2]at c;cases c;exact λf H' p l=>s δ' .non f H' p h2 l .non
 |bk δ'=>cases c
 |ct δ'=>cases c
def Fun.okV{P:Bh}{w:Sm}{mg:Si->Option Se}{base:Sq}{x a:Si}{st:Su}{f:Sf}{fd:Ey}{N ps:List Si}{k:Nat}(F:Fun K x a st f fd)(S:XD N ps (bJ st))(c:ps.length<=N.length)(i:∀(b:Se) (A:Dh) (outer:List Env) (s:Ah) (H:Hp) (E:XK),X5 k (A.deeper (Iu a (bJ st) s.heap.objs.size f b))->NH (KA CX0 P w K mg base N a (bJ st) f b A outer s H E).nox (ZR st) (TJ K ml g)):S9 P w K mg base CX0 (k+1) f fd ps (spV K ml ps.length (aT N.length ml g)):=by refine F.ok S (λvs H Q E h=>?_) (λb A outer s H vs Q E d h=>⟨_,i b A outer s H E d,Vx c h⟩);obtain⟨Z,ds,r,os,e,AV,_⟩:=h;rw[AV.len,e]
noncomputable def K3:List (Option Nat)->List cM->Nat->Option (List cM)
 |some k::_,ds,0=>b0 (ds.take k)
 |none::sh,_::ds,j+1=>K3 sh ds j
 |some k::sh,ds,j+1=>K3 sh (ds.drop k) j
 |_,_,_=>b3
theorem PX.getL{sub:Sf->Option (List V)}{N:Sf->Prop}:∀{xs vs:List V}{sh:List (Option Nat)}{ds es:List cM}{j:Nat},PX sub xs sh vs->bT K N H vs ds->K3 sh ds j=b0 es->∃p zs,xs[j]?=b0 (.ref p)/\sub p=b0 zs/\bT K N H zs es
 |_,_,_,_,_,_,.nil,_,h=>by simp[K3]at h
 |_,_,_,_,_,0,.val _ _,_,h=>by simp[K3]at h
 |_,_,_,_,_,j+1,.val _ t,.cons _ r,h=>by obtain⟨p,zs,d,c,b⟩:=PX.getL (j:=j) t r (by simpa[K3]using h);exact⟨p,zs,by simpa using d,c,b⟩
 |_,_,_,ds,_,0,.lst (p:=p) (zs:=zs) hs _ _,r,h=>by
  simp only[K3,Ki]at h;subst h;have:=r.take zs.length
  rw[Im]at this;exact⟨p,zs,rfl,hs,this⟩
 |_,_,_,ds,_,j+1,.lst (zs:=zs) _ _ t,r,h=>by
  have:=r.drop zs.length
  rw[Io]at this;obtain⟨p,a,d,c,b⟩:=PX.getL (j:=j) t this (by simpa[K3]using h);exact⟨p,a,by simpa using d,c,b⟩
def part(δ:Ev)(j k:Nat):Option cM:=match δ[j]? with
 |some (.ow (.nst sh ds))=>(K3 sh ds k).map cM.lst
 |_=>b3
def UM{j k:Nat}(h:part δ j k=b0 d):∃sh ds es,δ[j]?=b0 (.ow (.nst sh ds))/\K3 sh ds k=b0 es/\d=.lst es:=by
 unfold part at h;split at h
 ·rename_i sh ds e
  obtain⟨es,h1,h2⟩:=Am.mp h;exact⟨sh,ds,es,e,h1,h2.symm⟩
 ·cases h
inductive AV where
 |d (d:cM)|o (j:Nat)|p (j k:Nat)
inductive XC(K:Ao)(N:Sf->Prop)(H:Hp)(σ:St):List V->List AV->Prop
 |nil:XC K N H σ [] []
 |d {v:V}{vs:List V}{d:cM}{as:List AV}:aU K N H N v d->XC K N H σ vs as->XC K N H σ (v::vs) (.d d::as)
 |o {v:V}{vs:List V}{j:Nat}{as:List AV}:σ[j]?=b0 (b0 v)->XC K N H σ vs as->XC K N H σ (v::vs) (.o j::as)
 |p {v:V}{vs us:List V}{j k:Nat}{x:Sf}{sub:Sf->Option (List V)}{as:List AV}:σ[j]?=b0 (b0 (.ref x))->H x=b0 (.nst us sub)->us[k]?=b0 v->XC K N H σ vs as->XC K N H σ (v::vs) (.p j k::as)
abbrev TD:=Ev->Option (List AV×Ev)
structure ResG(K:Ao)(ml:List Nat)(B:Bs)(O:Nat->Option Sf)(H:Hp)(σ:St)(pu:Bool)(H':Hp)(δ':Ev)(vs:List V)(as:List AV):Prop where
 sta:Z0 K ml B O H' σ δ'
 frm:Fr (OA O) H H'
 pur:pu=b5->aD H H'
 rep:XC K (Nn B O) H' σ vs as
inductive TAGi(K:Ao)(ml:List Nat)(pu:Bool)(f:TD)(σ:St)(H:Hp)(Q:List V->Hp->Prop):Prop
 |mk (B:_) (O:_) (δ:_) (as:_) (δ':_) (h0:Z0 K ml B O H σ δ) (h1:f δ=b0 (as,δ')) (h2:∀vs H',ResG K ml B O H σ pu H' δ' vs as->Q vs H'):TAGi K ml pu f σ H Q
def TAG(K:Ao)(ml:List Nat)(pu:Bool)(f:TD):TA:=λσ H Q=>TAGi K ml pu f σ H Q
def bR:TD:=λδ=>b0 ([],δ)
noncomputable def aE(f:VF)(fs:TD):TD:=λδ=>(f δ).bind λp=>(fs p.2).map λq=>(.d p.1::q.1,q.2)
noncomputable def slot(δ:Ev)(j:Nat):Option cM:=match δ[j]? with
 |some (.va d)=>b0 d
 |some (.ow d)=>b0 d
 |_=>b3
def aO(j:Nat)(fs:TD):TD:=λδ=>(slot δ j).bind λ_=>(fs δ).map λq=>(.o j::q.1,q.2)
def cE:PA X [] (TAG K ml b5 bR):=ZU.imp λσ H Q a=>by obtain⟨B,O,δ,d,δ',S,q,k⟩:=a;cases q;exact k [] H ⟨S,Fr.refl _ _,λ_=>aD.refl _,.nil⟩
def cF{fs:TD}(i:PE X a (TV K ml pa b5 b5 fa))(h:PA X es (TAG K ml ps fs))(g:SE X a es:=by rfl):PA X (a::es) (TAG K ml (pa&&ps) (aE fa fs)):=(bL i h g).imp λσ H Q c=>by obtain⟨B,O,δ,as,δ2,S,q,k⟩:=c;unfold aE at q;obtain⟨⟨x,δ1⟩,h1,q⟩:=Aa.mp q;have q:((fs δ1).map λq=>(AV.d x::q.1,q.2))=b0 (as,δ2):=q;obtain⟨p2,h2,q⟩:=Am.mp q;cases q;refine⟨B,O,δ,x,δ1,S,h1,λj H1 b=>⟨B,O,δ1,_,_,b.sta,h2,λvs H2 R2=>k _ H2 ⟨R2.sta,b.frm.trans R2.frm,λz=>?_,.d (b.rep.fr R2.frm (λa z=>.inr z) λa z=>.inr z) R2.rep⟩⟩⟩;obtain⟨f,e⟩:=(Ag _ _).mp z;exact(b.pur f).trans (R2.pur e)
def JR{j:Nat}{d:cM}(h:slot δ j=b0 d):δ[j]?=b0 (.va d)∨δ[j]?=b0 (.ow d):=by
 unfold slot at h;split at h
 ·cases h;exact .inl (by assumption)
 ·cases h;exact .inr (by assumption)
 ·cases h
def Z0.slot(S:Z0 K ml B O H σ δ){j:Nat}{d:cM}(h:slot δ j=b0 d):∃v,σ[j]?=b0 (b0 v):=by
 rcases JR h with h|h
 ·obtain⟨v,e,_⟩:=S.va j d h
  exact⟨v,e⟩
 ·obtain⟨a,_,e,_⟩:=S.ow j d h
  exact⟨_,e⟩
def bE{fs:TD}{j:Nat}(g:PE X a (WF j))(f:PA X es (TAG K ml ps fs))(c:SE X a es:=by rfl):PA X (a::es) (TAG K ml ps (aO j fs)):=(bL g f c).imp λσ H Q b=>by obtain⟨B,O,δ,as,δ2,S,q,k⟩:=b;unfold aO at q;obtain⟨d,h1,q⟩:=Aa.mp q;have q:((fs δ).map λq=>(AV.o j::q.1,q.2))=b0 (as,δ2):=q;obtain⟨p2,h2,q⟩:=Am.mp q;cases q;obtain⟨v,e⟩:=S.slot h1;exact⟨v,e,B,O,δ,_,_,S,h2,λvs H2 R2=>k _ H2 ⟨R2.sta,R2.frm,R2.pur,.o e R2.rep⟩⟩
theorem XC.length:∀{N:Sf->Prop}{vs:List V}{as:List AV},XC K N H σ vs as->vs.length=as.length
 |_,_,_,.nil=>rfl
 |_,_,_,.d _ t=>congrArg (· +1) (XC.length t)
 |_,_,_,.o _ t=>congrArg (· +1) (XC.length t)
 |_,_,_,.p _ _ _ t=>congrArg (· +1) (XC.length t)
theorem XC.getD:∀{N:Sf->Prop}{vs:List V}{as:List AV}{i:Nat}{d:cM},XC K N H σ vs as->as[i]?=b0 (.d d)->∃v,vs[i]?=b0 v/\aU K N H N v d
 |_,_,_,_,_,.nil,e=>by simp at e
 |_,_,_,0,_,.d h _,e=>by simp at e;subst e;exact⟨_,rfl,h⟩
 |_,_,_,0,_,.o h _,e=>by simp at e
 |_,_,_,0,_,.p _ _ _ _,e=>by simp at e
 |_,_,_,i+1,_,.p _ _ _ t,e=>by obtain⟨u,h1,h2⟩:=XC.getD (i:=i) t (by simpa using e);exact⟨u,by simpa using h1,h2⟩
 |_,_,_,i+1,_,.d _ t,e=>by obtain⟨u,h1,h2⟩:=XC.getD (i:=i) t (by simpa using e);exact⟨u,by simpa using h1,h2⟩
 |_,_,_,i+1,_,.o _ t,e=>by obtain⟨u,h1,h2⟩:=XC.getD (i:=i) t (by simpa using e);exact⟨u,by simpa using h1,h2⟩
theorem XC.getP:∀{N:Sf->Prop}{vs:List V}{as:List AV}{i j k:Nat},XC K N H σ vs as->as[i]?=b0 (.p j k)->∃v x us sub,vs[i]?=b0 v/\σ[j]?=b0 (b0 (.ref x))/\H x=b0 (.nst us sub)/\us[k]?=b0 v
 |_,_,_,_,_,_,.nil,e=>by simp at e
 |_,_,_,0,_,_,.d h _,e=>by simp at e
 |_,_,_,0,_,_,.o h _,e=>by simp at e
 |_,_,_,0,_,_,.p h1 h2 a _,e=>by simp at e;obtain⟨rfl,rfl⟩:=e;exact⟨_,_,_,_,rfl,h1,h2,a⟩
 |_,_,_,i+1,_,_,.d _ t,e=>by obtain⟨v,x,us,sub,h⟩:=XC.getP (i:=i) t (by simpa using e);exact⟨v,x,us,sub,by simpa using h⟩
 |_,_,_,i+1,_,_,.o _ t,e=>by obtain⟨v,x,us,sub,h⟩:=XC.getP (i:=i) t (by simpa using e);exact⟨v,x,us,sub,by simpa using h⟩
 |_,_,_,i+1,_,_,.p _ _ _ t,e=>by obtain⟨v,x,us,sub,h⟩:=XC.getP (i:=i) t (by simpa using e);exact⟨v,x,us,sub,by simpa using h⟩
theorem XC.getO:∀{N:Sf->Prop}{vs:List V}{as:List AV}{i j:Nat},XC K N H σ vs as->as[i]?=b0 (.o j)->∃v,vs[i]?=b0 v/\σ[j]?=b0 (b0 v)
 |_,_,_,_,_,.nil,e=>by simp at e
 |_,_,_,0,_,.d h _,e=>by simp at e
 |_,_,_,0,_,.o h _,e=>by simp at e;subst e;exact⟨_,rfl,h⟩
 |_,_,_,0,_,.p _ _ _ _,e=>by simp at e
 |_,_,_,i+1,_,.p _ _ _ t,e=>by obtain⟨u,h1,h2⟩:=XC.getO (i:=i) t (by simpa using e);exact⟨u,by simpa using h1,h2⟩
 |_,_,_,i+1,_,.d _ t,e=>by obtain⟨u,h1,h2⟩:=XC.getO (i:=i) t (by simpa using e);exact⟨u,by simpa using h1,h2⟩
 |_,_,_,i+1,_,.o _ t,e=>by obtain⟨u,h1,h2⟩:=XC.getO (i:=i) t (by simpa using e);exact⟨u,by simpa using h1,h2⟩
def argD(δ:Ev):AV->Option cM
 |.d d=>b0 d
 |.o j=>slot δ j
 |.p j k=>part δ j k
def WJ(δ:Ev):List AV->Option (List cM)
 |[]=>b0 []
 |a::as=>(argD δ a).bind λd=>(WJ δ as).map λds=>d::ds
theorem ID:∀{as:List AV}{ds:List cM},WJ δ as=b0 ds->as.length=ds.length/\∀(i:Nat) (d:cM),ds[i]?=b0 d->∃a,as[i]?=b0 a/\argD δ a=b0 d
 |[],ds,h=>by cases h;exact⟨rfl,λi d e=>by simp at e⟩
 | a :: as,ds,h => by
  unfold WJ at h;obtain⟨d,h1,h⟩:=Aa.mp h;cases h2:WJ δ as with
  |none=>simp[h2]at h
  |some k=>
   simp only[Ai,h2]at h;cases h;obtain⟨l,g⟩:=ID h2;refine⟨by simp[l],λi e c=>?_⟩;cases i with
   |zero=>cases c;exact⟨a,rfl,h1⟩
   |succ i=>
    obtain⟨b,j,f⟩:=g i e (by simpa using c);exact⟨b,by simpa using j,f⟩
noncomputable def VO:List AV->List Nat
 |[]=>[]
 |.d _::as=>VO as
 |.o j::as=>j::VO as
 |.p j _::as=>j::VO as
theorem SG:∀{as:List AV}{i j:Nat},as[i]?=b0 (.o j)->j∈VO as
 |[],_,_,e=>by simp at e
 |.d _::as,0,j,e=>by simp at e
 |.o k::as,0,j,e=>by simp at e;subst e;exact Aw
 |.d _::as,i+1,j,e=>SG (as:=as) (i:=i) (by simpa using e)
 |.o k::as,i+1,j,e=>Ap _ (SG (as:=as) (i:=i) (by simpa using e))
 |.p _ _::as,0,j,e=>by simp at e
 |.p _ _::as,i+1,j,e=>Ap _ (SG (as:=as) (i:=i) (by simpa using e))
theorem OR:∀{as:List AV}{i j k:Nat},as[i]?=b0 (.p j k)->j∈VO as
 |[],_,_,_,e=>by simp at e
 |.d _::as,0,j,_,e=>by simp at e
 |.o _::as,0,j,_,e=>by simp at e
 |.p a b::as,0,j,_,e=>by simp at e;rw[e.1];exact Aw
 |.d _::as,i+1,j,_,e=>OR (as:=as) (i:=i) (by simpa using e)
 |.o k::as,i+1,j,_,e=>Ap _ (OR (as:=as) (i:=i) (by simpa using e))
 |.p _ _::as,i+1,j,_,e=>Ap _ (OR (as:=as) (i:=i) (by simpa using e))
theorem ES:∀{as:List AV}{j:Nat},j∈VO as->(∃i:Nat,as[i]?=b0 (AV.o j))∨∃i k:Nat,as[i]?=b0 (AV.p j k)
 |[],_,h=>nomatch h
 |.d _::as,j,h=>by
  rcases ES (as:=as) h with⟨i,e⟩|⟨i,k,e⟩
  ·exact .inl ⟨i+1,by simpa using e⟩
  ·exact .inr ⟨i+1,k,by simpa using e⟩
 | .o k :: as,j,h => by
  rcases Aj.mp h with e|e
  ·exact .inl ⟨0,by rw[e];rfl⟩
  ·rcases ES (as:=as) e with⟨i,e⟩|⟨i,k,e⟩
   ·exact .inl ⟨i+1,by simpa using e⟩
   ·exact .inr ⟨i+1,k,by simpa using e⟩
 | .p k b :: as,j,h => by
  rcases Aj.mp h with e|e
  ·exact .inr ⟨0,b,by rw[e];rfl⟩
  ·rcases ES (as:=as) e with⟨i,e⟩|⟨i,k,e⟩
   ·exact .inl ⟨i+1,by simpa using e⟩
   ·exact .inr ⟨i+1,k,by simpa using e⟩
theorem K5:∀{as:List AV}{i k j:Nat},(VO as).Nodup->as[i]?=b0 (.o j)->as[k]?=b0 (.o j)->i=k
 |[],_,_,_,_,e,_=>by simp at e
 |.d _::as,0,_,j,_,e,_=>by simp at e
 |.d _::as,_+1,0,j,_,_,e=>by simp at e
 |.d _::as,i+1,k+1,j,n,b,a=>congrArg (· +1) (K5 (as:=as) n (by simpa using b) (by simpa using a))
 |.p _ _::as,0,_,j,_,e,_=>by simp at e
 |.p _ _::as,_+1,0,j,_,_,e=>by simp at e
 |.p _ _::as,i+1,k+1,j,n,b,a=>congrArg (· +1) (K5 (as:=as) (Cd.mp n).2 (by simpa using b) (by simpa using a))
 |.o x::as,0,0,j,_,_,_=>rfl
 |.o x::as,0,k+1,j,n,b,a=>by
  simp at b;subst b;have h:as[k]?=b0 (.o x):=by simpa using a
  exact absurd (SG h) (Cd.mp n).1
 |.o x::as,i+1,0,j,n,b,a=>by
  simp at a;subst a;have h:as[i]?=b0 (.o x):=by simpa using b
  exact absurd (SG h) (Cd.mp n).1
 |.o x::as,i+1,k+1,j,n,b,a=>congrArg (· +1) (K5 (as:=as) (Cd.mp n).2 (by simpa using b) (by simpa using a))
theorem MK:∀{as:List AV}{i k j b:Nat},(VO as).Nodup->as[i]?=b0 (.o j)->as[k]?=b0 (.p j b)->False
 |[],_,_,_,_,_,e,_=>by simp at e
 |.d _::as,0,_,_,_,_,e,_=>by simp at e
 |.d _::as,_+1,0,_,_,_,_,e=>by simp at e
 |.d _::as,i+1,k+1,j,b,n,c,a=>MK (as:=as) (i:=i) (k:=k) n (by simpa using c) (by simpa using a)
 |.o x::as,0,0,_,_,_,_,e=>by simp at e
 |.o x::as,0,k+1,j,b,n,c,a=>by
  simp at c;subst c;have h:as[k]?=b0 (.p x b):=by simpa using a
  exact absurd (OR h) (Cd.mp n).1
 |.o x::as,_+1,0,_,_,_,_,e=>by simp at e
 |.o x::as,i+1,k+1,j,b,n,c,a=>MK (as:=as) (i:=i) (k:=k) (Cd.mp n).2 (by simpa using c) (by simpa using a)
 |.p x y::as,0,_,_,_,_,e,_=>by simp at e
 |.p x y::as,i+1,0,j,b,n,c,a=>by
  simp at a;obtain⟨rfl,_⟩:=a;have h:as[i]?=b0 (.o x):=by simpa using c
  exact absurd (SG h) (Cd.mp n).1
 |.p x y::as,i+1,k+1,j,b,n,c,a=>MK (as:=as) (i:=i) (k:=k) (Cd.mp n).2 (by simpa using c) (by simpa using a)
noncomputable def AW(δ:Ev)(as:List AV)(i:Nat):Bool:=match as[i]? with
 |some (.o j)=>match δ[j]? with
  |some (.ow _)=>b5
  |_=>ba
 |_=>ba
noncomputable def XF(mF:List Nat):List AV->Nat->Bool
 |[],_=>b5
 |.d _::as,i=>XF mF as (i+1)
 |.o _::as,i=>decide (i∈mF)&&XF mF as (i+1)
 |.p _ _::_,_=>ba
theorem Q4{mF:List Nat}:∀{as:List AV}{k i j b:Nat},XF mF as k=b5->as[i]? ≠b0 (.p j b)
 |[],_,_,_,_,_=>by simp
 |.d _::as,k,0,j,_,_=>by simp
 |.o _::as,k,0,j,_,_=>by simp
 |.p _ _::_,_,_,_,_,h=>by simp[XF]at h
 |.d _::as,k,i+1,j,_,h=>by
  have:=Q4 (as:=as) (k:=k+1) (i:=i) (j:=j) (b:=by assumption) h
  simpa using this
 |.o _::as,k,i+1,j,_,h=>by
  simp only[XF,Ag]at h;have:=Q4 (as:=as) (k:=k+1) (i:=i) (j:=j) (b:=by assumption) h.2
  simpa using this
theorem Q3{mF:List Nat}:∀{as:List AV}{k i j:Nat},XF mF as k=b5->as[i]?=b0 (.o j)->k+i∈mF
 |[],_,_,_,_,e=>by simp at e
 |.d _::as,k,0,j,h,e=>by simp at e
 |.p _ _::_,_,_,_,h,_=>by simp[XF]at h
 |.o _::as,k,0,j,h,e=>by simp only[XF,Ag,decide_eq_true_eq]at h;exact h.1
 |.d _::as,k,i+1,j,h,e=>by
  have:=Q3 (as:=as) (k:=k+1) (i:=i) (j:=j) h (by simpa using e)
  rwa[show k+(i+1)=k+1+i by lia]
 |.o _::as,k,i+1,j,h,e=>by
  simp only[XF,Ag]at h;have:=Q3 (as:=as) (k:=k+1) (i:=i) (j:=j) h.2 (by simpa using e)
  rwa[show k+(i+1)=k+1+i by lia]
def SI:cM->Bool
 |.lst ds=>TM ds
 |.dct _ ds=>TM ds
 |.nst _ ds=>TM ds
 |_=>ba
def QV.kids{N N':Sf->Prop}{a:Sf}(w:QV K N H a d)(h:SI d=b5):QV K N' H a d:=by
 cases w with
 |lst q r=>exact .lst q (r.hard h)
 |dct q r=>exact .dct q (r.hard h)
 |nst q r=>exact .nst q (r.hard h)
noncomputable def VE(as:List AV):List Nat->List cM->Ev->Ev
 |i::is,o::os,δ=>match as[i]? with
  |some (.o j)=>VE as is os (δ.set j (.ow o))
  |_=>VE as is os δ
 |_,_,δ=>δ
theorem PB{as:List AV}:∀{is:List Nat}{os:List cM}{δ:Ev},(VE as is os δ).length=δ.length
 |[],_,_=>rfl
 |_::_,[],_=>rfl
 |i::is,o::os,δ=>by
  unfold VE;split
  ·rw[PB,Cf]
  ·rw[PB]
theorem LM{as:List AV}:∀{is:List Nat}{os:List cM}{δ:Ev}(j:Nat),is.length=os.length->j<δ.length->(∃(k i:Nat) (o:cM),is[k]?=b0 i/\os[k]?=b0 o/\as[i]?=b0 (AV.o j)/\(VE as is os δ)[j]?=b0 (Sl.ow o))∨((∀i∈is,as[i]? ≠b0 (AV.o j))/\(VE as is os δ)[j]?=δ[j]?)
 |[],[],δ,j,_,_=>.inr ⟨(λi h=>nomatch h),rfl⟩
 | i :: is,o :: os,δ,j,hl,d => by
  unfold VE;split
  ·rename_i g l
   rcases LM (is:=is) (os:=os) (δ:=δ.set g (.ow o)) j (by simpa using hl) (by rw[Cf];exact d)with⟨k,a,o',h1,h2,f,e⟩|⟨h1,h2⟩
   ·exact .inl ⟨k+1,a,o',by simpa using h1,by simpa using h2,f,e⟩
   ·by_cases b:j=g
    ·subst b
     rw[Dg d]at h2;exact .inl ⟨0,i,o,rfl,rfl,l,h2⟩
    ·rw[Ca (Dj b)]at h2
     refine .inr ⟨λa c=>?_,h2⟩;rcases Aj.mp c with z|z
     ·rw[z,l]
      intro w;cases w;exact b rfl
     ·exact h1 a z
  ·rename_i m
   rcases LM (is:=is) (os:=os) (δ:=δ) j (by simpa using hl) d with⟨k,a,o',h1,h2,f,e⟩|⟨h1,h2⟩
   ·exact .inl ⟨k+1,a,o',by simpa using h1,by simpa using h2,f,e⟩
   ·refine .inr ⟨λa c => ?_,h2⟩
    rcases Aj.mp c with z|z
    ·rw[z]
     exact λw=>m j w
    ·exact h1 a z
def T1(mF:List Nat)(as:List AV)(δ:Ev):Bool:=mF.all (AW δ as)&&decide (VO as).Nodup
def UW(mF:List Nat)(as:List AV)(r:cM)(os:List cM):Bool:=(XF mF as 0 || r.hard)&&(XF mF as 0 || os.all SI)&&decide (mF.length=os.length)
def cA(n:Nat)(mF:List Nat)(F:bW)(fs:TD):VF:=λδ=>(fs δ).bind λp=>(WJ p.2 p.1).bind λds=>if ds.length=n/\T1 mF p.1 p.2=b5 then(F ds).bind λq=>if UW mF p.1 q.1 q.2=b5 then b0 (q.1,VE p.1 mF q.2 p.2)else b3 else b3
def RQ{n:Nat}{mF:List Nat}{F:bW}{fs:TD}{Q:VK}(h:TV K ml (ps && mF.isEmpty) b5 b5 (cA n mF F fs) σ H Q):To (spV K mF n F) [] E0 (TAG K ml ps fs) σ H Q:=by
 obtain⟨B,O,δ,d,δ2,S,q,k⟩:=h;unfold cA at q;obtain⟨⟨as,δ1⟩,h1,q⟩:=Aa.mp q;have q:((WJ δ1 as).bind λds=>if ds.length=n/\T1 mF as δ1=b5 then(F ds).bind λq=>if UW mF as q.1 q.2=b5 then b0 (q.1,VE as mF q.2 δ1)else b3 else b3)=b0 (d,δ2):=q;obtain⟨ds,h2,q⟩:=Aa.mp q;have q:(if ds.length=n/\T1 mF as δ1=b5 then(F ds).bind λq=>if UW mF as q.1 q.2=b5 then b0 (q.1,VE as mF q.2 δ1)else b3 else b3)=b0 (d,δ2):=q;split at q
 ·rename_i hc
  obtain⟨⟨r,os⟩,h3,q⟩:=Aa.mp q;have q:(if UW mF as r os=b5 then b0 (r,VE as mF os δ1)else b3)=b0 (d,δ2):=q;split at q
  ·rename_i V
   cases q;obtain⟨hn,hc⟩:=hc;simp only[T1,Ag,decide_eq_true_eq,Ir]at hc;simp only[UW,Ag,decide_eq_true_eq]at V;obtain⟨hmu,T⟩:=hc;obtain⟨⟨i6,io⟩,ah⟩:=V;refine⟨B,O,δ,as,δ1,S,h1,λvs H1 R=>?_⟩;show spV K mF n F (vs++[]) H1 Q E0;rw[Cz];obtain⟨W,X⟩:=ID h2;have N:∀i∈mF,∃j a x,as[i]?=b0 (.o j)/\δ1[j]?=b0 (.ow x)/\O j=b0 a/\vs[i]?=b0 (.ref a)/\QV K (Nn B O) H1 a x:=λi hi=>by
    have:=hmu i hi
    unfold AW at this;split at this
    ·rename_i j ej
     split at this
     ·rename_i x ex
      obtain⟨a,c,m,w⟩:=R.sta.ow j x ex;obtain⟨v,l,C⟩:=R.rep.getO ej;rw[m]at C;cases C;exact⟨j,a,x,ej,ex,c,l,w⟩
     ·cases this
    ·cases this
   have hP:∀a,VA mF vs a->∃i j,i∈mF/\as[i]?=b0 (.o j)/\O j=b0 a:=λa q0=>by obtain⟨i,hi,e⟩:=q0;obtain⟨j,a',x,c,_,m,l,_⟩:=N i hi;rw[e]at l;cases l;exact⟨i,j,hi,c,m⟩
   have U:∀a,VA mF vs a->OA O a:=λa h=>by obtain⟨i,j,_,_,e⟩:=hP a h;exact⟨j,e⟩
   have A:∀a,Zp (λa=>Nn B O a/\∀j∈VO as,O j≠b0 a) mF vs a->Nn B O a:=λa h=>by
    rcases h with h|h
    ·exact h.1
    ·exact .inr (U a h)
   refine⟨λa=>Nn B O a/\∀j∈VO as,O j≠b0 a,ds,_,os,hn,⟨by rw[<-W,R.rep.length],λi hi=>?_,λi x hi e=>?_,λi x hi e=>?_,λi j a hi Z c m=>?_,λa h=>R.sta.nin h.1⟩,h3,λv H2 f2 w2 r2=>?_⟩
   ·obtain⟨j,a,x,c,_⟩:=N i hi
    rw[<-W];exact(Af.mp c).1
   ·obtain⟨a,c,m⟩:=X i x e
    cases a with
    |d y=>
     cases m;obtain⟨v,l,r⟩:=R.rep.getD c;exact⟨v,l,r.mono A A⟩
    |o j=>
     obtain⟨v,l,C⟩:=R.rep.getO c;refine⟨v,l,?_⟩;rcases JR m with D|D
     ·obtain⟨v',E,r⟩:=R.sta.va j x D
      rw[C]at E;cases E;exact r.mono A A
     ·obtain⟨a,M,E,w⟩:=R.sta.ow j x D
      rw[C]at E;cases E;refine(w.mono A).rep λz=>?_;rcases z with z|z
      ·exact z.2 j (SG c) M
      ·obtain⟨P,g,f,L,J⟩:=hP a z
       have:j=g:=R.sta.inj j g a M J
       subst this;have:=K5 T c L
       subst this;exact hi f
    |p j b=>
     obtain⟨v,y,us,sub,l,C,D,E⟩:=R.rep.getP c;obtain⟨sh,ds1,es,M,L,rfl⟩:=UM m;obtain⟨y',J,t,w⟩:=R.sta.ow j _ M;rw[C]at t;cases t;cases w with
     |nst q r=>
      obtain⟨us',cf,s,ow,sp⟩:=q;rw[D]at s;cases s;obtain⟨p,zs,G,Y,rz⟩:=sp.getL r L;rw[E]at G;cases G;refine⟨_,l,.fzm (xs:=zs) (.inr ⟨y,us,sub,ow p zs Y,D,λz=>?_,Y⟩) (rz.mono A)⟩;rcases z with z|z
      ·exact z.2 j (OR c) J
      ·obtain⟨P,g,f,e14,e15⟩:=hP y z
       have:j=g:=R.sta.inj j g y J e15
       subst this;exact MK T e14 c
   ·obtain⟨a,c,m⟩:=X i x e
    obtain⟨j,b,y,l,C,D,E,w⟩:=N i hi;rw[l]at c;cases c;have M:slot δ1 j=b0 y:=by unfold slot;rw[C]
    have m:slot δ1 j=b0 x:=m;rw[M]at m;cases m;exact⟨b,E,w.mono A,λz=>z.2 j (SG l) D⟩
   ·obtain⟨j1,b1,_,l,_,C,D,_⟩:=N i hi
    obtain⟨j2,b2,_,E,_,M,L,_⟩:=N j Z;rw[c]at D;cases D;rw[m]at L;cases L;have:j1=j2:=R.sta.inj j1 j2 a C M
    subst this;exact K5 T l E
   ·have S2:Z0 K ml B O H2 σ (VE as mF os δ1):=by
     refine R.sta.call PB (λj=>?_) f2 U;by_cases Z:j<δ1.length
     ·rcases LM (as:=as) (is:=mF) (os:=os) (δ:=δ1) j ah Z with⟨kk,i,o,c,m,l,C⟩|⟨c,m⟩
      ·obtain⟨g,a,x,D,_,E,M,_⟩:=N i (Cn c)
       rw[l]at D;cases D;have w:=w2 kk i a o c M m;refine .inr ⟨a,o,E,C,?_⟩;rcases(Hn _ _).mp io with z|z
       ·refine w.mono λb V => ?_
        by_cases I:∃g∈VO as,O g=b0 b
        ·obtain⟨g,u,L⟩:=I
         obtain⟨P,J⟩:=(ES u).resolve_right λ⟨_,_,e⟩=>Q4 z e;have f:=Q3 z J;rw[Jx]at f;obtain⟨j'',a'',_,t,_,s,G,_⟩:=N P f;rw[J]at t;cases t;rw[L]at s;cases s;exact .inr ⟨P,f,G⟩
        ·exact .inl ⟨V,λg u e=>I ⟨g,u,e⟩⟩
       ·exact w.kids (Ir.mp z o (Cn m))
      ·refine .inl ⟨m,λa ea hPa => ?_⟩
       obtain⟨i,g,hi,l,C⟩:=hP a hPa;have:j=g:=R.sta.inj j g a ea C
       subst this;exact c i hi l
     ·refine .inl ⟨?_,λa ea => ?_⟩
      ·rw[Ec (by rw[PB];lia),Ec (by lia)]
      ·obtain⟨x,ex⟩:=R.sta.dom j a ea
       exact absurd (Af.mp ex).1 Z
    refine k v H2 ⟨S2,R.frm.trans (f2.mono U),λz=>?_,?_⟩
    ·obtain⟨z1,z2⟩:=(Ag _ _).mp z
     refine(R.pur z1).trans λb o e=>f2 b o e λw=>?_;obtain⟨i,hi,_⟩:=w;rw[Pf.mp z2]at hi;cases hi
    ·rcases(Hn _ _).mp i6 with z|z
     ·have hN : ∀ a,Nn B O a -> Zp (λa => Nn B O a /\ ∀ j ∈ VO as,O j ≠ b0 a) mF vs a := λb V => by
       by_cases I:∃g∈VO as,O g=b0 b
       ·obtain⟨g,u,L⟩:=I
        obtain⟨P,J⟩:=(ES u).resolve_right λ⟨_,_,e⟩=>Q4 z e;have f:=Q3 z J;rw[Jx]at f;obtain⟨j'',a'',_,t,_,s,G,_⟩:=N P f;rw[J]at t;cases t;rw[L]at s;cases s;exact .inr ⟨P,f,G⟩
       ·exact .inl ⟨V,λg u e=>I ⟨g,u,e⟩⟩
      exact r2.mono hN hN
     ·exact r2.hard z
  ·cases q
 ·cases q
def fM{x:Si}{c j n:Nat}{qs:List Si}{mF:List Nat}{F:bW}{l:Sf}{p':Pos}{fs:TD}(k:X.K=K)(D:Def X.prog X.w K X.mg X.base x c qs (spV K mF n F) l)(d:X5 j X.A)(hk:c<=j)(f:Gl X x)(i:PA X (e::es) (TAG K ml ps fs))(b:ND x:=by decide)(g:SE X e es:=by rfl)(a:(Ex pos (Bb es X.env)).any (·.1)=ba:=by rfl):PE X (.Call (.Name x p') (e::es) [] pos) (TV K ml (ps&&mF.isEmpty) b5 b5 (cA n mF F fs)):=by subst k;exact(O0 D d hk f i b g a).imp λ_ _ _ h=>RQ h
end
section
variable{X:Cx}{K:Ao}{ml:List Nat}{e a b c:Sj}{es:List Sj}{pi pt pe pu bt bi ps bs:Bool}{f:VF}{B B':Bs}{O:Nat->Option Sf}{H H0 H1 H':Hp}{σ:St}{δ δ':Ev}{v:V}{d:cM}{p:Sf}{pos:Pos}{ix:List Nat}{nl:Nat}
def Z7(ix:List Nat)(δ:Ev):Ev:=ix.map λi=>(δ[i]?).getD .no
def GD(nl:Nat):Ev:=Ak nl Sl.no
noncomputable def ZK(n nl:Nat)(gg:VG)(tb:VB)(fe:VF):List cM->List cM->Ev->Option (List cM×Ev)
 |[],acc,δ=>b0 (acc,δ)
 |d::r,acc,δ=>(gg d (δ++GD nl)).bind λδ1=>(tb δ1).bind λp=>if p.1=b5 then(fe p.2).bind λq=>if acc.length<16777216 then ZK n nl gg tb fe r (acc++[q.1]) (q.2.take n)else b3 else ZK n nl gg tb fe r acc (p.2.take n)
noncomputable def XG:List Nat->Ev->Ev->Ev
 |i::is,s::ss,δ=>match s with
  |.ow d=>XG is ss (δ.set i (.ow d))
  |_=>XG is ss δ
 |_,_,δ=>δ
def ZG(ix:List Nat)(nl:Nat)(a:VI)(gg:VG)(tb:VB)(fe:VF):VF:=λδ=>(a δ).bind λp=>(ZK ix.length nl gg tb fe p.1 [] (Z7 ix p.2)).map λq=>(.lst q.1,XG ix q.2 p.2)
def V6:VB:=λδ=>b0 (b5,δ)
theorem NI:∀{ix:List Nat}{ss δ:Ev},(XG ix ss δ).length=δ.length
 |[],_,_=>rfl
 |_::_,[],_=>rfl
 |i::is,s::ss,δ=>by
  cases s<;>simp only[XG]<;>rw[NI]<;>try rw[Cf]
theorem Q5:∀{ix:List Nat}{ss δ:Ev}(i:Nat),i<δ.length->ix.length=ss.length->(∃(j:Nat) (d:cM),ix[j]?=b0 i/\ss[j]?=b0 (Sl.ow d)/\(XG ix ss δ)[i]?=b0 (Sl.ow d))∨((∀(j:Nat) (d:cM),ix[j]?=b0 i->ss[j]? ≠b0 (Sl.ow d))/\(XG ix ss δ)[i]?=δ[i]?)
 |[],ss,δ,i,hi,hl=>.inr ⟨(λj d h=>by simp at h),rfl⟩
 |k::is,[],δ,i,hi,hl=>by cases hl
 | k :: is,s :: ss,δ,i,hi,hl => by
  have a:is.length=ss.length:=by simpa using hl
  cases s with
  |ow d=>
   simp only[XG];rcases Q5 (ix:=is) (ss:=ss) (δ:=δ.set k (.ow d)) i (by rw[Cf];exact hi) a with⟨j,d',h1,h2,b⟩|⟨h1,h2⟩
   ·exact .inl ⟨j+1,d',by simpa using h1,by simpa using h2,b⟩
   ·by_cases hk:i=k
    ·subst hk
     rw[Dg hi]at h2;exact .inl ⟨0,d,rfl,rfl,h2⟩
    ·rw[Ca (Dj hk)]at h2
     refine .inr ⟨λj d' e=>?_,h2⟩;cases j with
     |zero=>cases e;exact absurd rfl hk
     |succ j=>simpa using h1 j d' (by simpa using e)
  |va d=>
   simp only[XG];rcases Q5 (ix:=is) (ss:=ss) (δ:=δ) i hi a with⟨j,d',h1,h2,b⟩|⟨h1,h2⟩
   ·exact .inl ⟨j+1,d',by simpa using h1,by simpa using h2,b⟩
   ·refine .inr ⟨λj d' e => ?_,h2⟩
    cases j with
    |zero=>simp
    |succ j=>simpa using h1 j d' (by simpa using e)
  |no=>
   simp only[XG];rcases Q5 (ix:=is) (ss:=ss) (δ:=δ) i hi a with⟨j,d',h1,h2,b⟩|⟨h1,h2⟩
   ·exact .inl ⟨j+1,d',by simpa using h1,by simpa using h2,b⟩
   ·refine .inr ⟨λj d' e => ?_,h2⟩
    cases j with
    |zero=>simp
    |succ j=>simpa using h1 j d' (by simpa using e)
def Oc(ix:List Nat)(O:Nat->Option Sf):Nat->Option Sf:=λj=>(ix[j]?).bind O
def Bc(ix:List Nat)(B:Bs)(O:Nat->Option Sf)(H0:Hp)(D:Sf)(kp:List (V×cM)):Bs:=
 ⟨λa=>(B.Z a∨a=D)∨∃i,O i=b0 a/\i∉ix,OA (Oc ix O),H0,Oc ix O,kp⟩
def LA{D:Sf}{kp:List (V×cM)}:∀a,Nn (Bc ix B O H0 D kp) (Oc ix O) a->Nn B O a∨a=D:=λa h=>by
 rcases h with((h|h)|⟨i,h,_⟩)|⟨j,h⟩
 ·exact .inl (.inl h)
 ·exact .inr h
 ·exact .inl (.inr ⟨i,h⟩)
 ·unfold Oc at h
  cases q:ix[j]? with
  |none=>rw[q]at h;cases h
  |some i=>rw[q]at h;exact .inl (.inr ⟨i,h⟩)
def C2{D:Sf}{kp:List (V×cM)}:∀a,Nn (B.add D) O a->Nn (Bc ix B O H0 D kp) (Oc ix O) a:=λa h=>by
 rcases h with h|⟨i,h⟩
 ·exact .inl (.inl h)
 ·by_cases hi:i∈ix
  ·obtain⟨j,b⟩:=Ma.mp hi
   exact .inr ⟨j,by unfold Oc;rw[b];exact h⟩
  ·exact .inl (.inr ⟨i,h,hi⟩)
def Z0.withKp{kp:List (V×cM)}(S:Z0 K ml B O H σ δ)(h:∀p∈kp,aU K (Nn B O) H (Nn B O) p.1 p.2):Z0 K ml {B with kp:=kp} O H σ δ:=
 ⟨S.len,S.va,S.ow,S.dom,S.inj,S.old,S.zin,S.frm,S.par,S.pin,h⟩
def Z0.writeZ{D:Sf}{o:HO}{acc:List V}(S:Z0 K ml B O H σ δ)(k:B.Z D)(hl:H D=b0 (.lst acc))(m:B.H0 D=b3):Z0 K ml B O (aG H D o) σ δ:=by
 have j:Fr (λb=>b=D) H (aG H D o):=λb u q n=>by
  by_cases c:b=D
  ·subst c
   rw[hl]at q;cases q;exact absurd (n rfl) λz=>z
  ·rw[bC c]
   exact q
 have g:∀b,b=D->Nn B O b:=λb z=>.inl (z▸k);have f:∀b,(∃u,H b=b0 u)->∃u,aG H D o b=b0 u:=λb q0=>by
  obtain⟨u,q⟩:=q0;by_cases c:b=D
  ·exact⟨o,by rw[c];exact bU⟩
  ·exact⟨u,by rw[bC c];exact q⟩
 refine⟨S.len,λi d q=>?_,λi d q=>?_,S.dom,S.inj,S.old,λb h=>f b (S.zin b h),λb u q n=>?_,S.par,λb h=>f b (S.pin b h),λp l=>(S.kep p l).fr j g g⟩
 ·obtain⟨v,e,r⟩:=S.va i d q
  exact⟨v,e,r.fr j g g⟩
 ·obtain⟨a,e,s,w⟩:=S.ow i d q
  exact⟨a,e,s,w.fr j g λz=>(S.old i a e).1 (z▸k)⟩
 ·have c : b ≠ D := λz => by rw [z,m]at q;cases q
  rw[bC c];exact S.frm b u q n
def IL{j:Nat}{s:Sl}(h:(Z7 ix δ++GD nl)[j]?=b0 s):(∃i,ix[j]?=b0 i/\s=(δ[i]?).getD .no)∨s=.no:=by
 unfold Z7 GD at h;by_cases a:j<ix.length
 ·rw [Ae (by simpa using a),De]at h
  cases q:ix[j]? with
  |none=>rw[q]at h;cases h
  |some i=>rw[q]at h;cases h;exact .inl ⟨i,rfl,rfl⟩
 ·rw [At (by simpa using a),El]at h
  split at h
  ·cases h;exact .inr rfl
  ·cases h
def EB{i j:Nat}{v:V}(hi:ix[j]?=b0 i)(h:σ[i]?=b0 (b0 v)):(XR ix σ++Ak nl b3)[j]?=b0 (b0 v):=by have a:j<ix.length:=(Af.mp hi).1;unfold XR;rw[Ae (by simpa using a),De,hi];show b0 ((σ[i]?).join)=_;rw[h];rfl
def Z0.inner{D:Sf}(S:Z0 K ml B O H0 σ δ)(b:H0 D=b3)(u:ix.Nodup){m:List (V×cM)}(hk:∀p∈m,aU K (Nn B O) H0 (Nn B O) p.1 p.2):
  Z0 K (Bm ix.length) (Bc ix B O H0 D m) (Oc ix O) (aG H0 D (.lst [])) (XR ix σ++Ak nl b3) (Z7 ix δ++GD nl) where
 len:=by simp[XR,Z7,GD]
 va := λj d e => by
  rcases IL e with⟨i,hi,q⟩|q
  ·have q:δ[i]? =b0 (.va d):=by
    cases w:δ[i]? with
    |none=>rw[w]at q;cases q
    |some s=>rw[w]at q;rw[show s=.va d from q.symm]
   obtain⟨v,c,r⟩:=S.va i d q;exact⟨v,EB hi c,(r.away b _ _ LA LA).same (cD b)⟩
  ·cases q
 ow := λj d e => by
  rcases IL e with⟨i,hi,q⟩|q
  ·have q:δ[i]? =b0 (.ow d):=by
    cases w:δ[i]? with
    |none=>rw[w]at q;cases q
    |some s=>rw[w]at q;rw[show s=.ow d from q.symm]
   obtain⟨a,c,f,w⟩:=S.ow i d q;refine⟨a,by unfold Oc;rw[hi];exact c,EB hi f,?_⟩;cases w with
   |lst l r=>exact .lst (cD b _ _ l) ((r.away b _ _ LA).same (cD b))
   |dct l r=>exact .dct (cD b _ _ l) ((r.away b _ _ LA).same (cD b))
   |nst l r=>exact .nst (l.same (cD b)) ((r.away b _ _ LA).same (cD b))
  ·cases q
 dom:=λj a e=>by unfold Oc at e;obtain⟨i,hi,e⟩:=Aa.mp e;obtain⟨d,q⟩:=S.dom i a e;refine⟨d,?_⟩;have y:j<ix.length:=(Af.mp hi).1;unfold Z7;rw[Ae (by simpa using y),De,hi];show b0 ((δ[i]?).getD .no)=_;rw[q];rfl
 inj:=λj k a c f=>by
  unfold Oc at c f;cases hi:ix[j]? with
  |none=>rw[hi]at c;cases c
  |some i=>
   cases hk:ix[k]? with
   |none=>rw[hk]at f;cases f
   |some t=>
    rw[hi]at c;rw[hk]at f;have:i=t:=S.inj i t a c f
    subst this;obtain⟨C,q1⟩:=Af.mp hi;obtain⟨A,q2⟩:=Af.mp hk;exact(Pb u).mp (q1.trans q2.symm)
 old:=λj a e=>by
  have g:=e;unfold Oc at g;cases hi:ix[j]? with
  |none=>rw[hi]at g;cases g
  |some i=>
   rw[hi]at g;refine⟨λz=>?_,.inl ⟨j,e⟩⟩;rcases z with(z|z)|⟨t,z,n⟩
   ·exact(S.old i a g).1 z
   ·obtain⟨o,q⟩:=S.nin (.inr ⟨i,g⟩)
    rw[z,b]at q;cases q
   ·have:i=t:=S.inj i t a g z
    subst this;exact n (Cn hi)
 zin:=λa h=>by
  rcases h with(h|h)|⟨i,h,_⟩
  ·obtain⟨o,q⟩:=S.zin a h
   exact⟨o,cD b _ _ q⟩
  ·exact⟨_,by rw[h];exact bU⟩
  ·obtain⟨o,q⟩:=S.nin (.inr ⟨i,h⟩)
   exact⟨o,cD b _ _ q⟩
 frm:=(cD b).fr
 par:=⟨λj a e=>by
  have e:(ix[j]?).bind O=b0 a:=e;cases hi:ix[j]? with
  |none=>rw[hi]at e;cases e
  |some i=>exact Dq.mpr (Af.mp hi).1,λj _=>rfl⟩
 pin:=λa q0=>by obtain⟨j,e⟩:=q0;unfold Oc at e;obtain⟨i,hi,e⟩:=Aa.mp e;obtain⟨o,q⟩:=S.nin (.inr ⟨i,e⟩);exact⟨o,cD b _ _ q⟩
 kep:=λp x=>((hk p x).away b _ _ LA LA).same (cD b)
def Z0.turn{l:Nat->Option Sf}{f:St}{n:Nat}{m:St}(S:Z0 K (Bm n) B l H f δ)(C:∀j,n<=j->B.mu j=b3)(x:m.length=n)(o:f.take n=m)(D:n<=δ.length):Z0 K (Bm n) B B.mu H (m++Ak nl b3) (δ.take n++GD nl):=by
 have z:∀j,j<n->l j=B.mu j:=λj b=>S.par.2 j (Dq.mpr b);have c:∀j a,B.mu j=b0 a->l j=b0 a:=λj a e=>by rw[z j (Dq.mp (S.par.1 j a e))];exact e
 have g:∀a,Nn B B.mu a->Nn B l a:=λa h=>by
  rcases h with h|⟨j,h⟩
  ·exact .inl h
  ·exact .inr ⟨j,c j a h⟩
 have y:∀(j:Nat) (s:Sl),(δ.take n++GD nl)[j]?=b0 s->(j<n/\δ[j]?=b0 s)∨s=.no:=λj s h=>by
  have hl:(δ.take n).length=n:=by rw[Ct];lia
  by_cases b:j<n
  ·rw [Ae (by rw [hl];exact b),Dk b]at h
   exact .inl ⟨b,h⟩
  ·unfold GD at h
   rw[At (by rw[hl];lia),El]at h;split at h
   ·cases h;exact .inr rfl
   ·cases h
 have u:∀(j:Nat) (v:V),j<n->f[j]?=b0 (b0 v)->(m++Ak nl b3)[j]?=b0 (b0 v):=λj v b e=>by rw[Ae (by rw[x];exact b),<-o,Dk b];exact e
 refine⟨?_,λj d e=>?_,λj d e=>?_,λj a e=>?_,λj k a i t=>S.inj j k a (c j a i) (c k a t),λj a e=>S.old j a (c j a e),S.zin,S.frm,⟨S.par.1,λj _=>rfl⟩,S.pin,λp A=>(S.kep p A).mono g g⟩
 ·simp[x,GD,Ct]
  lia
 ·rcases y j _ e with⟨b,e⟩|e
  ·obtain⟨v,i,r⟩:=S.va j d e
   exact⟨v,u j v b i,r.mono g g⟩
  ·cases e
 ·rcases y j _ e with⟨b,e⟩|e
  ·obtain⟨a,i,t,w⟩:=S.ow j d e
   exact⟨a,(z j b)▸i,u j _ b t,w.mono g⟩
  ·cases e
 ·have b:=Dq.mp (S.par.1 j a e)
  obtain⟨d,q⟩:=S.dom j a (c j a e);refine⟨d,?_⟩;rw[Ae (by rw[Ct];lia),Dk b];exact q
def RX(ix:List Nat)(σ:St):(XR ix σ).length=ix.length:=by simp[XR]
def mw{a:St}(hl:ix.length<=a.length)(h:∀i∈Bm ix.length,a[i]?=(XR ix σ++Ak nl b3)[i]?):a.take ix.length=XR ix σ:=by
 refine Oi λj=>?_;by_cases b:j<ix.length
 ·rw[Dk b,h j (Dq.mpr b),Ae (by rw[RX];exact b)]
 ·rw[Ec (by rw[Ct];lia),Ec (by rw[RX];lia)]
def js{a:St}(m3:∀i∈Bm ix.length,a[i]?=(XR ix σ++Ak nl b3)[i]?):ix.length<=a.length:=by
 by_cases hz:ix.length=0
 ·lia
 ·have b : ix.length-1 < ix.length := by lia
  have:=m3 (ix.length-1) (Dq.mpr b)
  have c:(XR ix σ++Ak nl b3)[ix.length-1]? ≠b3:=by rw[Ae (by rw[RX];exact b)];simp[XR,b]
  rw[<-this]at c;have d:ix.length-1<a.length:=Nat.lt_of_not_le λz=>c (List.getElem?_eq_none_iff.mpr z);lia
def dL(K:Ao)(J:It)(a:List (V×cM))(ds:List cM)(H0:Hp)(b:Bool):Prop:=∀(N:Sf->Prop) (H:Hp),(∀p∈a,aU K N H N p.1 p.2)->(b=b5->aD H0 H)->
 (∀(i:Nat) (d:cM),ds[i]?=b0 d->J.go i H/\∀x H',J.yld i H x H'->aD H H'/\aU K N H' N x d)/\J.stop ds.length H
inductive TIVq(K:Ao)(ml:List Nat)(pu b:Bool)(f:VI)(σ:St)(H:Hp)(R:It->Hp->Prop):Prop
 |mk (B:_) (O:_) (δ:_) (ds:_) (δ':_) (h0:Z0 K ml B O H σ δ) (h1:f δ=b0 (ds,δ')) (h2:∀J kps H',Z0 K ml {B with kp:=kps++B.kp} O H' σ δ'->Fr (OA O) H H'->(pu=b5->aD H H')->dL K J kps ds H' b->R J H'):TIVq K ml pu b f σ H R
def F5{fi:VI}{gg:VG}{tb:VB}{fe:VF}(hnd:ix.Nodup){Q:VK}(h:TN K ml (pi&&pt&&pe) (ZG ix nl fi gg tb fe) σ H Q):F0 ix nl (TIVq K ml pi (pt&&pe) fi) (TGV K (Bm ix.length) gg) (TB K (Bm ix.length) pt tb) (TV K (Bm ix.length) pe b5 b5 fe) σ H Q:=by
 obtain⟨B,O,δ,d,δ2,S,q,k⟩:=h;unfold ZG at q;obtain⟨⟨ds,δ1⟩,h1,q⟩:=Aa.mp q;have q:((ZK ix.length nl gg tb fe ds [] (Z7 ix δ1)).map λq=>(cM.lst q.1,XG ix q.2 δ1))=b0 (d,δ2):=q;obtain⟨⟨res,l⟩,h2,q⟩:=Am.mp q;cases q;refine⟨B,O,δ,ds,δ1,S,h1,λJ f H0 y f0 p0 wk D u=>?_⟩;have hDO:∀j,Oc ix O j≠b0 D:=λj e=>by unfold Oc at e;obtain⟨i,hi,e⟩:=Aa.mp e;obtain⟨o,q⟩:=y.nin (.inr ⟨i,e⟩);rw[u]at q;cases q
 have g7:∀kp j,ix.length<=j->(Bc ix B O H0 D kp).mu j=b3:=λkp j R=>by show(ix[j]?).bind O=b3;rw[Ec R];rfl
 refine⟨λi m acc H1=>m=ds.length-i/\i<=ds.length/\∃(g:List cM) (c:Ev),c.length=ix.length/\acc.length=g.length∧
   Z0 K (Bm ix.length) (Bc ix B O H0 D (f++acc.zip g)) (Oc ix O) H1 (XR ix σ++Ak nl b3) (c++GD nl)/\H1 D=b0 (.lst acc)/\((pt&&pe)=b5->aD H0 H1)∧
   ZK ix.length nl gg tb fe (ds.drop i) g c=b0 (res,l),
  ⟨ds.length,rfl,Dx _,[],Z7 ix δ1,by simp[Z7],rfl,by rw[List.zip_nil_left,Cz];exact y.unkeep.inner u hnd λp t=>y.kep p (Bz _ t),bU,λ_=>cD u,h2⟩,?_⟩
 rintro i m acc H1 ⟨rfl,hi,g,c,P,W,M,G,de,hc⟩;have w:=wk (Nn (Bc ix B O H0 D (f++acc.zip g)) (Oc ix O)) H1 (λp t=>M.kep p (Bz _ t)) de;by_cases F:i<ds.length
 ·obtain ⟨go,yl⟩ := w.1 i ds[i] (by simp [F])
  rw[Fm F]at hc;simp only[ZK]at hc;obtain⟨N,g1,hc⟩:=Aa.mp hc;obtain⟨⟨kk,s⟩,g2,hc⟩:=Aa.mp hc;refine .inr ⟨go,λbq H'=>∃(g:List cM) (c:Ev),c.length=ix.length/\bq.length=g.length∧
   Z0 K (Bm ix.length) (Bc ix B O H0 D (f++bq.zip g)) (Oc ix O) H' (XR ix σ++Ak nl b3) (c++GD nl)/\H' D=b0 (.lst bq)/\((pt&&pe)=b5->aD H0 H')∧
   ZK ix.length nl gg tb fe (ds.drop (i+1)) g c=b0 (res,l),λbq H' w'=>⟨ds.length-(i+1),by lia,rfl,F,w'⟩,λx H2 hy=>?_⟩
  obtain⟨X,rx⟩:=yl x H2 hy;refine⟨_,_,_,ds[i],N,M.same X,rx,g1,λσ3 O3 S3 m3=>?_⟩;have E:=js m3;have r:=mw E m3;refine⟨r,_,_,N,kk,s,S3,g2,λH4 I=>?_⟩;have V:H4 D=b0 (.lst acc):=I.frm _ _ (X _ _ G) λz=>by
   obtain⟨j,e⟩:=z;have:=(I.sta.old j D e).1
   exact absurd (.inl (.inr rfl)) this
  have ln4:ix.length<=s.length:=by rw[<-I.sta.len];exact E
  cases kk with
  |false=>
   rw[if_neg Ei]at hc;refine EQ ⟨g,s.take ix.length,by rw[Ct];lia,W,I.sta.turn (g7 _) (RX ix σ) r ln4,V,λz=>?_,hc⟩;exact((de z).trans X).trans (I.pur ((Ag _ _).mp z).1)
  |true=>
   rw[if_pos rfl]at hc;obtain⟨⟨dv,C⟩,g3,hc⟩:=Aa.mp hc;split at hc
   ·rename_i hz
    refine ER ⟨_,_,s,dv,C,I.sta,g3,λv H5 A=>?_⟩;have U:H5 D=b0 (.lst acc):=A.frm _ _ V λz=>by
     obtain⟨j,e⟩:=z;have:=(A.sta.old j D e).1
     exact absurd (.inl (.inr rfl)) this
    have ln5:ix.length<=C.length:=by rw[<-A.sta.len];exact E
    have S6:=A.sta.turn (nl:=nl) (g7 _) (RX ix σ) r ln5;have hv:aU K (Nn (Bc ix B O H0 D (f++acc.zip g)) (Oc ix O)) H5 (Nn (Bc ix B O H0 D (f++acc.zip g)) (Oc ix O)) v dv:=by
     have hN:∀a,Nn (Bc ix B O H0 D (f++acc.zip g)) (Oc ix O) a->av (Bc ix B O H0 D (f++acc.zip g)) O3 b5 a:=λa h=>by
      rcases h with h|⟨j,h⟩
      ·exact .inl h
      ·refine .inr ⟨j,?_⟩
       have R:j∈Bm ix.length:=A.sta.par.1 j a h;rw[A.sta.par.2 j R];exact h
     exact A.rep.mono hN hN
    have S7:=S6.withKp (kp:=f++(acc++[v]).zip (g++[dv])) λp t=>by
     rw[List.zip_append W,<-Ar]at t;rcases Bo.mp t with z|z
     ·exact S6.kep p z
     ·rw[An.mp (show p∈[(v,dv)] from z)]
      exact hv
    refine⟨U,by rw[W,Cr];exact hz,g++[dv],C.take ix.length,by rw[Ct];lia,by simp[W],?_,bU,λz=>?_,hc⟩
    ·exact S7.writeZ (.inl (.inr rfl)) U u
    ·intro b o e
     have Y:b≠D:=λz=>by rw[z,u]at e;cases e
     rw[bC Y];obtain⟨z1,z2⟩:=(Ag _ _).mp z;exact(((de z).trans X).trans ((I.pur z1).trans (A.pur z2))) b o e
   ·cases hc
 ·have e : i = ds.length := by lia
  subst e;rw[Gy]at hc;cases hc;refine .inl ⟨w.2,k D H1 ?_⟩;have fP:Fr (OA (Oc ix O)) H0 H1:=M.frm;have T:∀a,OA (Oc ix O) a->OA O a:=λa q0=>by
   obtain⟨j,e⟩:=q0;unfold Oc at e;cases hi:ix[j]? with
   |none=>rw[hi]at e;cases e
   |some i=>rw[hi]at e;exact⟨i,e⟩
  have SL:=y.unkeep.laid (o:=.lst acc) u;have fL:Fr (OA (Oc ix O)) (aG H0 D (.lst acc)) H1:=λb o e n=>by
   by_cases Y:b=D
   ·subst Y
    rw[bU]at e;cases e;exact G
   ·rw[bC Y]at e
    exact fP b o e n
  refine⟨SL.call (NI) (λi=>?_) fL T,f0.trans (fP.mono T),λz=>?_,.lst G (UA W λp t=>(M.kep p (Br _ t)).mono C2 C2),y.unkeep.new u,y.fresh u⟩
  ·by_cases g8:i<δ1.length
   ·rcases Q5 (ix:=ix) (ss:=l) (δ:=δ1) i g8 P.symm with⟨j,x,e1,Z,e3⟩|⟨e1,Z⟩
    ·have e4:(l++GD nl)[j]? =b0 (.ow x):=by rw[Ae (Af.mp Z).1];exact Z
     obtain⟨a,e5,_,w⟩:=M.ow j x e4;refine .inr ⟨a,x,?_,e3,w.mono C2⟩;unfold Oc at e5;rw[e1]at e5;exact e5
    ·refine .inl ⟨Z,λa ea ⟨j,L⟩ => ?_⟩
     obtain⟨x,ex⟩:=M.dom j a L;unfold Oc at L;cases hi:ix[j]? with
     |none=>rw[hi]at L;cases L
     |some i'=>
      rw[hi]at L;have:i=i':=y.inj i i' a ea L
      subst this;have R:j<l.length:=by rw[P];exact(Af.mp hi).1
      rw[Ae R]at ex;exact e1 j x hi ex
   ·refine .inl ⟨?_,λa ea => ?_⟩
    ·rw[Ec (by rw[NI];lia),Ec (by lia)]
    ·obtain⟨x,ex⟩:=y.dom i a ea
     exact absurd (Af.mp ex).1 g8
  ·simp only[Ag]at z
   exact(p0 z.1.1).trans (de (by simp[z.1.2,z.2]))
def B4{c:VI}{gg:VG}{tb:VB}{fe:VF}(b:ix.Nodup){Q:VK}(h:TN K ml (pi&&pt&&pe) (ZG ix nl c gg tb fe) σ H Q):F0 ix nl (TIV K ml pi c) (TGV K (Bm ix.length) gg) (TB K (Bm ix.length) pt tb) (TV K (Bm ix.length) pe b5 b5 fe) σ H Q:=
 let ⟨B,O,δ,ds,δ',S,e,k⟩:=F5 b h
 ⟨B,O,δ,ds,δ',S,e,λJ a H' d f p w=>k J a H' d f p λN H1 z _=>w N H1 z⟩
def jF{Q:Bool->Hp->Prop}(h:TB K ml b5 V6 σ H Q):tYes σ H Q:=by obtain⟨B,O,δ,k,δ',S,q,w⟩:=h;cases q;exact w H (ResB.refl S)
def HY{Y:Cx}{t:VB}(h:PT Y c (TB K ml pt t)):PTs Y [c] (TB K ml pt t):=lj h
def W4{Y:Cx}:PTs Y [] (TB K ml b5 V6):=λaa s σ H Q I hw=>dX aa s σ H Q I (jF hw)
def Uy{Q:VK}{o:Bool}(h:TX K ml (if o then xO f else xV f) σ H Q):TN K ml pu f σ H Q:=by
 obtain⟨B,O,δ,s,δ',S,q,k⟩:=h;have e:∃d,f δ=b0 (d,δ')/\s=if o then .ow d else .va d:=by
  cases o with
  |true=>
   have q:(f δ).map (λp=>(Sl.ow p.1,p.2))=b0 (s,δ'):=q;cases h1:f δ with
   |none=>rw[h1]at q;cases q
   |some p=>rw[h1]at q;cases q;exact⟨p.1,rfl,rfl⟩
  |false=>
   have q:(f δ).map (λp=>(Sl.va p.1,p.2))=b0 (s,δ'):=q;cases h1:f δ with
   |none=>rw[h1]at q;cases q
   |some p=>rw[h1]at q;cases q;exact⟨p.1,rfl,rfl⟩
 obtain⟨d,h1,a⟩:=e;refine⟨B,O,δ,d,δ',S,h1,λp H' R=>?_⟩;cases o with
 |true=>
  cases a;have w:=R.own;cases w with
  |lst q1 r=>exact k _ H' _ (R.sta.keepV (WH r)) (.ol q1 r.length R.nz R.h0) R.frm
  |dct q1 r=>exact k _ H' _ (R.sta.keepV (WH r)) (.od q1 (by simpa using r.length) R.nz R.h0) R.frm
  |nst q1 r=>exact k _ H' _ (R.sta.keepV (WH r)) (.of q1 r.length R.nz R.h0) R.frm
 |false=>
  cases a;exact k _ H' _ (R.sta.unadd.keepV (ps:=[(.ref p,d)]) λz hz=>by rw[An.mp hz];exact(R.own.mono QI).rep R.nz) .va R.frm
def Wb{i:Nat}{x:VX}{te:TE}(a:∀σ H Q,TX K ml x σ H Q->te σ H Q)(c:i∉ml){D:DV}(h:TJ K ml (aK i x) D σ H):tAsg te (AH i) D σ H:=by
 obtain⟨B,O,δ,o,S,q,k⟩:=h;unfold aK at q;obtain⟨⟨s,δ1⟩,h1,q⟩:=Aa.mp q;have q:(if i<δ1.length then b0 (Ou.nx (δ1.set i s))else b3)=b0 o:=q;split at q
 ·rename_i hl
  cases q;refine a _ _ _ ⟨B,O,δ,s,δ1,S,h1,λv H' B' d h' f=>?_⟩;obtain⟨e,b⟩:=h'.bind d c hl;exact k _ _ _ b
 ·cases q
end
abbrev aL(P:Bh)(w:Sm)(K:Ao)(mg:Si->Option Se)(base:Sq)(x:Si)(k:Nat)(ps:List Si)(mF:List Nat)(F:bW)(f:Sf):Prop:=Def P w K mg base x k ps (spV K mF ps.length F) f
section
variable{X:Cx}{K:Ao}{ml:List Nat}{e a b c:Sj}{es:List Sj}{pa ta ia pb tb ib pc tc ic pu bt bi ps bs:Bool}{fa fb fc f:VF}{B B':Bs}{O:Nat->Option Sf}{H H0 H1 H':Hp}{σ:St}{δ δ':Ev}{v:V}{d:cM}{p:Sf}{pos:Pos}
def aA{x:Si}(a:Gl X x)(h:∃u v,X.mg x=b0 u/\aW v u/\∀N H M,aU K N H M v d)(hd:ND x:=by decide):PE X (.Name x pos) (TV K ml b5 b5 b5 (fC d)):=by obtain⟨u,v,h1,h2,b⟩:=h;exact ve_c (mK a h1 h2 hd) b
def Xb(K:Ao):R2:=λx y H Q=>∃a b xs ys,x=.ref a/\y=.ref b/\UV K H a xs/\UV K H b ys/\xs.length+ys.length<=sizeLine∧
 (xs=[]->Q (.ref b) H)/\(xs≠[]->ys=[]->Q (.ref a) H)/\(xs≠[]->ys≠[]->∀p,H p=b3->Q (.ref p) (aG H p (.tup (xs++ys))))
def eM:VY X (Fn .Add) (Xb X.K):=by
 intro aa s σ H x y v u Q I t r h;obtain⟨a,b,xs,ys,rfl,rfl,C,B,hz,q0,q1,q2⟩:=h;cases t;cases r;obtain⟨its,g,l,_⟩:=I.tuple C;obtain⟨F,f,p2,_⟩:=I.tuple B;by_cases i:xs=[]
 ·subst i
  have D:its=[]:=g.nil_iff.mpr rfl;subst D;obtain⟨⟨cls,E,data,p⟩,m,hc,n,hd⟩:=id l;obtain⟨⟨J,k,data2,j⟩,c,e,A,d⟩:=id p2;simp only at hc hd e d;subst hc hd e d;exact Lu ⟨_,m,rfl⟩ ⟨_,c,rfl⟩ Le Ni Hs Hk (Hd _ _)
   (tuple_addW0 a b _ F.toArray n A E k p j (by simp)) ⟨m,c,⟨.ref b,H,I,rfl,q0 rfl⟩⟩
 ·refine HT.zH3 l p2 (λz => i (g.nil_iff.mp z)) (λz => ⟨.ref a,H,I,rfl,q1 i (f.nil_iff.mp z)⟩) (λz => ?_) (by rw [<- g.length,<- f.length];exact hz)
  refine⟨.ref s.heap.objs.size,_,I.laid (t':=s.toks) (o:=.tup (xs++ys)) (λb G q=>Ad _ q) (Au _) ?_,rfl,q2 i (λw=>z (f.nil_iff.mpr w)) _ (I.hok.fresh (Au _))⟩;exact⟨by rw[Ay];exact hz,_,g.append f,Kh _ _⟩
def Ug(K:Ao):R2:=λx y H Q=>∃l b xs zs,x=.ref l/\y=.ref b/\W7 K H l xs/\W7 K H b zs/\xs.length+zs.length<=sizeLine/\∀p,H p=b3->Q (.ref p) (aG H p (.lst (xs++zs)))
def k7:VY X (Fn .Add) (Ug X.K):=by
 intro aa s σ H x y v u Q I p o h;obtain⟨l,b,xs,zs,rfl,rfl,z,A,hz,q⟩:=h;cases p;cases o;obtain⟨its,r,t,_⟩:=I.list z;obtain⟨i,j,p2,_⟩:=I.list A;obtain⟨⟨cls,C,data,m⟩,n,k,hc,_,hd⟩:=id t;obtain⟨⟨D,g,data2,e⟩,w,a,d,_,c⟩:=id p2;simp only at hc hd d c;subst hc hd d c;have B:its.toArray++i.toArray=(its++i).toArray:=by simp
 have hl:=r.length;have f:=j.length;refine Lu ⟨_,k,rfl⟩ ⟨_,a,rfl⟩ noFill_list_add seq_list_add PySem.F.slot_list_add PySem.F.entry_list_add (PySem.F.args_list_add_2 _ _) (list_addW l b its.toArray i.toArray n w C g m e (by rw[Aq,Aq,<-hl,<-f];exact hz)) ⟨k,a,?_⟩;rw[B];exact⟨.ref _,_,I.lnew (t':=s.toks) (r.append j) (by rw[Ay];lia),rfl,q _ I.fresh⟩
def Wg(K:Ao):R2:=λx y H Q=>((DE (λi j=>.int (i+j)) x y H Q∨Xb K x y H Q)∨Ug K x y H Q)∨∃i j,x=.str i/\y=.str j/\i.length+j.length<=sizeLine/\Q (.str (i++j)) H
def Z8(h:X.K=K:=by rfl):VY X (Fn .Add) (Wg K):=by subst h;exact((zK0.or eM).or k7).or C6
noncomputable def aV:cM->cM->Option cM
 |.int i,.int j=>b0 (.int (i+j))
 |.tup ds,.tup es=>if ds.length+es.length<=16777216 then b0 (.tup (ds++es))else b3
 |.lst ds,.lst es=>if ds.length+es.length<=16777216 then b0 (.lst (ds++es))else b3
 |.str x,.str y=>if x.length+y.length<=16777216 then b0 (.str (x++y))else b3
 |_,_=>b3
def aU.tupE{N M:Sf->Prop}{ds:List cM}(h:aU K N H M v (.tup ds)):∃a xs,v=.ref a/\UV K H a xs/\bT K N H xs ds:=by
 cases h.onT with
 |tup q r=>exact⟨_,_,rfl,q,r⟩
def aU.lstE{N M:Sf->Prop}{ds:List cM}(h:aU K N H M v (.lst ds)):∃a xs,v=.ref a/\W7 K H a xs/\bT K N H xs ds:=by
 cases h.onL with
 |lst q n r=>exact⟨_,_,rfl,W7.of q,r⟩
 |fzm q r=>exact⟨_,_,rfl,q.sq,r⟩
def aX:OpC K (Wg K) aV:=by
 intro H N M M' x y d e c Q n m h k;cases d with
 |int i=>
  cases e with
  |int j=>
   cases h;cases n.onI;cases m.onI;exact .inl (.inl (.inl ⟨_,_,rfl,rfl,k _ _ (aD.refl _) λ_ _=>.int _⟩))
  |_=>cases h
 |str i=>
  cases e with
  |str j=>
   simp only[aV]at h;split at h
   ·cases h
    cases n.onS;cases m.onS;exact .inr ⟨_,_,rfl,rfl,by rw[Cr];assumption,k _ _ (aD.refl _) λ_ _=>.str _⟩
   ·cases h
  |_=>cases h
 |tup ds=>
  cases e with
  |tup es=>
   simp only[aV]at h;split at h
   ·rename_i hz
    cases h;obtain⟨a,xs,rfl,q1,g⟩:=n.tupE;obtain⟨b,ys,rfl,q2,f⟩:=m.tupE;refine .inl (.inl (.inr ⟨a,b,xs,ys,rfl,rfl,q1,q2,by rw[g.length,f.length,Cr];exact hz,λz=>?_,λt s=>?_,λt s p l=>?_⟩))
    ·subst z
     have:ds=[]:=Fz.mp g.length.symm
     subst this;exact k _ _ (aD.refl _) λM r=>.tup q2 f
    ·subst s
     have:es=[]:=Fz.mp f.length.symm
     subst this;rw[Cz]at k;exact k _ _ (aD.refl _) λM r=>.tup q1 g
    ·exact k _ _ (cD l) λM r=>.tup (UV.of bU) ((g.append f).same (cD l))
   ·cases h
  |_=>cases h
 |lst ds=>
  cases e with
  |lst es=>
   simp only[aV]at h;split at h
   ·rename_i hz
    cases h;obtain⟨a,xs,rfl,q1,g⟩:=n.lstE;obtain⟨b,ys,rfl,q2,f⟩:=m.lstE;exact .inl (.inr ⟨a,b,xs,ys,rfl,rfl,q1,q2,by rw[g.length,f.length,Cr];exact hz,λp l=>k _ _ (cD l) λM r=>.lst bU (λz=>by obtain⟨o,q⟩:=r _ z;rw[l]at q;cases q) ((g.append f).same (cD l))⟩)
   ·cases h
  |_=>cases h
 |_=>cases h
def Uu:Ao->R2:=λ_=>rI CMul λi j=>.int (i*j)
def QE(h:X.K=K:=by rfl):VY X (Fn .Mult) (Uu K):=iV
abbrev SN:=oMul
def T0:OpC K (Uu K) SN:=by intro H N M M' x y d e c Q b a h k;exact fS H N N M M' x y d e c Q b a h λv f=>k v H (aD.refl _) λM _=>f _ _ _
noncomputable def WC:cM->Option aS
 |.int i=>b0 (.inl i)
 |.str x=>b0 (.inr x)
 |_=>b3
def aU.key{N M:Sf->Prop}{k:aS}(h:aU K N H M v d)(e:WC d=b0 k):v=kV k:=by
 cases h<;>first
  |(cases e;rfl)
  |cases e
noncomputable def bA(ks:List aS)(ds:List cM)(k:aS):Option cM:=match ks,ds with
 |k'::ks,d::ds=>if k'=k then b0 d else bA ks ds k
 |_,_=>b3
theorem OT{N:Sf->Prop}{k:aS}:∀{kvs:List (aS×V)}{ds:List cM},bT K N H (kvs.map Dd) ds->(∃v d,QY kvs k=b0 v/\bA (kvs.map Cg) ds k=b0 d/\aU K N H N v d)∨(QY kvs k=b3/\bA (kvs.map Cg) ds k=b3)
 |[],_,.nil=>.inr ⟨rfl,rfl⟩
 | (k',v) :: kvs,_,.cons h t => by
  by_cases hk:k'=k
  ·refine .inl ⟨v,_,PK (p:=(k',v)) hk,?_,h⟩
   simp[bA,hk]
  ·rcases OT (k:=k) t with⟨a,d',h1,h2,b⟩|⟨h1,h2⟩
   ·exact .inl ⟨a,d',(SX (p:=(k',v)) hk).trans h1,by simpa[bA,hk]using h2,b⟩
   ·exact .inr ⟨(SX (p:=(k',v)) hk).trans h1,by simpa[bA,hk]using h2⟩
def fH(f:X.A.units+1<cLine):IxR X (λx y H Q=>∃a v,x=.ref a/\NF H a y (b0 v)/\Q v H):=by intro value b aa s σ H x y v u Q I e d h i;obtain⟨a,w,rfl,g,q⟩:=h;cases e;exact Rk (EG I g) PySem.F.slot_dict_getitem.lookup (dY f I g d λk l j c=>⟨w,H,j,c,q⟩) i
def rIxA(K:Ao):R2:=λx y H Q=>(rIx K x y H Q∨∃a v,x=.ref a/\NF H a y (b0 v)/\Q v H)∨∃a k D v,x=.ref a/\y=.str k/\KTab K a D/\Fl k D=b0 v/\Q v H
def kIxA(a:X.A.units+1<cLine)(h:X.K=K:=by rfl):IxR X (rIxA K):=by subst h;exact(zKN.or (fH a)).or cT
def bX:cM->cM->Option cM
 |.tup ds,.int i=>VC ds i
 |.lst ds,.int i=>VC ds i
 |.dct ks ds,e=>(WC e).bind (bA ks ds)
 |.str z,.int i=>if z.length<=16777216 then(VC z.cps.toList i).map λc=>.str ⟨#[c]⟩else b3
 |_,_=>b3
theorem NL{N:Sf->Prop}{k:Si}:∀{D:List (Si×V)}{ds:List cM},bT K N H (D.map Dd) ds->(∃v d,Fl k D=b0 v/\bA (D.map λp=>.inr p.1) ds (.inr k)=b0 d/\aU K N H N v d)∨(Fl k D=b3/\bA (D.map λp=>.inr p.1) ds (.inr k)=b3)
 |[],_,.nil=>.inr ⟨rfl,rfl⟩
 | (k',v) :: D,_,.cons h t => by
  by_cases hk:k'=k
  ·subst hk
   exact .inl ⟨v,_,by simp[Fl],by simp[bA],h⟩
  ·have a : ¬ k = k' := λz => hk z.symm
   rcases NL (k:=k) t with⟨b,d',h1,h2,c⟩|⟨h1,h2⟩
   ·exact .inl ⟨b,d',by simpa[Fl,hk,a]using h1,by simpa[bA,hk]using h2,c⟩
   ·exact .inr ⟨by simpa[Fl,hk,a]using h1,by simpa[bA,hk]using h2⟩
theorem EZ{i:Int}:∀{D:List (Si×V)}{ds:List cM},bA (D.map λp=>.inr p.1) ds (.inl i)=b3
 |[],_=>by simp[bA]
 |_::_,[]=>by simp[bA]
 |p::D,d::ds=>by simpa[bA]using EZ (D:=D) (ds:=ds)
def jT:OpI K (rIxA K) bX:=by
 intro H N N' M M' x y d e c Q j g h k;have seq:∀ds i,WM d=b0 ds->e=.int i->VC ds i=b0 c->rIxA K x y H Q:=λds i h1 h2 b=>by
  subst h2;cases g.onI;obtain⟨a,xs,rfl,sq,r⟩:=j.seq h1;obtain⟨v,o,m⟩:=gR r b;rcases sq with sq|sq
  ·exact .inl (.inl (.inl ⟨a,xs,i,v,rfl,rfl,sq,o,k v m⟩))
  ·exact .inl (.inl (.inr (.inl ⟨a,xs,i,v,rfl,rfl,sq,o,k v m⟩)))
 cases d with
 |tup ds=>
  cases e with
  |int i=>exact seq ds i rfl rfl h
  |_=>cases h
 |lst ds=>
  cases e with
  |int i=>exact seq ds i rfl rfl h
  |_=>cases h
 |str z=>
  cases e with
  |int i=>
   simp only[bX]at h;split at h
   ·obtain⟨ch,hc,h⟩:=Am.mp h
    cases h;cases j.onS;cases g.onI;exact .inl (.inl (.inr (.inr ⟨z,i,ch,rfl,rfl,by rw[Cr];assumption,hc,k _ (.str _)⟩)))
   ·cases h
  |_=>cases h
 |dct ks ds=>
  simp only[bX]at h;obtain⟨f,hk,h⟩:=Aa.mp h;have h:bA ks ds f=b0 c:=h;have p:=g.key hk;subst p;cases j.onD with
  |dct q n r l=>
   subst l;rcases OT (k:=f) r with⟨v,d',h1,h2,b⟩|⟨h1,h2⟩
   ·rw[h]at h2
    cases h2;exact .inl (.inr ⟨_,v,rfl,h1▸NF.k q,k v b⟩)
   ·rw[h]at h2;cases h2
  |ktb T r l=>
   subst l;cases f with
   |inl i=>rw[EZ]at h;cases h
   |inr x=>
    rcases NL (k:=x) r with⟨v,d',h1,h2,b⟩|⟨h1,h2⟩
    ·rw[h]at h2
     cases h2;exact .inr ⟨_,x,_,v,rfl,rfl,T,h1,k v b⟩
    ·rw[h]at h2;cases h2
 |_=>cases h
noncomputable def WL(δ:Ev)(i:Nat):Option (List aS×List cM):=match δ[i]? with
 |some (.ow (.dct ks ds))=>b0 (ks,ds)
 |_=>b3
def RJ{i:Nat}{ks:List aS}{ds:List cM}(h:WL δ i=b0 (ks,ds)):δ[i]?=b0 (.ow (.dct ks ds)):=by
 unfold WL at h;split at h
 ·cases h;assumption
 ·cases h
def G5(i:Nat)(fk a:VF):VF:=λδ=>(WL δ i).bind λ_=>(fk δ).bind λp=>(a p.2).bind λq=>(WC p.1).bind λk=>(WL q.2 i).map λz=>((bA z.1 z.2 k).getD q.1,q.2)
def Ye{i:Nat}{fk u:VF}{ak ae:Pos}(R:X.A.units+1<cLine)(h:PE X a (WF i))(hk:PE X b (TV K ml pa ta ia fk))(P:PE X c (TV K ml pb b5 b5 u))(m:M2 X a "get" ak b c ae):
  PE X (.Call (.Attribute a "get" ak) [b,c] [] ae) (TV K ml (pa&&pb) b5 b5 (G5 i fk u)):=(Yq R h hk P m).imp λσ H Q g=>by
 obtain⟨B,O,δ,d,G,S,q,k⟩:=g;unfold G5 at q;cases p:WL δ i with
 |none=>rw[p]at q;cases q
 |some M=>
  obtain⟨f,C⟩:=M;rw[p]at q;cases h1:fk δ with
  |none=>simp[h1]at q
  |some N=>
   obtain⟨y,δ1⟩:=N;simp only[Ai,h1]at q;cases h2:u δ1 with
   |none=>simp[h2]at q
   |some p2=>
    obtain⟨z,δ2⟩:=p2;simp only[Ai,h2]at q;cases n:WC y with
    |none=>simp[n]at q
    |some E=>
     simp only[Ai,n]at q;cases j:WL δ2 i with
     |none=>simp[j]at q
     |some I=>
      obtain⟨ks,ds⟩:=I;simp only[j]at q;cases q;obtain⟨l,Y,W,w⟩:=S.ow i _ (RJ p);refine⟨.ref l,W,l,rfl,?_,B,O,δ,y,δ1,S,h1,λv1 H1 e=>⟨B,O,δ1,z,_,e.sta,h2,λv2 H2 R2=>?_⟩⟩
      ·generalize hw:cM.dct f C=Z at w
       cases w with
       |lst _ _=>cases hw
       |dct q _=>exact .inl ⟨_,.inl (.inl q)⟩
       |nst _ _=>cases hw
      ·have U:=e.rep.key n
       subst U;obtain⟨l',F,_,D⟩:=R2.sta.ow i _ (RJ j);rw[Y]at F;cases F;have x:∀o,aU K (Nn B O) H2 (Nn B O) (o:V) ((bA ks ds E).getD z)->Q o H2:=λo h=>k o H2 ⟨R2.sta,e.frm.trans R2.frm,λz=>by obtain⟨L,J⟩:=(Ag _ _).mp z;exact(e.pur L).trans (R2.pur J),h⟩
       generalize hw:cM.dct ks ds=Z at D;cases D with
       |lst _ _=>cases hw
       |nst _ _=>cases hw
       |dct q r=>
        cases hw;refine⟨_,NF.k q,x _ ?_⟩;rcases OT (k:=E) r with⟨v,d',t,s,T⟩|⟨t,s⟩
        ·rw[t,s];exact T
        ·rw[t,s];exact R2.rep
noncomputable def YA:List aS->List cM->aS->cM->List aS×List cM
 |k'::ks,d::ds,k,v=>if k'=k then(k'::ks,v::ds)else let r:=YA ks ds k v;(k'::r.1,d::r.2)
 |_,_,k,v=>([k],[v])
def LU(i:Nat)(fk fv:VF):VS:=λδ=>(fv δ).bind λp=>(WL p.2 i).bind λ_=>(fk p.2).bind λq=>(WC q.1).bind λk=>(WL q.2 i).bind λz=>if z.1.length<16777216/\z.1.Nodup then b0 (.nx (q.2.set i (.ow (let r:=YA z.1 z.2 k p.1;.dct r.1 r.2))))else b3
theorem JL{N:Sf->Prop}{k:aS}{v:V}(h:aU K N H N v d):∀{kvs:List (aS×V)}{ds:List cM},(kvs.map Cg).Nodup->bT K N H (kvs.map Dd) ds->(W0 kvs k v).map Cg=(YA (kvs.map Cg) ds k d).1/\bT K N H ((W0 kvs k v).map Dd) (YA (kvs.map Cg) ds k d).2
 |[],_,_,.nil=>⟨rfl,.cons h .nil⟩
 | (k',u) :: kvs,_,a,.cons f t => by
  obtain⟨c,b⟩:=Cd.mp a;by_cases hk:k'=k
  ·subst hk
   have e:W0 ((k',u)::kvs) k' v=(k',v)::kvs:=by
    unfold W0;rw[if_pos (by simp)];simp only[Ba,if_true];congr 1;refine(Jn λp g=>?_).trans (List.map_id _);have:p.1≠k':=λz=>c (Cs.mpr ⟨p,g,z⟩)
    simp[this]
   rw[e];exact⟨by simp[YA],by simpa[YA]using bT.cons h t⟩
  ·obtain⟨h1,h2⟩:=JL (k:=k) h b t
   have e:W0 ((k',u)::kvs) k v=(k',u)::W0 kvs k v:=by
    unfold W0;simp only[Iz,hk,decide_false,Rl];split
    ·simp[hk]
    ·rfl
   rw[e];exact⟨by simpa[YA,hk]using h1,by simpa[YA,hk]using bT.cons f h2⟩
def HN{N:Sf->Prop}{l:Sf}{o:HO}{xs:List V}{ds:List cM}{kvs:List (aS×V)}(d:H l=b0 (.dK kvs))(e:N l)(h:bT K N H xs ds):bT K N (aG H l o) xs ds:=
 h.fr (P:=λb=>b=l) (λb u q n=>by
  by_cases c:b=l
  ·subst c
   rw[d]at q;cases q;exact absurd (n rfl) λz=>z
  ·rw[bC c]
   exact q) λa z=>z▸e
def MP{i:Nat}{fk fv:VF}{af:Pos}(G:X.A.units+1<cLine)(J:PE X a (WF i))(hk:PE X b (TV K ml pa ta ia fk))(F:PE X c (TV K ml pb b5 b5 fv))(I:Gv c (b0 (.Subscript a b af)) pos.line X.env=pure ba):
  PS X (.Assign [.Subscript a b af] c pos) (TJ K ml (LU i fk fv)):=(jx G J hk F I).imp λD σ H f=>by
 obtain⟨B,O,δ,o,S,q,k⟩:=f;unfold LU at q;obtain⟨⟨z,δ1⟩,h1,q⟩:=Aa.mp q;have q:((WL δ1 i).bind λ_=>(fk δ1).bind λq=>(WC q.1).bind λk=>(WL q.2 i).bind λd=>if d.1.length<16777216/\d.1.Nodup then b0 (Ou.nx (q.2.set i (.ow (let r:=YA d.1 d.2 k z;.dct r.1 r.2))))else b3)=b0 o:=q;cases j:WL δ1 i with
 |none=>rw[j]at q;cases q
 |some x=>
 obtain⟨E,Q⟩:=x;rw[j]at q;cases h2:fk δ1 with
 |none=>simp[h2]at q
 |some p2=>
  obtain⟨y,δ2⟩:=p2;simp only[Ai,h2]at q;cases h:WC y with
  |none=>simp[h]at q
  |some e=>
   simp only[Ai,h]at q;cases g:WL δ2 i with
   |none=>simp[g]at q
   |some v=>
    obtain⟨ks,ds⟩:=v;simp only[g,Ai]at q;split at q
    ·rename_i hz
     cases q;refine⟨B,O,δ,z,δ1,S,h1,λs H1 n=>?_⟩;obtain⟨l,m,P,_⟩:=n.sta.ow i _ (RJ j);refine⟨.ref l,P,B,O,δ1,y,δ2,n.sta,h2,λR H2 R2=>?_⟩;have N:=R2.rep.key h;subst N;obtain⟨T,u,_,p⟩:=R2.sta.ow i _ (RJ g);rw[m]at u;cases u;generalize hw:cM.dct ks ds=U at p;cases p with
     |lst _ _=>cases hw
     |nst _ _=>cases hw
     |dct t r=>
      cases hw;have C:=n.rep.fr R2.frm (λa z=>.inr z) λa z=>.inr z;obtain⟨M,L⟩:=JL (k:=e) C hz.2 r;refine⟨l,_,rfl,DPut.k t (by rw[Cr];simpa using hz.1),k σ _ O (R2.sta.wrote m (λz=>z) ?_)⟩;have w:QV K (Nn B O) (aG H2 l (.dK (W0 _ e s))) l (.dct ((W0 _ e s).map Cg) _):=.dct bU (HN t (.inr ⟨i,m⟩) L);rw[M]at w;exact w
    ·cases q
end
section
variable{X:Cx}{K:Ao}{ml:List Nat}{e a b c:Sj}{es:List Sj}{pa ta ia pb tb ib pc tc ic pu bt bi ps bs:Bool}{fa fb fc f:VF}{B B':Bs}{O:Nat->Option Sf}{H H0 H1 H':Hp}{σ:St}{δ δ':Ev}{v:V}{d:cM}{p:Sf}{pos:Pos}
def eS(i j k:Nat)(ta:TA):TS:=λD σ H=>ta σ H λvs H1=>∃v w u,vs=[v,w,u]/\D.nx (((σ.set i (b0 v)).set j (b0 w)).set k (b0 u)) H1
def ku{i j k:Nat}{x y z:Si}{a b c:Sj}{ta:TA}{t r n pt:Pos}{kt k2 pt2}(hc:X.calm=b5)(J:X.N.Nodup)(hi:X.N[i]?=b0 x)(T:X.N[j]?=b0 y)(hk:X.N[k]?=b0 z)(G:i≠j)(F:i≠k)(E:j≠k)(L:X.env.scope.names.lookup x=b0 .local)(K:X.env.scope.names.lookup y=b0 .local)(hz:X.env.scope.names.lookup z=b0 .local)(U:PA X [a,b,c] ta)(hw:Eh [.Tuple [.Name x t,.Name y r,.Name z n] kt pt] (.Tuple [a,b,c] k2 pt2) X.env=pure (b0 [x,y,z]))(S:Eg [.Tuple [.Name x t,.Name y r,.Name z n] kt pt] (.Tuple [a,b,c] k2 pt2) pos.line X.env=pure ba:=by rfl):PS X (.Assign [.Tuple [.Name x t,.Name y r,.Name z n] kt pt] (.Tuple [a,b,c] k2 pt2) pos) (eS i j k ta):=by
 intro aa s σ H D I h;rw[exec_Assign_arm];refine Ac (Fy ?_);rw[S];refine Ac (As ?_);rw[if_neg (by decide)];refine Ac (Tuple_ (Y7 (U _ aa s σ H _ I h) λus s1 ⟨vs,H1,I1,Q,q1⟩=>?_));obtain⟨v,w,u,V,q1⟩:=q1;subst V;obtain⟨g,f,d,rfl,O,l,P⟩:∃g f d,us=[g,f,d]/\aW v g/\aW w f/\aW u d:=by
  cases Q with
  |cons p q=>
   cases q with
   |cons p' R=>
    cases R with
    |cons B m=>
     cases m;exact⟨_,_,_,rfl,p,p',B⟩
 refine Ds ?_ (by show 3<=sizeLine;decide);have I2:bP X aa σ H1 {s1 with heap:=s1.heap.push {cls:=.type "tuple",data:=.seq [g,f,d].toArray}}:=I1.kept (t':=s1.toks) λb o e=>Ad _ e;rw[hw];refine Ac (As ?_);show Sg (Sk X.prog X.w) X.A (do rule "assign.swapped-stores";let items<-Jj (.ref s1.heap.objs.size) 3 b3;Sy [λv=>Iy X.env z v,λv=>Iy X.env y v,λv=>Iy X.env x v] items.reverse;pure Flow.next) _ _ _;refine Ac (Hy (Ac (Oa (items:= #[g,f,d]) (I.ok.hd hc) (Kh s1.heap _) λh' C=>?_)));have Z:=I2.kept (h':=h') (t':=s1.toks) λb o e=>C b o (Bn (Av e)) e;show Sg _ _ (Sy [λv=>Iy X.env z v,λv=>Iy X.env y v,λv=>Iy X.env x v] [d,f,g]>>=λ_=>pure Flow.next) _ _ _;refine Ac (Ef (Ik (XN Z J hk (.inl hz) P (λs2 Y=>?_) (.inr hz))));refine Ef (Ik (XN Y J T (.inl K) l (λs3 W=>?_) (.inr K)));refine Ef (Ik (XN W J hi (.inl L) O (λs4 M=>Hx (As ?_)) (.inr L)));rw[Es _ _ (Dj G),Es _ _ (Dj F),Es _ _ (Dj E)]at M;exact⟨_,H1,M,q1⟩
noncomputable def LW(i j k:Nat)(x y z:VX):VS:=λδ=>(x δ).bind λp=>(y p.2).bind λq=>(z q.2).bind λr=>if i<r.2.length/\j<r.2.length/\k<r.2.length then b0 (.nx (((r.2.set k r.1).set j q.1).set i p.1))else b3
def JP{i j k:Nat}{x y z:VX}{o:Ou}(h:LW i j k x y z δ=b0 o):∃s1 δ1 d δ2 c a,x δ=b0 (s1,δ1)/\y δ1=b0 (d,δ2)/\z δ2=b0 (c,a)/\(i<a.length/\j<a.length/\k<a.length)/\o=.nx (((a.set k c).set j d).set i s1):=by
 unfold LW at h;cases h1:x δ with
 |none=>rw[h1]at h;cases h
 |some p=>
  rw[h1]at h;cases h2:y p.2 with
  |none=>simp[h2]at h
  |some q=>
   simp only[Ai,h2]at h;cases b:z q.2 with
   |none=>simp[b]at h
   |some r=>
    simp only[Ai,b]at h;split at h
    ·cases h
     exact⟨p.1,p.2,q.1,q.2,r.1,r.2,rfl,h2,b,by assumption,rfl⟩
    ·cases h
def l4{i j k:Nat}{x y z:Si}{E C A:VX}{m l h pt:Pos}{kt k2 pt2}(hc:X.calm=b5)(hN:X.N.Nodup)(hi:X.N[i]?=b0 x)(V:X.N[j]?=b0 y)(hk:X.N[k]?=b0 z)(f:i≠j)(e:i≠k)(d:j≠k)(T:X.env.scope.names.lookup x=b0 .local)(R:X.env.scope.names.lookup y=b0 .local)(hz:X.env.scope.names.lookup z=b0 .local)(Z:PE X a (TX K ml E))(Y:PE X b (TX K ml C))(w:PE X c (TX K ml A))(hw:Eh [.Tuple [.Name x m,.Name y l,.Name z h] kt pt] (.Tuple [a,b,c] k2 pt2) X.env=pure (b0 [x,y,z]))(s:i∉ml:=by decide)(r:j∉ml:=by decide)(p:k∉ml:=by decide)(U:Eg [.Tuple [.Name x m,.Name y l,.Name z h] kt pt] (.Tuple [a,b,c] k2 pt2) pos.line X.env=pure ba:=by rfl)(W:SE X a [b,c]:=by rfl)(u:SE X b [c]:=by rfl)(t:SE X c []:=by rfl):
  PS X (.Assign [.Tuple [.Name x m,.Name y l,.Name z h] kt pt] (.Tuple [a,b,c] k2 pt2) pos) (TJ K ml (LW i j k E C A)):=(ku hc hN hi V hk f e d T R hz (bL Z (bL Y (bL w ZU t) u) W) hw U).imp λD σ H n=>by
 obtain⟨B,O,δ,o,S,q,k⟩:=n;obtain⟨s1,δ1,Q,δ2,P,g,h1,h2,h3,hl,rfl⟩:=JP q;refine⟨B,O,δ,s1,δ1,S,h1,λv H1 B1 S1 J f1=>⟨B1,O,δ1,Q,δ2,S1,h2,λM H2 B2 S2 I f2=>⟨B2,O,δ2,P,g,S2,h3,λL H3 B3 S3 G f3=>⟨v,M,L,rfl,?_⟩⟩⟩⟩;obtain⟨O4,S4⟩:=G.bind S3 p hl.2.2;obtain⟨O5,S5⟩:=(I.fr f3).bind S4 r (by rw[Cf];exact hl.2.1);obtain⟨O6,F⟩:=((J.fr f2).fr f3).bind S5 s (by rw[Cf,Cf];exact hl.1);rw[Es _ _ (Dj f),Es _ _ (Dj e),Es _ _ (Dj d)]at F;exact k _ _ _ F
def mn{i j k:Nat}{x y z:Si}{T R Q:VX}{f e d pt:Pos}{kt k2 pt2}(hK:X.K=K)(hc:X.calm=b5)(E:X.N.Nodup)(hi:X.N[i]?=b0 x)(hj:X.N[j]?=b0 y)(hk:X.N[k]?=b0 z)(u:i≠j)(t:i≠k)(s:j≠k)(hx:Loc X.env.scope x)(hy:Loc X.env.scope y)(hz:Loc X.env.scope z)(ha:PE X a (TX K ml T))(hb:PE X b (TX K ml R))(C:PE X c (TX K ml Q))(r:i∉ml:=by decide)(n:j∉ml:=by decide)(m:k∉ml:=by decide)(hs:Eg [.Tuple [.Name x f,.Name y e,.Name z d] kt pt] (.Tuple [a,b,c] k2 pt2) pos.line X.env=pure ba:=by rfl)(hw:Eh [.Tuple [.Name x f,.Name y e,.Name z d] kt pt] (.Tuple [a,b,c] k2 pt2) X.env=pure b3:=by rfl)(hn:(Sh [.Name x f,.Name y e,.Name z d] X.env).length=3:=by rfl)(h:(Sh [.Name x f,.Name y e,.Name z d] X.env).findIdx? (·.1)=b3:=by rfl)(g1:(Sh [.Name x f,.Name y e,.Name z d] X.env).map (·.2)=assign (.Name x f) X.env::(Sh [.Name y e,.Name z d] X.env).map (·.2):=by rfl)(g2:(Sh [.Name y e,.Name z d] X.env).map (·.2)=assign (.Name y e) X.env::(Sh [.Name z d] X.env).map (·.2):=by rfl)(g3:(Sh [.Name z d] X.env).map (·.2)=assign (.Name z d) X.env::(Sh [] X.env).map (·.2):=by rfl)(I:LO X x:=by first|exact .inl rfl|exact .inr rfl|assumption)(G:LO X y:=by first|exact .inl rfl|exact .inr rfl|assumption)(F:LO X z:=by first|exact .inl rfl|exact .inr rfl|assumption)(h1:(Sh [.Tuple [.Name x f,.Name y e,.Name z d] kt pt] X.env).map (·.2)=[assign (.Tuple [.Name x f,.Name y e,.Name z d] kt pt) X.env]:=by rfl)(he:SE X a [b,c]:=by rfl)(A:SE X b [c]:=by rfl)(w:SE X c []:=by rfl):PS X (.Assign [.Tuple [.Name x f,.Name y e,.Name z d] kt pt] (.Tuple [a,b,c] k2 pt2) pos) (TJ K ml (LW i j k T R Q)):=
 (QL (C9 (bL ha (bL hb (bL C ZU w) A) he)) (Xo (K:=K) hK hc (UN (O7 E hi hx I) (UN (O7 E hj hy G) (UN (O7 E hk hz F) HK g3) g2) g1) hn h) hs hw h1).imp λD σ H l=>by obtain⟨B,O,δ,o,S,q,k⟩:=l;obtain⟨s1,δ1,s2,δ2,s3,g,h1,h2,h3,hl,rfl⟩:=JP q;refine⟨B,O,δ,s1,δ1,S,h1,λv H1 B1 S1 Z f1=>⟨B1,O,δ1,s2,δ2,S1,h2,λM H2 B2 S2 Y f2=>⟨B2,O,δ2,s3,g,S2,h3,λL V B3 S3 W f3=>⟨(by show 3<=sizeLine;decide),λp P=>⟨p,_,rfl,UV.of bU,rfl,v,_,rfl,M,_,rfl,L,_,rfl,rfl,?_⟩⟩⟩⟩⟩;have J:Fr (OA O) V (aG V p (.tup [v,M,L])):=(cD P).fr;obtain⟨O4,S4⟩:=(W.fr J).bind (S3.same (cD P)) m hl.2.2;obtain⟨O5,S5⟩:=((Y.fr f3).fr J).bind S4 n (by rw[Cf];exact hl.2.1);obtain⟨O6,U⟩:=(((Z.fr f2).fr f3).fr J).bind S5 r (by rw[Cf,Cf];exact hl.1);rw[Es _ _ (Dj u),Es _ _ (Dj t),Es _ _ (Dj s)]at U;exact k _ _ _ U
def FQ(i:Nat)(a fv:VF):VS:=λδ=>(fv δ).bind λp=>(VD p.2 i).bind λ_=>(a p.2).bind λq=>(VD q.2 i).bind λds=>match q.1 with
 |.int k=>(K4 ds.length k).map λj=>.nx (q.2.set i (.ow (.lst (ds.set j p.1))))
 |_=>b3
def Xx{i:Nat}{n fv:VF}{af:Pos}(P:X.K=K)(E:PE X a (WF i))(hi:PE X b (TV K ml pa ta ia n))(A:PE X c (TV K ml pb b5 b5 fv))(F:∀v,assign (.Subscript a b af) X.env v=(do
   let d<-Hv [v] (eval a X.env)
   let f<-Hv [v,d] (eval b X.env)
   Px af
   Hv [v,d,f] (Mt d f v)
   release [v,d,f] []):=by intro _;rfl)
  (C:Eg [.Subscript a b af] c pos.line X.env=pure ba:=by rfl) (hw:Eh [.Subscript a b af] c X.env=pure b3:=by rfl)
  (h1:(Sh [.Subscript a b af] X.env).map (·.2)=[assign (.Subscript a b af) X.env]:=by rfl):PS X (.Assign [.Subscript a b af] c pos) (TJ K ml (FQ i n fv)):=
 (QL A (DB E hi m6 F) C hw h1).imp λD σ H g => by
  obtain⟨B,O,δ,o,S,q,k⟩:=g;unfold FQ at q;obtain⟨⟨z,δ1⟩,h1,q⟩:=Aa.mp q;cases m:VD δ1 i with
  |none=>simp[m]at q
  |some L=>
   simp only[Ai,m]at q;cases h2:n δ1 with
   |none=>simp[h2]at q
   |some p2=>
    obtain⟨y,δ2⟩:=p2;simp only[Ai,h2]at q;cases h:VD δ2 i with
    |none=>simp[h]at q
    |some ds=>
     simp only[h,Ai]at q;cases y with
     |int e=>
      have q:((K4 ds.length e).map λj=>Ou.nx (δ2.set i (.ow (.lst (ds.set j z)))))=b0 o:=q;obtain⟨j,G,q⟩:=Am.mp q;cases q;refine⟨B,O,δ,z,δ1,S,h1,λM H1 s=>?_⟩;obtain⟨l,p,J,_⟩:=s.sta.ow i _ (RK m);refine⟨.ref l,J,B,O,δ1,_,δ2,s.sta,h2,λw H2 R2=>?_⟩;have I:w=.int e:=by exact R2.rep.onI
      subst I;obtain⟨N,t,_,u⟩:=R2.sta.ow i _ (RK h);rw[p]at t;cases t;cases u with
      |lst hl r=>
       have x:=s.rep.fr R2.frm (λa z=>.inr z) λa z=>.inr z;refine⟨l,_,e,j,rfl,rfl,hl,by rw[r.length];exact G,k σ _ O (R2.sta.wrote p (λz=>z) (.lst bU (NC (ys:=[]) hl (.inr ⟨i,p⟩) (r.set x j))))⟩
     |_=>cases q
end
section
variable{prog:Bh}{w:Sm}{A:Dh}{E:Se->Ah->Prop}{s:Ah}
def QS{it t:Sf}{i:Nat}{items:Array Se}{x:Se}{Q:Se->Ah->Prop}(a:s.heap.IsTupleIter it t i)(e:s.heap.IsTuple t items)(d:items[i]?=b0 x)(f:∀h',h'.IsTupleIter it t (i+1)->Fw it s.heap h'->Q x {s with heap:=h'}):Sg (Sk prog w) A (Cc (.ref it)) Q E s:=by obtain⟨l,c,j,b⟩:=id a;obtain⟨k,g,_,m,h⟩:=e;unfold Cc;refine Ac (Cw (name:=Bk "__next__") a.typeIs Fh (Eo Fh a.typeIs Jo ?_ (Ja _)));show Sg _ _ (field (Bq it) 0>>=_) _ _ s;refine Ac (Em c b (x:=.ref t) rfl ?_);show Sg _ _ (if(Bq t== .none)=b5 then _ else _) _ _ s;rw[if_neg (show¬(Bq t==Value.none)=b5 from Ei)];show Sg _ _ (field (Bq it) 1>>=_) _ _ s;refine Ac (Em c b (x:=.int i 0) rfl ?_);show Sg _ _ (seqItems? (Bq t)>>=_) _ _ s;refine Ac (Fd g h ?_);simp only[d,Ia];refine Ac (wpAny_setField c b (by simp) (As ⟨x,rfl,As (f _ ⟨_,Gh _ c (Obj.isFreed_of_fields (No b _)),(Obj.cls_mapFields ..).trans j,?_⟩ (Na ..))⟩));rw[No b];simp[rawInt]
def OW{it t:Sf}{i:Nat}{items:Array Se}{Q:Se->Ah->Prop}(f:A.handled=b3)(b:s.heap.IsTupleIter it t i)(h:s.heap.IsTuple t items)(g:items[i]?=b3)(j:∀h' e,Jm it s.heap h'->(∃o,h'.get? e=b0 o/\o.cls=.type "StopIteration")->E (.ref e) {s with heap:=h'}):Sg (Sk prog w) A (Cc (.ref it)) Q E s:=by
 obtain⟨p,c,r,d⟩:=id b;obtain⟨n,k,_,q,l⟩:=h;unfold Cc;refine Ac (Cw (name:=Bk "__next__") b.typeIs Fh (Eo Fh b.typeIs Jo ?_ (Ja _)));show Sg _ _ (field (Bq it) 0>>=_) _ _ s;refine Ac (Em c d (x:=.ref t) rfl ?_);show Sg _ _ (if(Bq t== .none)=b5 then _ else _) _ _ s;rw[if_neg (show¬(Bq t==Value.none)=b5 from Ei)];show Sg _ _ (field (Bq it) 1>>=_) _ _ s;refine Ac (Em c d (x:=.int i 0) rfl ?_);show Sg _ _ (seqItems? (Bq t)>>=_) _ _ s;refine Ac (Fd k l ?_);simp only[g,Ia];refine Ac (Hy (Ac (wpAny_setField c d (by simp) ?_)));show Sg _ _ (newExc (Kg "StopIteration") []>>=_) _ _ _;refine Ac ?_;unfold newExc newTuple;refine Ac (Ds ?_ (by size_fits));refine Ac (m:=firstArgMember _ _) (wpAny_of_eq (a:=Value.none) (by first|rfl|(unfold firstArgMember;rfl)) (Ds ?_ (by size_fits)));unfold raiseNew;refine Ac (wpAny_handled ?_);first|rw[f]|rw[show A.in1.handled=b3 from f]
 refine Ac (As (wpAny_throw (j _ _ (((Na ..).extBut.push _).push _) ⟨_,Ax _ rfl,rfl⟩)))
end
def lW{prog:Bh}{w:Sm}{A:Dh}(f:A.handled=b3)(it t:Sf)(d:t≠it)(items:Array Se):
  Draws prog w A it [it,t] items.size (λi v=>items[i]?=b0 v) (λi h=>h.IsTupleIter it t i/\h.IsTuple t items) where
 live:=λ_ _ st=>let ⟨o,c,_⟩:=st.1;⟨o,c⟩
 frame:=λ_ _ _ st hk=>⟨st.1.at λo e=>hk it (by simp) o e,by obtain⟨o,c,r⟩:=st.2;exact⟨o,hk t (by simp) o c,r⟩⟩
 item:=λi s Q E hi st g=>QS st.1 st.2 (x:=items[i]) (by simp[hi]) λh' a b=>g _ h' s.toks (by simp[hi]) ⟨a,st.2.extBut b.extBut d⟩ b
 done:=λs Q E st j=>OW f st.1 st.2 (by simp) j
section
variable{X:Cx}{aa:List (Sf×Sr)}{σ:St}{H:Hp}{s:Ah}{h':Sq}
def bP.turnedL{t':Nat}{fp:List Sf}(I:bP X aa σ H s)(k:∀b o,b∉fp->s.heap.get? b=b0 o->h'.get? b=b0 o)(there:∀b∈fp,∃o,h'.get? b=b0 o)(d:∀b∈fp,J5 X aa H b):bP X aa σ H {s with heap:=h',toks:=t'}:=by
 have a:∀b u,H b=b0 u->b∉fp:=λb u e z=>by rw[(d b z).1]at e;cases e
 have i:X.env.locals∉fp:=λz=>(d _ z).2.1 rfl;refine I.step (g':=s.gens) (d':=s.drawn) (ch:=fp) (λb h=>?_) (λb o _ _ hc e _=>k b o hc e) (λb o _ _ hc e _=>⟨o.slots,k b o hc e⟩) (λ_ _ _ _ n=>n)
  (λb o hc e=>⟨o,k b o hc e⟩) (λ_ _ e=>e) (λ_ _ _ e=>e) (λb ps e=>⟨#[],by rw[e];simp⟩) (λm g=>?_) (λb u e=>?_) I.bare
 ·obtain⟨_,f1,f2,f3,l,j⟩:=d b h
  exact⟨f3,f1,l,j⟩
 ·obtain⟨o,es,p,f,r⟩:=g
  exact⟨o,es,p,k _ o i f,r⟩
 ·refine (I.hok b u e).stay (λc v hc q => k c v ?_ q) (λ_ q => q) λ_ _ q => q
  rcases hc with z|z
  ·rw[z];exact a b u e
  ·exact a c _ z
end
section
variable{X:Cx}{aa:List (Sf×Sr)}{σ:St}{H:Hp}{s:Ah}{h':Sq}
def bP.turnedL'{t':Nat}{fp:List Sf}(I:bP X aa σ H s)(k:∀b o,b∉fp->s.heap.get? b=b0 o->h'.get? b=b0 o)(d:∀b∈fp,J5 X aa H b):bP X aa σ H {s with heap:=h',toks:=t'}:=by
 have a:∀b u,H b=b0 u->b∉fp:=λb u e z=>by rw[(d b z).1]at e;cases e
 have i:X.env.locals∉fp:=λz=>(d _ z).2.1 rfl;refine I.step (g':=s.gens) (d':=s.drawn) (ch:=fp) (λb h=>?_) (λb o _ _ hc e _=>k b o hc e) (λb o _ _ hc e _=>⟨o.slots,k b o hc e⟩) (λ_ _ _ _ n=>n)
  (λb o hc e=>⟨o,k b o hc e⟩) (λ_ _ e=>e) (λ_ _ _ e=>e) (λb ps e=>⟨#[],by rw[e];simp⟩) (λm g=>?_) (λb u e=>?_) I.bare
 ·obtain⟨_,f1,f2,f3,l,j⟩:=d b h
  exact⟨f3,f1,l,j⟩
 ·obtain⟨o,es,p,f,r⟩:=g
  exact⟨o,es,p,k _ o i f,r⟩
 ·refine (I.hok b u e).stay (λc v hc q => k c v ?_ q) (λ_ q => q) λ_ _ q => q
  rcases hc with z|z
  ·rw[z];exact a b u e
  ·exact a c _ z
end
def IC(K:Ao)(tup:Bool)(H:Hp)(a:Sf)(xs:List V):Prop:=if tup=b5 then UV K H a xs else W7 K H a xs
def OE(tup:Bool)(h:Sq)(a:Sf)(items:Array Se):Prop:=if tup=b5 then h.IsTuple a items else h.IsList a items
def TC(tup:Bool)(h:Sq)(it a:Sf)(i:Nat):Prop:=if tup=b5 then h.IsTupleIter it a i else h.IsListIter it a i
def Ur{prog:Bh}{w:Sm}{A:Dh}(b:A.handled=b3)(tup:Bool)(it t:Sf)(a:t≠it)(items:Array Se):Draws prog w A it [it,t] items.size (λi v=>items[i]?=b0 v) (λi h=>TC tup h it t i/\OE tup h t items):=by
 cases tup with
 |true=>exact lW b it t a items
 |false=>exact Draws.list b it t a items
def OE.lt{tup:Bool}{h:Sq}{a:Sf}{items:Array Se}(s:OE tup h a items):a<h.objs.size:=by
 cases tup with
 |true=>obtain⟨o,e,_⟩:=s;exact Av e
 |false=>obtain⟨o,e,_⟩:=s;exact Av e
def bP.srcA{X:Cx}{aa:List (Sf×Sr)}{σ:St}{H:Hp}{s:Ah}{a:Sf}{xs:List V}{tup:Bool}(I:bP X aa σ H s)(h:IC X.K tup H a xs):∃its:List Se,a7 xs its/\OE tup s.heap a its.toArray/\xs.length<=sizeLine:=by
 cases tup with
 |true=>
  obtain⟨its,r,p,z⟩:=I.tuple h;exact⟨its,r,p,z⟩
 |false=>
  obtain⟨its,r,p,z⟩:=I.list h;exact⟨its,r,p.isList,z⟩
def bP.sq_inj{X:Cx}{aa:List (Sf×Sr)}{σ:St}{H:Hp}{s:Ah}{a:Sf}{xs ys:List V}{tup:Bool}(I:bP X aa σ H s)(h:IC X.K tup H a xs)(h':IC X.K tup H a ys):xs=ys:=by
 cases tup with
 |true=>exact I.tuple_inj h h'
 |false=>exact I.list_inj h h'
def TC.at{tup:Bool}{h h':Sq}{it a:Sf}{i:Nat}(st:TC tup h it a i)(k:∀o,h.get? it=b0 o->h'.get? it=b0 o):TC tup h' it a i:=by
 cases tup with
 |true=>exact Heap.IsTupleIter.at st k
 |false=>exact Heap.IsListIter.at st k
def TC.obj{tup:Bool}{h:Sq}{it a:Sf}{i:Nat}(st:TC tup h it a i):∃o,h.get? it=b0 o/\∀v,o.data≠ .cell v:=by
 cases tup with
 |true=>
  obtain⟨o,e,c,d⟩:=st;exact⟨o,e,λv z=>by rw[d]at z;cases z⟩
 |false=>
  obtain⟨o,e,c,d⟩:=st;exact⟨o,e,λv z=>by rw[d]at z;cases z⟩
def Ite(K:Ao)(tup:Bool)(a:Sf):It:=
 ⟨λi H=>∃xs x,IC K tup H a xs/\xs[i]?=b0 x,λi H v H'=>∃p x,(∀xs,IC K tup H a xs->xs[i]?=b0 x)/\H p=b3/\H'=aG H p (.tup [.int i,x])/\v=.ref p,λi H=>∃xs,IC K tup H a xs/\xs.length=i⟩
def iM{P:Bh}{w:Sm}{K:Ao}{es:List Sj}{k:Nat}{pos:Pos}(tup:Bool)(a e it:Sf)(g:e≠it)(Q:a≠e)(C:a≠it):
  CB P w K (.Tuple es k pos) (Ite K tup a) [e,it] e (λi h=>(∃f,IsEnum h e it i f)/\TC tup h it a i) where
 mem:=by simp
 obj:=λi h st b c=>by
  obtain⟨⟨f,j⟩,hi⟩:=st;rcases Aj.mp c with z|z
  ·subst z
   exact⟨_,j,λv z=>by cases z⟩
  ·have:=An.mp z
   subst this;exact hi.obj
 keep:=λi h h' st G=>by obtain⟨⟨f,j⟩,hi⟩:=st;exact⟨⟨f,G e (by simp) _ j⟩,hi.at λo q=>G it (by simp) o q⟩
 item:=by
  intro X R hw S hc i aa s σ H E I t st O;subst R hw S;obtain⟨⟨f,j⟩,hi⟩:=st;obtain⟨xs,x,J,r⟩:=O;obtain⟨its,F,l,hz⟩:=I.srcA J;have M:i<its.toArray.size:=by
   have:=(Af.mp r).1
   have:=F.length
   simp only[Aq];lia
  have N:X.A.in1.handled=b3:=I.ok.hd hc;refine wpAny_pyNext_enum_itemD (Ur N tup it a C its.toArray) j ⟨hi,l⟩ M g (by simp[g,Dj Q]) λu h1 tk m ho p Z hsz hk=>⟨_,rfl,?_⟩;refine wpAny_letOwnedTupleGo_enum (s:={s with heap:=h1,toks:=tk+1}) ho λh2 y d=>?_;have d:Fw e h1 h2:=d;obtain⟨n,L,W⟩:=F.get r;have m:its.toArray[i]?=b0 u:=m;rw[List.getElem?_toArray,L]at m;have m:=Bu m;subst m;have G:∀b o,b∉[e,it]->s.heap.get? b=b0 o->h2.get? b=b0 o:=λb o c q=>by have D:b≠e:=λz=>c (by simp[z]);have T:b≠it:=λz=>c (by simp[z]);exact(d.2 b D).trans (hk b o D T q)
  have cj:h2.get? s.heap.objs.size=b0 {cls:=.type "tuple",data:=.seq #[.int i tk,n]}:=(d.2 _ (Hc (Av j))).trans Z;have bm:H s.heap.objs.size=b3:=I.hok.fresh (Au _);have U:∀b∈[e,it],b<s.heap.objs.size:=λb c=>by
   rcases Aj.mp c with z|z
   ·rw[z];exact Av j
   ·rw[An.mp z]
    obtain⟨o,q,_⟩:=hi.obj;exact Av q
  have I0:bP X aa σ (aG H s.heap.objs.size (.tup [.int i,x])) {s with heap:=s.heap.push {cls:=.type "tuple",data:=.seq #[.int i tk,n]},toks:=tk}:=
   I.laid (λb o q=>Ad _ q) (Au _) ⟨by show 2<=sizeLine;decide,[.int i tk,n],.cons ⟨tk,rfl⟩ (.cons W .nil),Kh _ _⟩
  have I1:bP X aa σ (aG H s.heap.objs.size (.tup [.int i,x])) {s with heap:=h2,toks:=tk+1}:=by
   refine bP.turnedL (s:={s with heap:=s.heap.push {cls:=.type "tuple",data:=.seq #[.int i tk,n]},toks:=tk}) (h':=h2) (t':=tk+1) (fp:=[e,it]) I0 (λb o c q=>?_) (λb c=>?_) λb c=>⟨by rw[bC (Bn (U b c))];exact(t b c).1,(t b c).2⟩
   ·by_cases B:b=s.heap.objs.size
    ·subst B
     have q:(s.heap.push {cls:=.type "tuple",data:=.seq #[.int i tk,n]}).get? s.heap.objs.size=b0 o:=q;rw[Ax _ rfl]at q;cases q;exact cj
    ·exact G b o c ((Ih _ _ _ B).symm.trans q)
   ·rcases Aj.mp c with z|z
    ·rw[z];exact⟨_,y⟩
    ·rw[An.mp z]
     obtain⟨o,q,_⟩:=p.1.obj;exact⟨o,(d.2 it (Dj g)).trans q⟩
  refine⟨.ref s.heap.objs.size,aG H s.heap.objs.size (.tup [.int i,x]),?_,rfl,⟨_,x,λys Y=>by rw[I.sq_inj Y J];exact r,bm,rfl,rfl⟩,⟨⟨_,by simpa using y⟩,p.1.at λo q=>(d.2 it (Dj g)).trans q⟩,λb c=>?_⟩
  ·exact I1
  ·rw[bC (Bn (U b c))]
   exact(t b c).1
 done:=by
  intro X R hw S hc i aa s σ H E I t st O;subst R hw S;obtain⟨⟨f,j⟩,hi⟩:=st;obtain⟨xs,J,r⟩:=O;obtain⟨its,F,l,hz⟩:=I.srcA J;have N:X.A.in1.handled=b3:=I.ok.hd hc;have hn:its.toArray.size=i:=by rw[Aq,<-F.length];exact r
  refine wpAny_pyNext_enum_endD (Ur N tup it a C its.toArray) j ⟨by rw[hn];exact hi,l⟩ λh1 V=>⟨rfl,?_⟩;obtain⟨f0,f1,f2,f3,f4,f5⟩:=t it (by simp);exact I.turned (t':=s.toks) (λb o c q=>V b o c q) f0 f1 f3 f4 f5
 self:=λ_ i _ _ _ st h=>Oj st.1.choose_spec h
def fJ(a:Sf)(items:Array Se)(n:Nat)(j:Option Sf)(f:Array (Option Se)):Meets (Fo.«enumerate.__new__» ⟨[.type "enumerate",.ref a],[]⟩) (λ_ R s=>s.heap.get? a=b0 {cls:=.type "tuple",dict:=j,data:=.seq items n,slots:=f}∧R (.ok (.ret (.ref (s.heap.push {cls:=.type "tuple_iterator",data:=.fields #[.ref a,.int 0 0]}).objs.size))) {s with heap:=(s.heap.push {cls:=.type "tuple_iterator",data:=.fields #[.ref a,.int 0 0]}).push {cls:=.type "enumerate",data:=.fields #[.none,.bool ba,.ref s.heap.objs.size,rawInt 0,.none,.none]}}):=by
 refine .of_wp λprog w A R s h=>?_;obtain⟨i,g,d,tk,os⟩:=s;obtain⟨b,h⟩:=h;have k:=sub_enumerate;have e:Heap.IsTuple (Qd ⟨i,g,d,tk,os⟩) a items:=⟨_,b,rfl,n,rfl⟩;wp_walk using Bw b
 refine wpAny_stack_any λst=>As ?_;split
 ·rename_i c _ _ _ _ _
  cases (c==Kg "enumerate")<;>(wp_walk using Bw b,Hi e;exact⟨_,rfl,h⟩)
 ·wp_walk using Bw b,Hi e
  exact⟨_,rfl,h⟩
def CJ{prog:Bh}{w:Sm}{A:Dh}{E:Se->Ah->Prop}{s:Ah}{a:Sf}{items:Array Se}{tup:Bool}{Q:Se->Ah->Prop}(d:OE tup s.heap a items)(h:∀h',IsEnum h' (s.heap.objs.size+1) s.heap.objs.size 0 .none->TC tup h' s.heap.objs.size a 0->(∀b o,s.heap.get? b=b0 o->h'.get? b=b0 o)->Q (.ref (s.heap.objs.size+1)) {s with heap:=h'}):Sg (Sk prog w) A (call (.type "enumerate") [.ref a]) Q E s:=by
 cases tup with
 |false=>exact call_enumerate_list d λh' l k _ a4=>h h' l k a4
 |true=>
  obtain⟨⟨j,i,g,e⟩,f,hc,n,hd⟩:=d;replace hc:j=.type "tuple":=hc
  replace hd:g=.seq items n:=hd
  subst hc hd;have hz:(s.heap.push {cls:=.type "tuple_iterator",data:=.fields #[.ref a,.int 0 0]}).objs.size=s.heap.objs.size+1:=Ee ..;refine callType_new F.called_enumerate (by decide) (F.typeCall_enumerate_1 _) (F.newCall_enumerate_1 _) (λobj=>F.args_object_init_2 obj _) F.entry_enumerate_new (fJ a items n i e) ⟨f,?_⟩;show _/\_;rw[hz];have c:=Ax (s.heap.push {cls:=.type "tuple_iterator",data:=.fields #[.ref a,.int 0 0]}) (o:={cls:=.type "enumerate",data:=.fields #[.none,.bool ba,.ref s.heap.objs.size,rawInt 0,.none,.none]}) rfl;rw[hz]at c;exact⟨⟨_,c,rfl⟩,h _ c ⟨_,Ad _ (Ax _ rfl),rfl,rfl⟩ λb o x=>Ad _ (Ad _ x)⟩
def GO:Bj "enumerate"=b0 (.type "enumerate"):=by decide+kernel
def ko:Bj "zip"=b0 (.type "zip"):=by decide+kernel
section
variable{X:Cx}{K:Ao}{ml:List Nat}{l:Sj}{pu:Bool}{f:VF}{p pos c9:Pos}{es:List Sj}{tk:Nat}{δ:Ev}
def iEnu(K:Ao)(tl:TE):TI:=λσ H R=>tl σ H λx H1=>∃a tup,x=.ref a/\(∃xs,IC K tup H1 a xs)/\R (Ite K tup a) H1
def iK{tl:TE}(r:Gl X "enumerate")(q:X.mg "enumerate"=b3)(hl:PE X l tl)(k:SE X l []:=by rfl):PI X (.Tuple es tk c9) (.Call (.Name "enumerate" p) [l] [] pos) (iEnu X.K tl):=by
 intro aa s σ H R I h;refine Fi (QF I r q GO ?_ (by decide) (by decide));refine Ek (Y7 (bL hl ZU k pos aa s σ H (λvs H1=>match vs with
  |[x]=>∃a tup,x=.ref a/\(∃xs,IC X.K tup H1 a xs)/\R (Ite X.K tup a) H1
  |_=>False) I h) λus s1 ⟨vs,H1,f,g,q1⟩=>?_) k (by rfl)
 match vs,g,q1 with
 |[x],g,q1=>
  obtain⟨a,tup,rfl,⟨xs,n⟩,t⟩:=q1;obtain⟨u,rfl,m⟩:=UR g;cases m;obtain⟨its,w,c,_⟩:=f.srcA n;refine CJ c λh' d i kp=>?_;have v:bP X aa σ H1 {s1 with heap:=h'}:=f.kept (t':=s1.toks) kp;have o:∀b,s1.heap.objs.size<=b->H1 b=b3:=λb j=>f.hok.fresh j;refine Oj d ⟨s1.heap.objs.size+1,[s1.heap.objs.size+1,s1.heap.objs.size],_,Ite X.K tup a,H1,rfl,v,iM tup a (s1.heap.objs.size+1) s1.heap.objs.size (Nat.succ_ne_self _) (λz=>?_) (λz=>?_),⟨⟨_,d⟩,i⟩,λb j=>?_,t⟩
  ·have:=c.lt
   rw[z]at this;exact absurd this (Nat.not_lt_of_le (Gk _))
  ·have:=c.lt
   rw[z]at this;exact absurd this (Cp _)
  ·have e:s1.heap.objs.size<=b:=by
    rcases Aj.mp j with z|z
    ·rw[z];exact Gk _
    ·rw[An.mp z];exact Au _
   exact f.fpOk e (o b e)
def Ze(h:X.K=K){tl:TE}(b:Gl X "enumerate")(a:X.mg "enumerate"=b3)(hl:PE X l tl)(c:SE X l []:=by rfl):PI X (.Tuple es tk c9) (.Call (.Name "enumerate" p) [l] [] pos) (iEnu K tl):=by subst h;exact iK b a hl c
noncomputable def Y6:Nat->List cM->List cM
 |_,[]=>[]
 |i,d::ds=>.tup [.int i,d]::Y6 (i+1) ds
def OQ(f:VF):VI:=λδ=>(f δ).bind λp=>(WM p.1).map λds=>(Y6 0 ds,p.2)
theorem KQ:∀{ds:List cM}{n i:Nat}{d:cM},(Y6 n ds)[i]?=b0 d->∃x,ds[i]?=b0 x/\d=.tup [.int (n+i:Nat),x]
 |[],_,_,_,h=>by simp[Y6]at h
 |x::ds,n,0,d,h=>by simp[Y6]at h;exact⟨x,rfl,h.symm⟩
 |x::ds,n,i+1,d,h=>by
  have h:(Y6 (n+1) ds)[i]?=b0 d:=by simpa[Y6]using h
  obtain⟨y,h1,h2⟩:=KQ h;exact⟨y,by simpa using h1,by rw[h2,show n+1+i=n+(i+1) by lia]⟩
theorem KR:∀(ds:List cM) (n:Nat),(Y6 n ds).length=ds.length
 |[],_=>rfl
 |_::ds,n=>congrArg (· +1) (KR ds (n+1))
def J4{a:Sf}{tup:Bool}{ds:List cM}:Walk K (Ite K tup a) [(.ref a,if tup=b5 then .tup ds else .lst ds)] (Y6 0 ds):=by
 intro N H h;have r:=h _ (An.mpr rfl);have b:∀xs,IC K tup H a xs->bT K N H xs ds->(∀(i:Nat) (d:cM),(Y6 0 ds)[i]?=b0 d->(Ite K tup a).go i H/\∀x H',(Ite K tup a).yld i H x H'->aD H H'/\aU K N H' N x d)/\(Ite K tup a).stop (Y6 0 ds).length H:=λxs sq r=>by
  refine⟨λi d e=>?_,xs,sq,by rw[r.length,KR]⟩;obtain⟨z,l,rfl⟩:=KQ e;obtain⟨x,f,g⟩:=r.get l;refine⟨⟨xs,x,sq,f⟩,λy H' j=>?_⟩;obtain⟨p,m,k,c,rfl,rfl⟩:=j;have:=k xs sq
  rw[f]at this;cases this;refine⟨cD c,.tup (UV.of bU) (.cons ?_ (.cons (g.same (cD c)) .nil))⟩;rw[Jx];exact .int _
 cases tup with
 |true=>
  have r:aU K N H N (.ref a) (.tup ds):=r;cases r.onT with
  |tup sq r=>exact b _ sq r
 |false=>
  have r:aU K N H N (.ref a) (.lst ds):=r;cases r.onL with
  |lst q n r=>exact b _ (W7.of q) r
  |fzm q r=>exact b _ q.sq r
def PN(m:X.K=K)(i:Gl X "enumerate")(g:X.mg "enumerate"=b3)(h:PE X l (TV K ml pu b5 b5 f))(j:SE X l []:=by rfl):
  PI X (.Tuple es tk c9) (.Call (.Name "enumerate" p) [l] [] pos) (TIV K ml pu (OQ f)):=(Ze (K:=K) m i g h j).imp λσ H R d=>by
 obtain⟨B,O,δ,ds,δ',S,q,k⟩:=d;unfold OQ at q;obtain⟨⟨x,δ1⟩,h1,q⟩:=Aa.mp q;refine⟨B,O,δ,x,δ1,S,h1,λv H1 b=>?_⟩;cases x with
 |lst c=>
  cases q;obtain⟨a,xs,rfl,sq,r⟩:=b.rep.lstE;exact⟨a,ba,rfl,⟨xs,sq⟩,k _ [(.ref a,.lst c)] H1 (b.sta.keepV λp e=>by rw[An.mp e];exact b.rep) b.frm b.pur (J4 (tup:=ba))⟩
 |tup c=>
  cases q;obtain⟨a,xs,rfl,sq,r⟩:=b.rep.tupE;exact⟨a,b5,rfl,⟨xs,sq⟩,k _ [(.ref a,.tup c)] H1 (b.sta.keepV λp e=>by rw[An.mp e];exact b.rep) b.frm b.pur (J4 (tup:=b5))⟩
 |_=>cases q
end
section
variable{prog:Bh}{w:Sm}{A:Dh}{E:Se->Ah->Prop}{s:Ah}
def TC.ext{tup:Bool}{h h':Sq}{it a b:Sf}{i:Nat}(x:TC tup h it a i)(d:Jm b h h')(c:it≠b):TC tup h' it a i:=x.at λo e=>d _ _ c e
def OE.ext{tup:Bool}{h h':Sq}{a b:Sf}{xs:Array Se}(x:OE tup h a xs)(d:Jm b h h')(c:a≠b):OE tup h' a xs:=by
 cases tup with
 |true=>obtain⟨o,e,r⟩:=x;exact⟨o,d _ _ c e,r⟩
 |false=>obtain⟨o,e,r⟩:=x;exact⟨o,d _ _ c e,r⟩
def QH{tup:Bool}{it a:Sf}{i:Nat}{xs:Array Se}{x:Se}{Q:Se->Ah->Prop}(hi:TC tup s.heap it a i)(c:OE tup s.heap a xs)(b:xs[i]?=b0 x)(d:∀h',TC tup h' it a (i+1)->Fw it s.heap h'->Q x {s with heap:=h'}):Sg (Sk prog w) A (Cc (.ref it)) Q E s:=by
 cases tup with
 |true=>exact QS hi c b d
 |false=>exact wpAny_nextOf_list_item hi c b d
def JH{tup:Bool}{it a:Sf}{i:Nat}{xs:Array Se}{Q:Se->Ah->Prop}(d:A.handled=b3)(hi:TC tup s.heap it a i)(c:OE tup s.heap a xs)(b:xs[i]?=b3)(f:∀h' e,Jm it s.heap h'->(∃o,h'.get? e=b0 o/\o.cls=.type "StopIteration")->E (.ref e) {s with heap:=h'}):Sg (Sk prog w) A (Cc (.ref it)) Q E s:=by
 cases tup with
 |true=>exact OW d hi c b f
 |false=>exact wpAny_nextOf_list_end d hi c b f
structure ZSt(t1 t2:Bool)(h:Sq)(z p q i1 i2 a b:Sf)(k:Nat)(f0:Se):Prop where
 zip:IsZip h z p q f0
 its:IsPair h p (.ref i1) (.ref i2)
 res:∃u v,IsPair h q u v
 one:TC t1 h i1 a k
 two:TC t2 h i2 b k
def jm{H G:Bool}{z p q f e a b:Sf}{k:Nat}{xs ys:Array Se}{x y:Se}{Q:Se->Ah->Prop}(D:Mh z p q f e a b)(S:ZSt H G s.heap z p q f e a b k .none)(s1:OE H s.heap a xs)(Z:OE G s.heap b ys)(hx:xs[k]?=b0 x)(hy:ys[k]?=b0 y)(hQ:∀h',ZSt H G h' z p q f e a b (k+1) (rawInt s.heap.objs.size)->IsPair h' s.heap.objs.size x y->h'.objs.size=s.heap.objs.size+1->(∀c o,c≠z->c≠q->c≠f->c≠e->s.heap.get? c=b0 o->h'.get? c=b0 o)->Q (.ref s.heap.objs.size) {s with heap:=h'}):Sg (Sk prog w) A (Fo.«zip.__next__» ⟨[.ref z],[]⟩) (λN s'=>∃v,N=.done (.ret v)/\Q v s') E s:=by
 obtain⟨t,X,⟨u,v,gr⟩,g1,g2⟩:=S;show Sg _ _ (field (Bq z) 2>>=_) _ _ _;refine Ac (Em t rfl (x:=.bool ba) rfl ?_);show Sg _ _ (field (Bq z) 3>>=_) _ _ _;refine Ac (Em t rfl (x:=.ref p) rfl (Ac (Fd X rfl ?_)));show Sg _ _ (Dy (Bq z)>>=_) _ _ _;refine Ac ?_
 (unfold Dy)
 refine Ac (Em t rfl (x:=.none) rfl (As ?_));simp only[if_true];refine Ac (Hy (Ac (Em t rfl (x:=.ref q) rfl (Ac (Fj t (by simp) λha L i=>Ac ?_)))));have L:IsZip ha z p q .ellipsis:=L;simp only[Qe,Pg,Mp,Jl];refine Ac (Ac (Ky ?_));show Sg _ _ (Cc (Bq f)>>=_) _ _ _;refine Ac (QH (g1.ext i.extBut D.i1z) (s1.ext i.extBut D.l1z) hx λhb n1 l=>As ?_);have V:IsPair hb q u v:=l.extBut _ _ D.TOi1 (i.extBut _ _ D.TOz gr);refine Ac (Fd V rfl (Ac (Ix V λhc M j=>Ac (Nb (As ?_)))));have M:IsPair hc q x v:=M;refine Ac (Ac (Ky ?_));show Sg _ _ (Cc (Bq e)>>=_) _ _ _;refine Ac (QH (((g2.ext i.extBut D.i2z).ext l.extBut D.i12.symm).ext j.extBut D.TOi2.symm) (((Z.ext i.extBut D.l2z).ext l.extBut D.l2i1).ext j.extBut D.l2TO) hy λhd n2 C=>As ?_);have U:IsPair hd q x v:=C.extBut _ _ D.TOi2 M;refine Ac (Fd U rfl (Ac (Ix U λd I B=>Ac (Nb (As (As ?_))))));have I:IsPair d q x y:=I;refine Ac (Fd I rfl (Ac (wpAny_newTuple ?_)));have size:d.objs.size=s.heap.objs.size:=by rw[B.1,C.1,j.1,l.1,i.1]
 have T:IsZip d z p q .ellipsis:=B.extBut _ _ D.TOz.symm (C.extBut _ _ D.i2z.symm (j.extBut _ _ D.TOz.symm (l.extBut _ _ D.i1z.symm L)));have W:∀c o,c≠z->c≠q->c≠f->c≠e->s.heap.get? c=b0 o->d.get? c=b0 o:=λc o h J P O g=>B.extBut _ _ J (C.extBut _ _ O (j.extBut _ _ J (l.extBut _ _ P (i.extBut _ _ h g))));have e1:TC H d f a (k+1):=((n1.ext j.extBut D.TOi1.symm).ext C.extBut D.i12).ext B.extBut D.TOi1.symm;have e2:TC G d e b (k+1):=n2.ext B.extBut D.TOi2.symm;have ie:IsPair d p (.ref f) (.ref e):=W _ _ D.TIz D.TITO D.TIi1 D.TIi2 X;have m:z<d.objs.size:=Av T;show Sg _ _ (Gx (Bq z) (.ref d.objs.size)>>=_) _ _ _;refine Ac ?_
 (unfold Gx)
 have Y:IsZip (d.push {cls:=.type "tuple",data:=.seq #[x,y]}) z p q .ellipsis:=Ad _ T;refine Ac (Fj Y (by simp) λhg K R=>?_);have K:IsZip hg z p q (rawInt d.objs.size):=K;refine Fj K (by simp) λhk F bk=>?_;have F:IsZip hk z p q (rawInt d.objs.size):=F;have n:∀c o,c≠z->d.get? c=b0 o->hk.get? c=b0 o:=λc o h g=>bk.extBut _ _ h (R.extBut _ _ h (Ad _ g));have tk:IsPair hk d.objs.size x y:=bk.extBut _ _ (Hc m) (R.extBut _ _ (Hc m) (Ax _ rfl));have r:hk.objs.size=d.objs.size+1:=by rw[bk.1,R.1,Ee]
 rw[size]at F tk r;refine As ⟨_,rfl,?_⟩;show Q (.ref d.objs.size) _;rw[size];exact hQ hk ⟨F,n _ _ D.TIz ie,⟨x,y,n _ _ D.TOz I⟩,e1.at λo g=>n _ o D.i1z g,e2.at λo g=>n _ o D.i2z g⟩ tk r λc o h J P O g=>n c o h (W c o h J P O g)
def fG{K J:Bool}{z p q t r a b:Sf}{k:Nat}{xs ys:Array Se}{Q:Fin->Ah->Prop}(M:A.handled=b3)(D:Mh z p q t r a b)(S:ZSt K J s.heap z p q t r a b k .none)(s1:OE K s.heap a xs)(T:OE J s.heap b ys)(d9:xs[k]?=b3∨ys[k]?=b3)(N:∀h' e,(∀c o,c≠z->c≠q->c≠t->c≠r->s.heap.get? c=b0 o->h'.get? c=b0 o)->(∃o,h'.get? e=b0 o/\o.cls=.type "StopIteration")->E (.ref e) {s with heap:=h'}):Sg (Sk prog w) A (Fo.«zip.__next__» ⟨[.ref z],[]⟩) Q E s:=by
 obtain⟨j,Y,⟨u,v,X⟩,O,Z⟩:=S;show Sg _ _ (field (Bq z) 2>>=_) _ _ _;refine Ac (Em j rfl (x:=.bool ba) rfl ?_);show Sg _ _ (field (Bq z) 3>>=_) _ _ _;refine Ac (Em j rfl (x:=.ref p) rfl (Ac (Fd Y rfl ?_)));show Sg _ _ (Dy (Bq z)>>=_) _ _ _;refine Ac ?_
 (unfold Dy)
 refine Ac (Em j rfl (x:=.none) rfl (As ?_));simp only[if_true];refine Ac (Hy (Ac (Em j rfl (x:=.ref q) rfl (Ac (Fj j (by simp) λW n d=>Ac ?_)))));have n:IsZip W z p q .ellipsis:=n;simp only[Qe,Pg,Mp,Jl];refine Ac (Ac (Ky ?_));show Sg _ _ (Cc (Bq t)>>=_) _ _ _;cases C:xs[k]? with
 |none=>
  refine Ac (JH M (O.ext d.extBut D.i1z) (s1.ext d.extBut D.l1z) C λF e f ⟨y,h,l⟩=>?_);have I:IsZip F z p q .ellipsis:=f _ _ D.i1z.symm n;have B:e≠z:=λw=>by subst w;rw[I]at h;cases h;simp at l
  exact Fj I (by simp) λhc _ i=>N hc e (λc o m _ G _ g=>i.extBut _ _ m (f _ _ G (d.extBut _ _ m g))) ⟨y,i.extBut _ _ B h,l⟩
 |some x=>
  have U:ys[k]?=b3:=d9.resolve_left λw=>by rw[C]at w;cases w
  refine Ac (QH (O.ext d.extBut D.i1z) (s1.ext d.extBut D.l1z) C λF n1 f=>As ?_);have L:IsPair F q u v:=f.extBut _ _ D.TOi1 (d.extBut _ _ D.TOz X);refine Ac (Fd L rfl (Ac (Ix L λhc rc i=>Ac (Nb (As (Ac (Ac (Ky ?_))))))));show Sg _ _ (Cc (Bq r)>>=_) _ _ _;refine Ac (JH M (((Z.ext d.extBut D.i2z).ext f.extBut D.i12.symm).ext i.extBut D.TOi2.symm) (((T.ext d.extBut D.l2z).ext f.extBut D.l2i1).ext i.extBut D.l2TO) U λhd e R ⟨y,h,l⟩=>?_);have H:IsZip hd z p q .ellipsis:=R _ _ D.i2z.symm (i.extBut _ _ D.TOz.symm (f.extBut _ _ D.i1z.symm n));have B:e≠z:=λw=>by subst w;rw[H]at h;cases h;simp at l
  exact Fj H (by simp) λV _ P=>N V e (λc o m c2 G c4 g=>P.extBut _ _ m (R _ _ c4 (i.extBut _ _ c2 (f.extBut _ _ G (d.extBut _ _ m g))))) ⟨y,P.extBut _ _ B h,l⟩
def C0{g f:Bool}{z p q e d a b:Sf}{k:Nat}{xs ys:Array Se}{x y:Se}{Q:Option Se->Ah->Prop}(D:Mh z p q e d a b)(S:ZSt g f s.heap z p q e d a b k .none)(s1:OE g s.heap a xs)(h:OE f s.heap b ys)(j:xs[k]?=b0 x)(i:ys[k]?=b0 y)(l:∀h',ZSt g f h' z p q e d a b (k+1) (rawInt s.heap.objs.size)->IsPair h' s.heap.objs.size x y->h'.objs.size=s.heap.objs.size+1->(∀c o,c≠z->c≠q->c≠e->c≠d->s.heap.get? c=b0 o->h'.get? c=b0 o)->Q (b0 (.ref s.heap.objs.size)) {s with heap:=h'}):Sg (Sk prog w) A (pyNext (.ref z)) Q E s:=by
 have ty:s.TypeIs (.ref z) "zip":=⟨_,S.zip,rfl⟩
 (unfold pyNext)
 exact Ac (Np (Cw (name:=Bk "__next__") ty Jp (Eo Jp ty Ph (jm D S s1 h j i λh' r n m a4=>As (l h' r n m a4)) (Ol _))))
def gX{h g:Bool}{z p q f d a b:Sf}{k:Nat}{xs ys:Array Se}{Q:Option Se->Ah->Prop}(l:A.handled=b3)(D:Mh z p q f d a b)(S:ZSt h g s.heap z p q f d a b k .none)(s1:OE h s.heap a xs)(i:OE g s.heap b ys)(r:xs[k]?=b3∨ys[k]?=b3)(m:∀h',(∀c o,c≠z->c≠q->c≠f->c≠d->s.heap.get? c=b0 o->h'.get? c=b0 o)->Q b3 {s with heap:=h'}):Sg (Sk prog w) A (pyNext (.ref z)) Q E s:=by
 have ty:s.TypeIs (.ref z) "zip":=⟨_,S.zip,rfl⟩
 (unfold pyNext)
 refine Ac (Np (Cw (name:=Bk "__next__") ty Jp (Eo Jp ty Ph (fG l D S s1 i r λh' e j ⟨o,n,t⟩=>?_) (Ol _))));exact Ac (wpAny_isInstance (T:= "StopIteration") (b:=b5) ⟨o,n,t⟩ isSubtype_stop (As (m _ j)))
end
def gQ(tup:Bool):String:=if tup=b5 then "tuple_iterator" else "list_iterator"
noncomputable abbrev zO(tup:Bool)(a:Sf):Sr:={cls:=.type (gQ tup),data:=.fields #[.ref a,.int 0 0]}
def Xk{prog:Bh}{w:Sm}{A:Dh}{E:Se->Ah->Prop}{s:Ah}{tup:Bool}{a:Sf}{xs:Array Se}{Q:Se->Ah->Prop}(h:OE tup s.heap a xs)(b:Q (.ref s.heap.objs.size) {s with heap:=s.heap.push (zO tup a)}):Sg (Sk prog w) A (pyIter (.ref a)) Q E s:=by
 cases tup with
 |true=>exact Hi h b
 |false=>exact Gp h b
def OE.push{tup:Bool}{h:Sq}{a:Sf}{xs:Array Se}(x:OE tup h a xs)(o:Sr):OE tup (h.push o) a xs:=by
 cases tup with
 |true=>obtain⟨o,e,r⟩:=x;exact⟨o,Ad _ e,r⟩
 |false=>obtain⟨o,e,r⟩:=x;exact⟨o,Ad _ e,r⟩
def kO(c e:Bool)(a b:Sf)(xs ys:Array Se):Meets (Fo.«zip.__new__» ⟨[.type "zip",.ref a,.ref b],[]⟩) (λ_ R s=>OE c s.heap a xs/\OE e s.heap b ys/\∀h1 h2 i f k,h1=s.heap.push (zO c a)->h2=h1.push (zO e b)->i=h2.push {cls:=.type "tuple",data:=.seq #[.ref s.heap.objs.size,.ref h1.objs.size]}->f=i.push {cls:=.type "tuple",data:=.seq #[.none,.none]}->k=f.push {cls:=.type "zip",data:=.fields #[.none,.bool ba,.bool ba,.ref h2.objs.size,.ref i.objs.size]}->R (.ok (.ret (.ref f.objs.size))) {s with heap:=k}):=by
 refine .of_wp λprog w A R s h=>?_;obtain⟨j,g,d,tk,os⟩:=s;obtain⟨o,n,h⟩:=h;have p:=sub_zip;have m:OE c (Qd ⟨j,g,d,tk,os⟩) a xs:=o;have l:OE e (Qd ⟨j.push (zO c a),g,d,tk,os⟩) b ys:=OE.push n _;wp_walk using Xk m,Xk l
 exact⟨_,rfl,h _ _ _ _ _ rfl rfl rfl rfl rfl⟩
def dW{prog:Bh}{w:Sm}{A:Dh}{E:Se->Ah->Prop}{s:Ah}{f e:Bool}{a b:Sf}{xs ys:Array Se}{Q:Se->Ah->Prop}(K:OE f s.heap a xs)(J:OE e s.heap b ys)(h:∀h',ZSt f e h' (s.heap.objs.size+4) (s.heap.objs.size+2) (s.heap.objs.size+3) s.heap.objs.size (s.heap.objs.size+1) a b 0 .none->(∀c o,s.heap.get? c=b0 o->h'.get? c=b0 o)->Q (.ref (s.heap.objs.size+4)) {s with heap:=h'}):Sg (Sk prog w) A (call (.type "zip") [.ref a,.ref b]) Q E s:=by
 refine callType_new F.called_zip (by decide) (F.typeCall_zip_2 _ _) (F.newCall_zip_2 _ _) (λobj=>F.args_object_init_3 obj _ _) F.entry_zip_new (kO f e a b xs ys) ⟨K,J,?_⟩;rintro h1 h2 g n d u t r p H;have k:h1.objs.size=s.heap.objs.size+1:=by rw[u,Ee]
 have j:h2.objs.size=s.heap.objs.size+2:=by rw[t,Ee,k]
 have i:g.objs.size=s.heap.objs.size+3:=by rw[r,Ee,j]
 have v:n.objs.size=s.heap.objs.size+4:=by rw[p,Ee,i]
 have x:∀c o,n.get? c=b0 o->d.get? c=b0 o:=λc o q=>by rw[H];exact Ad _ q
 have y:∀c o,g.get? c=b0 o->d.get? c=b0 o:=λc o q=>x c o (by rw[p];exact Ad _ q);have z:∀c o,h2.get? c=b0 o->d.get? c=b0 o:=λc o q=>y c o (by rw[r];exact Ad _ q);have B:∀c o,h1.get? c=b0 o->d.get? c=b0 o:=λc o q=>z c o (by rw[t];exact Ad _ q);have I:∀c o,s.heap.get? c=b0 o->d.get? c=b0 o:=λc o q=>B c o (by rw[u];exact Ad _ q);have l:d.get? n.objs.size=b0 {cls:=.type "zip",data:=.fields #[.none,.bool ba,.bool ba,.ref h2.objs.size,.ref g.objs.size]}:=by rw[H];exact Ax _ rfl
 have C:d.get? g.objs.size=b0 {cls:=.type "tuple",data:=.seq #[.none,.none]}:=x _ _ (by rw[p];exact Ax _ rfl);have D:d.get? h2.objs.size=b0 {cls:=.type "tuple",data:=.seq #[.ref s.heap.objs.size,.ref h1.objs.size]}:=y _ _ (by rw[r];exact Ax _ rfl);have m:d.get? h1.objs.size=b0 (zO e b):=z _ _ (by rw[t];exact Ax _ rfl);have G:d.get? s.heap.objs.size=b0 (zO f a):=B _ _ (by rw[u];exact Ax _ rfl);show _/\_;rw[j,i,v]at l;rw[i]at C;rw[k,j]at D;rw[k]at m;rw[v];refine⟨⟨_,l,rfl⟩,h _ ⟨l,D,⟨_,_,C⟩,?_,?_⟩ I⟩
 ·cases f with
  |true=>exact⟨_,G,rfl,rfl⟩
  |false=>exact⟨_,G,rfl,rfl⟩
 ·cases e with
  |true=>exact⟨_,m,rfl,rfl⟩
  |false=>exact⟨_,m,rfl,rfl⟩
def Zw(n a b:Nat)(d:a<n)(c:b<n):Mh (n+4) (n+2) (n+3) n (n+1) a b:=by
 have f:∀x y:Nat,x<y∨y<x->x≠y:=λx y h=>by lia
 exact⟨f _ _ (by lia),f _ _ (by lia),f _ _ (by lia),f _ _ (by lia),f _ _ (by lia),f _ _ (by lia),f _ _ (by lia),f _ _ (by lia),f _ _ (by lia),f _ _ (by lia),f _ _ (by lia),f _ _ (by lia),f _ _ (by lia),f _ _ (by lia),f _ _ (by lia),f _ _ (by lia),f _ _ (by lia),f _ _ (by lia)⟩
def Itz(K:Ao)(d c:Bool)(a b:Sf):It:=
  ⟨λi H=>∃xs ys x y,IC K d H a xs/\IC K c H b ys/\xs[i]?=b0 x/\ys[i]?=b0 y,λi H v H'=>∃p x y,(∀xs,IC K d H a xs->xs[i]?=b0 x)/\(∀ys,IC K c H b ys->ys[i]?=b0 y)/\H p=b3/\H'=aG H p (.tup [x,y])/\v=.ref p,λi H=>∃xs ys,IC K d H a xs/\IC K c H b ys/\(xs.length<=i∨ys.length<=i)⟩
def cZ{P:Bh}{w:Sm}{K:Ao}{es:List Sj}{k:Nat}{pos:Pos}(F C:Bool)(z p q l j a b:Sf)(D:Mh z p q l j a b):
  CB P w K (.Tuple es k pos) (Itz K F C a b) [z,p,q,l,j] z (λi h=>ZSt F C h z p q l j a b i .none) where
 mem:=by simp
 obj:=λi h st c hc=>by
  simp only[Aj,Az,or_false]at hc;rcases hc with rfl|rfl|rfl|rfl|rfl
  ·exact⟨_,st.zip,λv e=>by cases e⟩
  ·exact⟨_,st.its,λv e=>by cases e⟩
  ·obtain⟨u,v,g⟩:=st.res
   exact⟨_,g,λv e=>by cases e⟩
  ·exact st.one.obj
  ·exact st.two.obj
 keep:=λi h h' st t=>by obtain⟨u,v,g⟩:=st.res;exact⟨t z (by simp) _ st.zip,t p (by simp) _ st.its,⟨u,v,t q (by simp) _ g⟩,st.one.at λo e=>t l (by simp) o e,st.two.at λo e=>t j (by simp) o e⟩
 item:=by
  intro X O hw Q hc i aa s σ H E I A st M;subst O hw Q;obtain⟨xs,ys,x,y,n,m,U,T⟩:=M;obtain⟨us,L,S,_⟩:=I.srcA n;obtain⟨vs,J,R,_⟩:=I.srcA m;obtain⟨u,hu,ru⟩:=L.get U;obtain⟨v,hv,Z⟩:=J.get T;refine C0 D st S R (by simpa using hu) (by simpa using hv) λh1 f hp hsz hk=>⟨_,rfl,?_⟩;refine wpAny_letOwnedTupleGo_zip (s:={s with heap:=h1}) f.zip λh2 V G=>?_;have G:Fw z h1 h2:=G;have lt:∀c∈[z,p,q,l,j],c<s.heap.objs.size:=λc hc=>by
   simp only[Aj,Az,or_false]at hc;rcases hc with rfl|rfl|rfl|rfl|rfl
   ·exact Av st.zip
   ·exact Av st.its
   ·obtain⟨u,v,g⟩:=st.res
    exact Av g
   ·obtain⟨o,e,_⟩:=st.one.obj
    exact Av e
   ·obtain⟨o,e,_⟩:=st.two.obj
    exact Av e
  have r:∀c o,c≠z->h1.get? c=b0 o->h2.get? c=b0 o:=λc o N e=>(G.2 c N).trans e;have d:ZSt F C h2 z p q l j a b (i+1) .none:=by obtain⟨Y,W,g⟩:=f.res;exact⟨V,r _ _ D.TIz f.its,⟨Y,W,r _ _ D.TOz g⟩,f.one.at λo e=>r _ o D.i1z e,f.two.at λo e=>r _ o D.i2z e⟩
  have cj:h2.get? s.heap.objs.size=b0 {cls:=.type "tuple",data:=.seq #[u,v]}:=r _ _ (Hc (lt z (by simp))) hp;have bm:H s.heap.objs.size=b3:=I.hok.fresh (Au _);have I0:bP X aa σ (aG H s.heap.objs.size (.tup [x,y])) {s with heap:=s.heap.push {cls:=.type "tuple",data:=.seq #[u,v]},toks:=s.toks}:=
   I.laid (λc o e=>Ad _ e) (Au _) ⟨by show 2<=sizeLine;decide,[u,v],.cons ru (.cons Z .nil),Kh _ _⟩
  have I1:bP X aa σ (aG H s.heap.objs.size (.tup [x,y])) {s with heap:=h2,toks:=s.toks}:=by
   refine bP.turnedL (s:={s with heap:=s.heap.push {cls:=.type "tuple",data:=.seq #[u,v]},toks:=s.toks}) (h':=h2) (t':=s.toks) (fp:=[z,p,q,l,j]) I0 (λc o hc e=>?_) (λc hc=>?_) λc hc=>⟨by rw[bC (Bn (lt c hc))];exact(A c hc).1,(A c hc).2⟩
   ·by_cases B:c=s.heap.objs.size
    ·subst B
     have e:(s.heap.push {cls:=.type "tuple",data:=.seq #[u,v]}).get? s.heap.objs.size=b0 o:=e;rw[Ax _ rfl]at e;cases e;exact cj
    ·have e':=(Ih _ _ _ B).symm.trans e
     exact r c o (λw=>hc (by simp[w])) (hk c o (λw=>hc (by simp[w])) (λw=>hc (by simp[w])) (λw=>hc (by simp[w])) (λw=>hc (by simp[w])) e')
   ·simp only[Aj,Az,or_false]at hc
    rcases hc with rfl|rfl|rfl|rfl|rfl
    ·exact⟨_,d.zip⟩
    ·exact⟨_,d.its⟩
    ·obtain⟨u,v,g⟩:=d.res
     exact⟨_,g⟩
    ·obtain⟨o,e,_⟩:=d.one.obj
     exact⟨o,e⟩
    ·obtain⟨o,e,_⟩:=d.two.obj
     exact⟨o,e⟩
  exact⟨.ref s.heap.objs.size,_,I1,rfl,⟨_,x,y,λzs hz=>by rw[I.sq_inj hz n];exact U,λzs hz=>by rw[I.sq_inj hz m];exact T,bm,rfl,rfl⟩,d,λc hc=>by rw[bC (Bn (lt c hc))];exact(A c hc).1⟩
 done:=by
  intro X O hw Q hc i aa s σ H E I A st M;subst O hw Q;obtain⟨xs,ys,n,m,d9⟩:=M;obtain⟨us,L,S,_⟩:=I.srcA n;obtain⟨vs,J,R,_⟩:=I.srcA m;have l1:=L.length;have l2:=J.length;have he:us.toArray[i]?=b3∨vs.toArray[i]?=b3:=by
   rcases d9 with z|z
   ·exact .inl (by simp;lia)
   ·exact .inr (by simp;lia)
  refine gX (I.ok.hd hc) D st S R he λh1 hk=>⟨rfl,?_⟩;have fq:∀c∈[z,q,l,j],c∈[z,p,q,l,j]:=λc hc=>by simp only[Aj,Az,or_false]at hc⊢;rcases hc with w|w|w|w<;>simp[w]
  have I':=bP.turnedL' (s:=s) (h':=h1) (t':=s.toks) (fp:=[z,q,l,j]) I (λc o hc e=>hk c o (λw=>hc (by simp[w])) (λw=>hc (by simp[w])) (λw=>hc (by simp[w])) (λw=>hc (by simp[w])) e) λc hc=>A c (fq c hc);exact I'
 self:=λ_ i _ _ _ st h=>wpAny_pyIter_zip st.zip h
section
variable{X:Cx}{K:Ao}{ml:List Nat}{l m:Sj}{pa ta ia pb tb ib:Bool}{f g:VF}{p pos c9:Pos}{es:List Sj}{tk:Nat}{δ:Ev}
def iZp(K:Ao)(tl e:TE):TI:=λσ H R=>tl σ H λx H1=>e σ H1 λy H2=>∃a b d c,x=.ref a/\y=.ref b/\(∃xs,IC K d H2 a xs)/\(∃ys,IC K c H2 b ys)/\R (Itz K d c a b) H2
def Yy{tl q:TE}(F:Gl X "zip")(E:X.mg "zip"=b3)(hl:PE X l tl)(C:PE X m q)(r:SE X l [m]:=by rfl)(o:SE X m []:=by rfl)(n:(Ex pos (Bb [m] X.env)).any (·.1)=ba:=by rfl):PI X (.Tuple es tk c9) (.Call (.Name "zip" p) [l,m] [] pos) (iZp X.K tl q):=by
 intro aa s σ H R I h;refine Fi (QF I F E ko ?_ (by decide) (by decide));refine Ek (Y7 (bL hl (bL C ZU o) r pos aa s σ H (λvs H1=>match vs with
  |[x,y]=>∃a b e d,x=.ref a/\y=.ref b/\(∃xs,IC X.K e H1 a xs)/\(∃ys,IC X.K d H1 b ys)/\R (Itz X.K e d a b) H1
  |_=>False) I h) λus s1 ⟨vs,H1,g,i,q1⟩=>?_) r n
 match vs,i,q1 with
 |[x,y],i,q1=>
  obtain⟨a,b,e,d,rfl,rfl,⟨xs,k⟩,⟨ys,j⟩,L⟩:=q1;obtain⟨u,v,rfl,B,A⟩:=B6 i;cases B;cases A;obtain⟨us,O,z,_⟩:=g.srcA k;obtain⟨vs,N,t,_⟩:=g.srcA j;refine dW z t λh' st kp=>?_;have M:bP X aa σ H1 {s1 with heap:=h'}:=g.kept (t':=s1.toks) kp;have J:=z.lt;have G:=t.lt;have D:Mh (s1.heap.objs.size+4) (s1.heap.objs.size+2) (s1.heap.objs.size+3) s1.heap.objs.size (s1.heap.objs.size+1) a b:=by exact Zw _ a b J G
  refine wpAny_pyIter_zip st.zip ⟨s1.heap.objs.size+4,[s1.heap.objs.size+4,s1.heap.objs.size+2,s1.heap.objs.size+3,s1.heap.objs.size,s1.heap.objs.size+1],_,Itz X.K e d a b,H1,rfl,M,cZ e d _ _ _ _ _ a b D,st,λc hc=>?_,L⟩;have f:s1.heap.objs.size<=c:=by simp only[Aj,Az,or_false]at hc;rcases hc with w|w|w|w|w<;>rw[w]<;>first|exact Ga _ _|exact Au _
  exact g.fpOk f (g.hok.fresh f)
def cR(h:X.K=K){tl c:TE}(f:Gl X "zip")(e:X.mg "zip"=b3)(hl:PE X l tl)(d:PE X m c)(g:SE X l [m]:=by rfl)(b:SE X m []:=by rfl)(a:(Ex pos (Bb [m] X.env)).any (·.1)=ba:=by rfl):PI X (.Tuple es tk c9) (.Call (.Name "zip" p) [l,m] [] pos) (iZp K tl c):=by subst h;exact Yy f e hl d g b a
noncomputable def QZ:List cM->List cM->List cM
 |d::ds,e::es=>.tup [d,e]::QZ ds es
 |_,_=>[]
def iZip(f g:VF):VI:=λδ=>(f δ).bind λp=>(g p.2).bind λq=>(WM p.1).bind λds=>(WM q.1).map λes=>(QZ ds es,q.2)
theorem GB:∀{ds es:List cM}{i:Nat}{d:cM},(QZ ds es)[i]?=b0 d->∃x y,ds[i]?=b0 x/\es[i]?=b0 y/\d=.tup [x,y]
 |[],_,_,_,h=>by simp[QZ]at h
 |_::_,[],_,_,h=>by simp[QZ]at h
 |x::ds,y::es,0,d,h=>by simp[QZ]at h;exact⟨x,y,rfl,rfl,h.symm⟩
 |x::ds,y::es,i+1,d,h=>by obtain⟨b,a,h1,h2,c⟩:=GB (ds:=ds) (es:=es) (i:=i) (d:=d) (by simpa[QZ]using h);exact⟨b,a,by simpa using h1,by simpa using h2,c⟩
theorem GC:∀{ds es:List cM},ds.length<=(QZ ds es).length∨es.length<=(QZ ds es).length
 |[],_=>.inl (Dx _)
 |_::_,[]=>.inr (Dx _)
 |x::ds,y::es=>by
  rcases GC (ds:=ds) (es:=es)with h|h
  ·exact .inl (Pj h)
  ·exact .inr (Pj h)
def jQ:cM->Bool
 |.tup _=>b5
 |_=>ba
def aU.sqA{N M:Sf->Prop}{H:Hp}{v:V}{d:cM}{ds:List cM}(h:aU K N H M v d)(e:WM d=b0 ds):∃a tup xs,v=.ref a/\IC K tup H a xs/\bT K N H xs ds/\tup=jQ d:=by
  cases d<;>first
    | (cases e
       obtain⟨a,xs,h1,h2,b⟩:=h.tupE;exact⟨a,b5,xs,h1,h2,b,rfl⟩)
    | (cases e
       obtain⟨a,xs,h1,h2,b⟩:=h.lstE;exact⟨a,ba,xs,h1,h2,b,rfl⟩)
    |cases e
def Ux(hK:X.K=K)(hg:Gl X "zip")(hm:X.mg "zip"=b3)(h:PE X l (TV K ml pa b5 b5 f))(h':PE X m (TV K ml pb b5 b5 g))(he:SE X l [m]:=by rfl)(E:SE X m []:=by rfl)
  (C:(Ex pos (Bb [m] X.env)).any (·.1)=ba:=by rfl):PI X (.Tuple es tk c9) (.Call (.Name "zip" p) [l,m] [] pos) (TIV K ml (pa&&pb) (iZip f g)):=(cR (K:=K) hK hg hm h h' he E C).imp λσ H R A=>by
 obtain⟨B,O,δ,ds,δ2,S,q,k⟩:=A;unfold iZip at q;obtain⟨⟨x,δ1⟩,h1,q⟩:=Aa.mp q;cases h2:g δ1 with
 |none=>simp[h2]at q
 |some p2=>
  obtain⟨y,r⟩:=p2;simp only[Ai,h2]at q;obtain⟨xs,Q,q⟩:=Aa.mp q;have q:(WM y).map (λes=>(QZ xs es,r))=b0 (ds,δ2):=q;obtain⟨ys,P,q⟩:=Am.mp q;cases q;refine⟨B,O,δ,x,δ1,S,h1,λt H1 o=>⟨B,O,δ1,y,_,o.sta,h2,λs H2 R2=>?_⟩⟩;have M:=o.rep.fr R2.frm (λa z=>.inr z) λa z=>.inr z;obtain⟨a,L,us,W,q1,w1,I⟩:=M.sqA Q;obtain⟨b,J,vs,V,q2,w2,G⟩:=R2.rep.sqA P;refine⟨a,b,L,J,W,V,⟨us,q1⟩,⟨vs,q2⟩,k _ [(t,x),(s,y)] H2 (R2.sta.keepV λz hz=>?_) (o.frm.trans R2.frm) (λz=>?_) ?_⟩
  ·simp only[Aj,Az,or_false]at hz
   rcases hz with rfl|rfl
   ·exact M
   ·exact R2.rep
  ·obtain⟨z1,z2⟩:=(Ag _ _).mp z
   exact(o.pur z1).trans (R2.pur z2)
  ·intro N H h
   obtain⟨a',v,j,f1,f2,f3,f4⟩:=(h (t,x) (by simp)).sqA Q;obtain⟨b',u,c,n,F,T,g4⟩:=(h (s,y) (by simp)).sqA P;have f1:t=.ref a':=f1;have n:s=.ref b':=n;rw[W]at f1;rw[V]at n;cases f1;cases n;have:v=L:=f4.trans I.symm
   subst this;have:u=J:=g4.trans G.symm
   subst this;refine⟨λi d e=>?_,j,c,f2,F,?_⟩
   ·obtain⟨dx,dy,hx,hy,rfl⟩:=GB e
    obtain⟨ux,ex,rx⟩:=f3.get hx;obtain⟨uy,U,ry⟩:=T.get hy;refine⟨⟨j,c,ux,uy,f2,F,ex,U⟩,λz H' hz=>?_⟩;obtain⟨pp,x',y',c1,c2,D,rfl,rfl⟩:=hz;have Z:=c1 j f2;have Y:=c2 c F;rw[ex]at Z;rw[U]at Y;cases Z;cases Y;exact⟨cD D,.tup (UV.of bU) (.cons (rx.same (cD D)) (.cons (ry.same (cD D)) .nil))⟩
   ·rcases GC (ds:=xs) (es:=ys)with w|w
    ·exact .inl (by rw[f3.length];exact w)
    ·exact .inr (by rw[T.length];exact w)
end
end L2
namespace L2
open PySem PySem.Spec PyProof.Rows PySem.W
section
variable{prog:Bh}{w:Sm}{A:Dh}{E:Se->Ah->Prop}{s:Ah}
def DL{t:Sf}{items:Array Se}{Q:List Se->Ah->Prop}(m:A.handled=b3)(f:IsTup s.heap t items)(h1:1<=items.size)(hz:items.size<=16777216)(n:∀(x:Se) (c:Sq) (tk:Nat),items[0]?=b0 x->(∀b o,s.heap.get? b=b0 o->c.get? b=b0 o)->Q [x,.ref c.objs.size] {s with heap:=c.push {cls:=.type "list",data:=.seq (items.toList.drop 1).toArray},toks:=tk}):Sg (Sk prog w) A (Jj (.ref t) 2 (b0 1)) Q E s:=by
 have a:t≠s.heap.objs.size:=by obtain⟨o,e,_⟩:=f;exact Bn (Av e)
 (unfold Jj)
 refine Ac ?_
 (unfold notIterableAtAll)
 refine Ac (wpAny_specialOf f.typeIs slot_tuple_iter.lookup (As ?_));simp only[Du,if_false];refine Ac (Bv (iter_tuple f (Ac (Bv (draw_tuple a 1 0 _ _ ⟨_,Ax _ rfl,rfl,rfl⟩ (f.push _) (by lia) λg ia h=>?_)))));have ta:IsTup g t items:=(f.push _).extBut h.extBut a;have ia:g.IsTupleIter s.heap.objs.size t 1:=ia;obtain⟨F,v,_⟩:=id ia;obtain⟨D,q,_⟩:=id ta;have hsz:g.objs.size=s.heap.objs.size+1:=by rw[h.1,Ee]
 have p:((items.toList.drop 0).take 1).length=1:=by simp;lia
 rw[if_neg (show¬((items.toList.drop 0).take 1).length<1 by rw[p];exact Cp _)];refine Ac (Bv (kun_collect (s:={s with heap:=g}) (T:= "tuple_iterator") (.inr (.inr (.inr rfl))) (Walks.tuple (A:=A.in1) m s.heap.objs.size t a items) (λj u st=>st.1.typeIs) (k:=1) h1 ⟨ia,ta⟩ (Av v) (Av q) (λc tk l=>?_) (by rw[Cr];exact hz)));have G:(items.toList.drop 1).length=items.size-1:=by simp
 show Sg _ _ (if(items.toList.drop 1).length<2-1-1 then _ else _) _ _ _;rw[if_neg (Qf _)];show Sg _ _ (newList ((items.toList.drop 1).take ((items.toList.drop 1).length-(2-1-1)))>>=λd=>pure ((items.toList.drop 0).take 1++[d]++(items.toList.drop 1).drop ((items.toList.drop 1).length-(2-1-1)))) _ _ _;have C:(items.toList.drop 1).take ((items.toList.drop 1).length-(2-1-1))=items.toList.drop 1:=Bx (Au _);have B:(items.toList.drop 1).drop ((items.toList.drop 1).length-(2-1-1))=[]:=Gy;rw[C,B];refine Ac (Ds (As ?_) (by show _<=sizeLine;rw[Cr];simp;lia));obtain⟨x,i⟩:∃x,items[0]?=b0 x:=⟨items[0],by simp[show 0<items.size by lia]⟩;have z:(items.toList.drop 0).take 1=[x]:=by
  rw[Mo];have:items.toList[0]?=b0 x:=by simpa using i
  cases hl:items.toList with
  |nil=>rw[hl]at this;cases this
  |cons y r=>rw[hl]at this;cases this;rfl
 rw[z];have keep:∀b o,s.heap.get? b=b0 o->c.get? b=b0 o:=λb o e=>l b o (Bn (Av e)) (h.extBut b o (Bn (Av e)) (Ad _ e));exact n x c tk i keep
end
section
variable{X:Cx}{K:Ao}{ml:List Nat}{e a b c:Sj}{es:List Sj}{pa ta ia pb tb ib pc tc ic pu bt bi ps bs:Bool}{fa fb fc f:VF}{B B':Bs}{O:Nat->Option Sf}{H H0 H1 H':Hp}{σ:St}{δ δ':Ev}{v:V}{d:cM}{p:Sf}{pos:Pos}
def fK(K:Ao)(i j:Nat):TG:=λv σ H Q=>∃a x xs,v=.ref a/\UV K H a (x::xs)/\∀p,H p=b3->Q ((σ.set i (b0 x)).set j (b0 (.ref p))) (aG H p (.lst xs))
def kl{i j:Nat}{x y:Si}{d c ps p:Pos}{k:Nat}(hc:X.calm=b5)(n:X.N.Nodup)(hi:X.N[i]?=b0 x)(E:X.N[j]?=b0 y)(A:Loc X.env.scope x)(t:Loc X.env.scope y)(G:X.fn x=b5∨X.env.scope.names.lookup x=b0 .local)(F:X.fn y=b5∨X.env.scope.names.lookup y=b0 .local)(hl:(Sh [.Name x d,.Starred (.Name y c) ps] X.env).map (·.2)=[assign (.Name x d) X.env,assign (.Name y c) X.env])(D:(Sh [.Name x d,.Starred (.Name y c) ps] X.env).length=2)(g:(Sh [.Name x d,.Starred (.Name y c) ps] X.env).findIdx? (·.1)=b0 1):PG X (.Tuple [.Name x d,.Starred (.Name y c) ps] k p) (fK X.K i j):=by
 intro aa s σ H v u Q I r hw;obtain⟨a,z,zs,J,C,q⟩:=hw;subst J;cases r;obtain⟨its,m,B,hz⟩:=I.tuple C;rw[assign_Tuple];refine Ac (Fy ?_)
 (unfold unpack)
 rw[D,g];have l:=m.length;rw[Bg]at l;have e:its.length<=16777216:=by rw[<-Cr,<-l];exact hz
 refine Ac (Bv (DL (I.ok.hd hc) B (by rw[Aq];lia) (by rw[Aq];exact e) λu h tk f kp=>?_));rw[hl];cases m with
 | @cons _ w _ ws rz b=>
  have f:b0 w=b0 u:=by simpa using f
  cases f;have o:bP X aa σ H {s with heap:=h,toks:=tk}:=I.kept kp;have O:=bP.lnew (s:={s with heap:=h,toks:=tk}) (t':=tk) o b (by rw[Cr];simp only[Bg]at e l;have:=b.length;lia);refine Ef (Hw (XN O n hi A rz (λR M=>?_) G));refine Ef (Hw (XN M n E t (v:=.ref h.objs.size) rfl (λP L=>Hx ⟨_,_,L,q _ (o.hok.fresh (Au _))⟩) F))
noncomputable def JQ(i j:Nat)(f:VF):VS:=λδ=>(f δ).bind λp=>match p.1 with
 |.tup (d::ds)=>b0 (.nx ((p.2.set i (.va d)).set j (.va (.lst ds))))
 |_=>b3
def B8{i j:Nat}{x y:Si}{g b sp h:Pos}{k:Nat}(Q:X.K=K)(hc:X.calm=b5)(P:X.N.Nodup)(hi:X.N[i]?=b0 x)(J:X.N[j]?=b0 y)(L:i≠j)(F:Loc X.env.scope x)(E:Loc X.env.scope y)(M:PE X e (TV K ml pu b5 b5 f))(t:i∉ml:=by decide)(s:j∉ml:=by decide)(U:LO X x:=by first|exact .inl rfl|exact .inr rfl|assumption)(T:LO X y:=by first|exact .inl rfl|exact .inr rfl|assumption)(hl:(Sh [.Name x g,.Starred (.Name y b) sp] X.env).map (·.2)=[assign (.Name x g) X.env,assign (.Name y b) X.env]:=by rfl)(I:(Sh [.Name x g,.Starred (.Name y b) sp] X.env).length=2:=by rfl)(m:(Sh [.Name x g,.Starred (.Name y b) sp] X.env).findIdx? (·.1)=b0 1:=by rfl)(G:Eg [.Tuple [.Name x g,.Starred (.Name y b) sp] k h] e pos.line X.env=pure ba:=by rfl)(hw:Eh [.Tuple [.Name x g,.Starred (.Name y b) sp] k h] e X.env=pure b3:=by rfl)(h1:(Sh [.Tuple [.Name x g,.Starred (.Name y b) sp] k h] X.env).map (·.2)=[assign (.Tuple [.Name x g,.Starred (.Name y b) sp] k h) X.env]:=by rfl):PS X (.Assign [.Tuple [.Name x g,.Starred (.Name y b) sp] k h] e pos) (TJ K ml (JQ i j f)):=by
 subst Q;refine(QL M (kl hc P hi J F E U T hl I m) G hw h1).imp λD σ H n=>?_;obtain⟨B,O,δ,o,S,q,k⟩:=n;unfold JQ at q;obtain⟨⟨z,δ1⟩,h1,q⟩:=Aa.mp q;refine⟨B,O,δ,z,δ1,S,h1,λv H1 R=>?_⟩;cases z with
 |tup ds=>
  cases ds with
  |nil=>cases q
  |cons d ds=>
   cases q;obtain⟨a,xs,rfl,sq,r⟩:=R.rep.tupE;cases r with
   | @cons w vs _ _ C A=>
    refine⟨a,w,vs,rfl,sq,λp l=>?_⟩;have V:=(R.sta.same (cD (o:=.lst vs) l)).setVa t (C.same (cD (o:=.lst vs) l));have u:∀c,Nn B (λj=>if j=i then b3 else O j) c->Nn B O c:=NA (o:=b3);refine k _ _ _ (V.setVa s (.lst bU (λz=>R.sta.new l (u _ z)) ((A.same (cD l)).mono u)))
 |_=>cases q
end
end L2
namespace L2
open PySem PySem.Spec PyProof.Rows
section
variable{X:Cx}{K:Ao}{ml:List Nat}{e a b c:Sj}{es:List Sj}{pa ta ia pb tb ib pc tc ic pu bt bi ps bs:Bool}{fa fb fc f:VF}{B B':Bs}{O:Nat->Option Sf}{H H0 H1 H':Hp}{σ:St}{δ δ':Ev}{v:V}{d:cM}{p:Sf}{pos:Pos}
def rInD(K:Ao)(neg:Bool):R2:=λx y H Q=>∃d e ds,Dp K H x d/\Dp K H y e/\(e=.list ds∨e=.tuple ds)/\Eu d=b5/\Eu e=b5/\Q (.bl (if neg then !ds.any (λz=>Je z d)else ds.any λz=>Je z d)) H
def PD{d:Mn}(h:Eu d=b5):d.canLay0=b5/\d.depth<=64:=by unfold Eu at h;simp only[Ag,decide_eq_true_eq]at h;exact h
def Vi(neg:Bool)(p:X.A.units+64<cLine):VY X (Di (if neg then .NotIn else .In)) (rInD X.K neg):=by
 intro aa s σ H x y v u Q I m l h;obtain⟨d,e,ds,hd,o,hk,j,i,q⟩:=h;obtain⟨as,h1⟩:=I.reads hd m;obtain⟨bs,h2⟩:=I.reads o l;obtain⟨c,r⟩:=PD j;obtain⟨g,f⟩:=PD i;have a:∀k,(k=if neg then !ds.any (λz=>Je z d)else ds.any λz=>Je z d)->EP X aa σ Q (.bool k) s:=λk hk=>by subst hk;exact⟨.bl _,H,I,rfl,q⟩
 rcases hk with rfl|rfl
 ·have hc : Ii ds = b5 := by simpa [Gc]using g
  have n:Ff ds<=63:=by simp only[Ip]at f;lia
  have b:X.A.units+1+min (Ff ds) d.depth<cLine:=by have:=Qg (Ff ds) d.depth;lia
  cases neg with
  |false=>exact SeqAt.in_list_reads h2 h1 hc c b (a _ rfl)
  |true=>exact SeqAt.notIn_list_reads h2 h1 hc c b (a _ rfl)
 ·have hc : Ii ds = b5 := by simpa [Gc]using g
  have n:Ff ds<=63:=by simp only[Ip]at f;lia
  have b:X.A.units+1+min (Ff ds) d.depth<cLine:=by have:=Qg (Ff ds) d.depth;lia
  cases neg with
  |false=>exact SeqAt.in_tuple_reads h2 h1 hc c b (a _ rfl)
  |true=>exact SeqAt.notIn_tuple_reads h2 h1 hc c b (a _ rfl)
def UH(a:X.A.units+64<cLine)(h:X.K=K:=by rfl):VY X (Di .In) (rInD K ba):=by subst h;exact Vi ba a
def RE(a:X.A.units+64<cLine)(h:X.K=K:=by rfl):VY X (Di .NotIn) (rInD K b5):=by subst h;exact Vi b5 a
def JB(d:cM)(ds:List cM):Bool:=(pds ds).any λz=>Je z d.pd
def ZS(neg:Bool)(d e:cM):Option cM:=(WM e).bind λds=>if(GF d&&GF e)=b5 then b0 (.bl (if neg then !JB d ds else JB d ds))else b3
def Y5{neg:Bool}:M0 K (rInD K neg) (ZS neg):=by
 intro H N N' M M' x y d e c Q g f h k;unfold ZS at h;obtain⟨ds,b,h⟩:=Aa.mp h;have h:(if(GF d&&GF e)=b5 then b0 (cM.bl (if neg then !JB d ds else JB d ds))else b3)=b0 c:=h;split at h
 ·rename_i a
  cases h;simp only[GF,Ag]at a;refine⟨d.pd,e.pd,pds ds,g.dp a.1.1,f.dp a.2.1,?_,a.1.2,a.2.2,k _ λ_ _ _=>.bl _⟩;cases e<;>first
   |(cases b;exact .inr rfl)
   |(cases b;exact .inl rfl)
   |cases b
 ·cases h
def cV(K:Ao)(td ty:TE):TE:=λσ H Q=>td σ H λx H1=>∃a,x=.ref a/\((IsD H1 a/\ty σ H1 λy H2=>∃o,NF H2 a y o/\Q (o.getD .non) H2)∨∃D,KTab K a D/\ty σ H1 λy H2=>∃k,y=.str k/\Q ((Fl k D).getD .non) H2)
def Yj{ak ae:Pos}{td ty:TE}(C:X.A.units+1<cLine)(E:PE X a td)(n:PE X e ty)(m:M1 X a "get" ak e ae):PE X (.Call (.Attribute a "get" ak) [e] [] ae) (cV X.K td ty):=by
 intro aa s σ H Q I h;refine Oe m.base m.few m.line Kx Ea Lx (Y7 (E aa s σ H _ I h) λu s1 ⟨x,H1,d,w,l,ex,q1⟩=>?_);subst ex;obtain rfl:u=Bq l:=w;rcases q1 with⟨hd,q1⟩|⟨D,T,q1⟩
 ·obtain⟨v,r,_⟩:=Um d hd
  refine⟨v,r,?_⟩;rw[m.trees];refine Gd rfl (Gs (Gf (Y7 (n aa s1 σ H1 _ d q1) λz f ⟨y,H2,c,i,R,g,q2⟩=>Hz ?_)));exact Yw C c g i λO P N j=>⟨_,H2,N,j,q2⟩
 ·obtain⟨L,o,S,U,hk,hex,V,_⟩:=id T
  refine⟨⟨o,d.kIn _ _ hk,hex.1⟩,λb q=>?_,?_⟩
  ·cases q
   exact⟨o,d.kIn _ _ hk,hex.2.1⟩
  rw[m.trees];refine Gd rfl (Gs (Gf (Y7 (n aa s1 σ H1 _ d q1) λz f ⟨y,H2,c,i,k,M,q2⟩=>Hz ?_)));subst M;obtain⟨t,rfl⟩:=i;have J:f.TypeIs (.ref l) "dict":=⟨o,c.kIn _ _ hk,hex.1⟩;refine Eo Ea J Fg ?_ (Hm _ _);show Sg _ _ (dictGet l (.str k t)>>=_) _ _ f;refine Ac (EV c.kIn T (λd' p G B=>As ⟨p,rfl,?_⟩) λF=>?_)
  ·rw[G]at q2
   exact⟨d',H2,c.tok _,B,q2⟩
  ·rw[F]at q2
   show Sg _ _ (Nc l (.str k t)>>=_) _ _ _;unfold Nc;rw[if_neg (by rw[L];exact Ei)];exact Ac (As (As ⟨.none,rfl,.non,H2,c.tok _,rfl,q2⟩))
def Wu:cM->cM->Option cM
 |.dct ks ds,.str x=>b0 ((bA ks ds (.inr x)).getD .non)
 |_,_=>b3
def Zq{ak ae:Pos}(P:X.K=K)(J:X.A.units+1<cLine)(N:PE X a (TV K ml pa ta ia fa))(M:PE X b (TV K ml pb tb ib fb))(m:M1 X a "get" ak b ae)(f:(pb || (ta&&ia))=b5:=by rfl):PE X (.Call (.Attribute a "get" ak) [b] [] ae) (TV K ml (pa&&pb) ia ia (f2 Wu fa fb)):=by
 subst P;refine(Yj J N M m).imp λσ H Q u=>?_;obtain⟨B,O,δ,d,δ2,S,q,k⟩:=u;obtain⟨x,δ1,y,h1,h2,C⟩:=NN q;refine⟨B,O,δ,x,δ1,S,h1,λR H1 j=>?_⟩;have i:∀p H2 (R2:Res X.K ml B O H1 σ pb tb ib H2 δ2 p y) o,aU X.K (av B O ia) H2 (av B O ia) o d->Q o H2:=λp H2 R2 o L=>k o H2 ⟨R2.sta,j.frm.trans R2.frm,λz=>by obtain⟨h,g⟩:=(Ag _ _).mp z;exact(j.pur h).trans (R2.pur g),L.mono (λ_ z=>z) Vw⟩
 cases x with
 |dct ks ds=>
  cases y with
  |str z=>
   cases C;have I:=j.rep;cases I.onD with
   | @dct l kvs t n r F=>
    subst F;refine⟨l,rfl,.inl ⟨.inl ⟨_,Rd.of t⟩,B,O,δ1,_,δ2,j.sta,h2,λp H2 R2=>?_⟩⟩;have s:=R2.rep;cases s.onS;have G:H2 l=b0 (.dK kvs)/\bT X.K (av B O ia) H2 (kvs.map Dd) ds:=by
     cases pb with
     |true=>exact⟨R2.pur rfl _ _ t,r.same (R2.pur rfl)⟩
     |false=>
      have f:(ta&&ia)=b5:=by simpa using f
      obtain⟨h,g⟩:=(Ag _ _).mp f;subst h g;exact⟨R2.frm _ _ t λw=>absurd (.inr w) n,r.fr R2.frm λa z=>.inr z⟩
    refine⟨_,NF.k (k:=.inr z) G.1,i _ _ R2 _ ?_⟩;rcases OT (k:=.inr z) G.2 with⟨v,d',e,c,E⟩|⟨e,c⟩
    ·rw[e,c];exact E
    ·rw[e,c];exact .non
   | @ktb l D T r F=>
    subst F;refine⟨l,rfl,.inr ⟨D,T,B,O,δ1,_,δ2,j.sta,h2,λp H2 R2=>?_⟩⟩;have s:=R2.rep;cases s.onS;refine⟨z,rfl,i _ _ R2 _ ?_⟩;have r':bT X.K (av B O ia) H2 (D.map Dd) ds:=by
     cases pb with
     |true=>exact r.same (R2.pur rfl)
     |false=>
      have f:(ta&&ia)=b5:=by simpa using f
      obtain⟨h,g⟩:=(Ag _ _).mp f;subst h g;exact r.fr R2.frm λa z=>.inr z
    rcases NL (k:=z) r' with⟨v,d',e,c,E⟩|⟨e,c⟩
    ·rw[e,c];exact E
    ·rw[e,c];exact .non
  |_=>cases C
 |_=>cases C
end
def CG:Bj "all"=b0 (.builtin "all"):=by decide+kernel
def l8:Bj "dict"=b0 (.type "dict"):=by decide+kernel
section
variable{X:Cx}{K:Ao}{ml:List Nat}{e a b c:Sj}{es:List Sj}{pa ta ia pb tb ib pc tc ic pu bt bi ps bs:Bool}{fa fb fc f:VF}{B B':Bs}{O:Nat->Option Sf}{H H0 H1 H':Hp}{σ:St}{δ δ':Ev}{v:V}{d:cM}{p:Sf}{pos:Pos}
def md{ks:List Bool}{us:List Se}(r:a7 (ks.map V.bl) us){i:Nat}{u:Se}(h:us[i]?=b0 u):∃k,ks[i]?=b0 k/\u=.bool k:=by
 have hl:=r.length;rw[Ce]at hl;have hi:i<us.length:=(Af.mp h).1;have e:(ks.map V.bl)[i]?=b0 (.bl ks[i]):=by simp[hl▸hi]
 obtain⟨w,h1,h2⟩:=r.get e;rw[h]at h1;cases h1;exact⟨ks[i],by simp[hl▸hi],h2⟩
def kn{ks:List Bool}:(Bm ks.length).all (λi=>(ks[i]?).getD b5)=ks.all id:=by
 induction ks with
 |nil=>rfl
 |cons k ks a=>
  rw[Bg,Lk,Jb,Mb,Jb,<-a];rfl
def BF(K:Ao)(g:List Bool->Bool):RC:=λxs H Q=>∃p ks,xs=[.ref p]/\W7 K H p (ks.map V.bl)/\Q (.bl (g ks)) H
def lN{prog:Bh}{w:Sm}{A:Dh}{ks:List Bool}{us:List Se}(r:a7 (ks.map V.bl) us):TruthOf prog w A (λi v=>us.toArray[i]?=b0 v) λi=>(ks[i]?).getD b5:=by intro i v s Q E b a;obtain⟨k,h1,rfl⟩:=md r (by simpa using b);have a:Q ((ks[i]?).getD b5) s:=a;rw[h1]at a;exact Fe a
def fQ(hc:X.calm=b5):Z2 X (.builtin "all") (BF X.K λks=>ks.all id):=by
 intro aa s σ H xs us Q I r h;obtain⟨l,ks,rfl,i,q⟩:=h;obtain⟨u,rfl,e⟩:=UR r;cases e;obtain⟨its,c,f,hz⟩:=I.list i;have hl:=f.isList;have a:l≠s.heap.objs.size:=by obtain⟨o,g,_⟩:=hl;exact Bn (Av g)
 have d:=c.length;rw[Ce]at d;refine call_all_walk (Gp hl ⟨_,_,_,_,_,_,_,rfl,Walks.list (show X.A.in1.handled=b3 from I.ok.hd hc) s.heap.objs.size l a its.toArray,⟨⟨_,Ax _ rfl,rfl,rfl⟩,?_⟩,lN c,λh' tk hk=>?_⟩)
 ·obtain⟨o,g,r⟩:=hl
  exact⟨o,Ad _ g,r⟩
 ·rw[Aq,<- d,kn]
  exact⟨.bl _,H,I.kept (t':=tk) λb o g=>hk b o (by simp;exact Bn (Av g)) (Ad _ g),rfl,q⟩
def kAll(hc:X.calm=b5)(h:X.K=K:=by rfl):Z2 X (.builtin "all") (BF K λks=>ks.all id):=by subst h;exact fQ hc
noncomputable def OJ:List cM->Option (List Bool)
 |[]=>b0 []
 |.bl k::ds=>(OJ ds).map λks=>k::ks
 |_=>b3
theorem Vu{N:Sf->Prop}:∀{xs:List V}{ds:List cM}{ks:List Bool},bT K N H xs ds->OJ ds=b0 ks->xs=ks.map V.bl
 |_,_,_,.nil,h=>by cases h;rfl
 | _,_,_,@bT.cons _ _ _ v vs d ds h t,e => by
  cases d with
  |bl k=>
   cases h;have e:(OJ ds).map (λks=>k::ks)=b0 _:=e;cases h2:OJ ds with
   |none=>rw[h2]at e;cases e
   |some a=>
    rw[h2]at e;cases e;rw[Vu t h2,Ba]
  |_=>cases e
def Tx(g:List Bool->Bool):cM->Option cM
 |.lst ds=>(OJ ds).map λks=>.bl (g ks)
 |_=>b3
abbrev oAll:=Tx λks=>ks.all id
def eV{g:List Bool->Bool}:CalS K (BF K g) (Tx g):=by
 intro H N M x d c Q b h k;cases d with
 |lst ds=>
  have h:(OJ ds).map (λks=>cM.bl (g ks))=b0 c:=h;obtain⟨ks,h1,h⟩:=Am.mp h;cases h;obtain⟨a,xs,rfl,sq,r⟩:=b.lstE;have:=Vu r h1
  subst this;exact⟨a,ks,rfl,sq,k _ λ_ _ _=>.bl _⟩
 |_=>cases h
def Tk:CalS K (BF K λks=>ks.all id) oAll:=eV
noncomputable def W8:List cM->Option (List Int)
 |[]=>b0 []
 |.int i::ds=>(W8 ds).map λns=>i::ns
 |_=>b3
theorem SF{N:Sf->Prop}:∀{xs:List V}{ds:List cM}{ns:List Int},bT K N H xs ds->W8 ds=b0 ns->xs=ns.map V.int
 |_,_,_,.nil,h=>by cases h;rfl
 | _,_,_,@bT.cons _ _ _ v vs d ds h t,e => by
  cases d with
  |int k=>
   cases h;have e:(W8 ds).map (λks=>k::ks)=b0 _:=e;cases h2:W8 ds with
   |none=>rw[h2]at e;cases e
   |some a=>
    rw[h2]at e;cases e;rw[SF t h2,Ba]
  |_=>cases e
theorem LN{N:Sf->Prop}:∀ns:List Int,bT K N H (ns.map V.int) (ns.map cM.int)
 |[]=>.nil
 |i::ns=>.cons (.int i) (LN ns)
def PH(ns:List Int):List Int:=ns.mergeSort (λa b=>decide (a<=b))
def FV{d ns:List Int}(h1:d.Perm ns)(h2:d.Pairwise (· <= ·)):d=PH ns:=by have p:(PH ns).Perm ns:=List.mergeSort_perm _ _;have s:(PH ns).Pairwise (λa b=>decide (a<=b)=b5):=List.pairwise_mergeSort (λa b c h1 h2=>by simp at h1 h2⊢;lia) (λa b=>by simp;lia) ns;have s':(PH ns).Pairwise (· <= ·):=s.imp λh=>of_decide_eq_true h;exact List.Perm.eq_of_pairwise (λa b _ _ h1 h2=>Int.le_antisymm h1 h2) h2 s' (h1.trans p.symm)
def C4:cM->Option cM
 |.lst ds=>(W8 ds).bind λns=>if ns.length<64 then b0 (.lst ((PH ns).map cM.int))else b3
 |_=>b3
def Wm(K:Ao):RC:=λxs H Q=>∃(p:Sf) (ns:List Int),xs=[.ref p]/\W7 K H p (ns.map V.int)/\ns.length<64/\∀(l:Sf) (a:List Int),H l=b3->a.Perm ns->a.Pairwise (· <= ·)->Q (.ref l) (aG H l (.lst (a.map V.int)))
def l7(h:X.K=K:=by rfl):Z2 X (.builtin "sorted") (Wm K):=jI h
def Yh:CalN K (Wm K) C4:=by
 intro H N M x d c Q e h k;cases d with
 |lst ds=>
  have h:((W8 ds).bind λns=>if ns.length<64 then b0 (cM.lst ((PH ns).map cM.int))else b3)=b0 c:=h;obtain⟨ns,h1,h⟩:=Aa.mp h;have h:(if ns.length<64 then b0 (cM.lst ((PH ns).map cM.int))else b3)=b0 c:=h;split at h
  ·rename_i hl
   cases h;obtain⟨a,xs,rfl,sq,r⟩:=e.lstE;have:=SF r h1
   subst this;refine⟨a,ns,rfl,sq,hl,λl g b h2 f=>?_⟩;have:=FV h2 f
   subst this;exact k l _ _ b (LN _) rfl
  ·cases h
 |_=>cases h
def rngI{a:Int}{n:Nat}{acc:Array Se}(h:ItemsOf (λi v=>∃t,v=.int (a+i*1) t) acc n):a7 ((Bm n).map λi:Nat=>V.int (a+i)) acc.toList:=by
 obtain⟨h1,h2⟩:=h;have go:∀(m:Nat) (us:List Se),us.length=m->∀k:Nat,(∀(i:Nat) (v:Se),us[i]?=b0 v->∃t,v=.int (a+((k+i:Nat):Int)*1) t)->a7 ((Bm m).map λi:Nat=>V.int (a+((k+i:Nat):Int))) us:=by
  intro m;induction m with
  |zero=>intro us hl k _;rw[Fz.mp hl];exact .nil
  |succ m c=>
   intro us hl k b;cases us with
   |nil=>cases hl
   |cons u us=>
    rw[Lk,Ba,Rt];obtain⟨t,d⟩:=b 0 u rfl;refine .cons ⟨t,by rw[d];simp⟩ ?_
    have:=c us (by simpa using hl) (k+1) λi v e=>by obtain⟨t,h⟩:=b (i+1) v (by simpa using e);exact⟨t,by rw[h,show k+(i+1)=k+1+i by lia]⟩
    have e:((λi:Nat=>V.int (a+((k+i:Nat):Int)))∘Nat.succ)=λi:Nat=>V.int (a+((k+1+i:Nat):Int)):=by funext i;simp only[Rm,Nat.succ_eq_add_one];rw[show k+(i+1)=k+1+i by lia]
    rw[e];exact this
 have:=go n acc.toList (by simpa using h1) 0 λi v e=>by
  have:=h2 i v (by simpa using e)
  simpa using this
 simpa using this
def D9:Z2 X (.type "range") (λxs H Q=>∃j,xs=[.int j]/\∀p,H p=b3->Q (.ref p) (aG H p (.ext (FN p 0 j 1)))):=by intro aa s σ H xs us Q I r h;obtain⟨j,rfl,q⟩:=h;obtain⟨u,rfl,t,rfl⟩:=UR r;refine call_range_1 ?_;have b:=I.hok.fresh (Au s.heap.objs.size);refine⟨.ref s.heap.objs.size,_,I.laid (a:=s.heap.objs.size) (o:=.ext (FN s.heap.objs.size 0 j 1)) (t':=s.toks+1+1) (λ_ _ z=>Ad _ z) (Au _) ?_,rfl,q _ b⟩;exact⟨⟨_,_,_,Pz ..⟩,⟨_,Ax _ rfl⟩,λh1 h2 ⟨t,u,v,z⟩ k=>⟨t,u,v,k _ z⟩⟩
def J8(hc:X.calm=b5):Z2 X (.type "list") (λxs H Q=>∃(p:Sf) (j:Int),xs=[.ref p]/\H p=b0 (.ext (FN p 0 j 1))/\(0<=j/\j<=16777216)/\∀l,H l=b3->Q (.ref l) (aG H l (.lst ((Bm j.toNat).map λi:Nat=>V.int (0+i))))):=by
 intro aa s σ H xs us Q I r h;obtain⟨p,j,rfl,m,y,q⟩:=h;obtain⟨u,rfl,g⟩:=UR r;cases g;obtain⟨⟨t,u,v,z⟩,_⟩:=I.hok p _ m;have n:Ej 0 j 1=(j.toNat:Int):=by
  unfold Ej;rw[if_pos (by decide)];split
  ·rw[Int.ediv_one]
   lia
  ·lia
 have d:(2:Int) ^ 62=4611686018427387904:=by decide
 have e:(2:Nat) ^ 24=16777216:=by decide
 have f:Sa 0 j 1=b5:=small_one (a:=0) (b:=j) (by rw[d];decide) (by rw[d];decide) (by rw[d];lia) (by rw[d];lia);refine call_list_range (I.ok.hd hc) z f n (by rw[e];lia) λh' tk acc c kp w x=>?_;have k:=rngI x;refine⟨.ref s.heap.objs.size,_,I.laid (a:=s.heap.objs.size) (o:=.lst ((Bm j.toNat).map λi:Nat=>V.int (0+i))) (t':=tk) kp (Au _) ⟨?_,acc.toList,c,k,by simpa using w⟩,rfl,q _ (I.hok.fresh (Au _))⟩;rw[Ce,Ig,Cr];lia
noncomputable def RA(f:VF):VF:=λδ=>(f δ).bind λp=>match p.1 with
 |.int j=>if 0<=j/\j<=16777216 then b0 (.lst (X8 0 j.toNat),p.2)else b3
 |_=>b3
def mC{N:Sf->Prop}(lo:Int)(n:Nat):bT K N H ((Bm n).map λi:Nat=>V.int (lo+i)) (X8 lo n):=by
 unfold X8;induction (Bm n)with
 |nil=>exact .nil
 |cons x xs a=>exact .cons (.int _) a
def mB{r p2 m:Pos}(hc:X.calm=b5)(w:Gl X "list")(u:X.mg "list"=b3)(s:Bj "list"=b0 (.type "list"))(i:Gl X "range")(h:X.mg "range"=b3)(f:Bj "range"=b0 (.type "range"))(y:PE X a (TV K ml pa ta ia fa))(n:SE X a []:=by rfl)(b:Bb (.Call (.Name "range" p2) [a] [] m::[]) X.env=(ba,eval (.Call (.Name "range" p2) [a] [] m) X.env)::Bb [] X.env:=by rfl):PE X (.Call (.Name "list" r) [.Call (.Name "range" p2) [a] [] m] [] pos) (TN K ml pa (RA fa)):=
 (V1 (J8 hc) w u s (bL (V1 D9 i h f (bL y ZU n) (by decide) (by decide) n) ZU b) (by decide) (by decide) b).imp λσ H Q g => by
  obtain⟨B,O,δ,d,δ',S,q,k⟩:=g;unfold RA at q;obtain⟨⟨x,δ1⟩,h1,q⟩:=Aa.mp q;cases x with
  |int j=>
   have q:(if 0<=j/\j<=16777216 then b0 (cM.lst (X8 0 j.toNat),δ1)else b3)=b0 (d,δ'):=q;split at q
   ·rename_i v
    cases q;refine⟨B,O,δ,_,_,S,h1,λA H1 c=>?_⟩;have o:=c.rep;cases o.onI;refine⟨j,rfl,λp t=>⟨p,j,rfl,bU,v,λl hl=>?_⟩⟩;have e:aD H1 (aG H1 p (.ext (FN p 0 j 1))):=cD t;exact k l _ (mkN (c.sta.same e) (c.frm.trans e.fr) (λz=>(c.pur z).trans e) hl (mC 0 j.toNat))
   ·cases q
  |_=>cases q
end
section
variable{X:Cx}{K:Ao}{ml:List Nat}{e a b c:Sj}{es:List Sj}{pa ta ia pb tb ib pc tc ic pu bt bi ps bs:Bool}{fa fb fc f:VF}{B B':Bs}{O:Nat->Option Sf}{H H0 H1 H':Hp}{σ:St}{δ δ':Ev}{v:V}{d:cM}{p:Sf}{pos:Pos}
noncomputable def T8(n:Int):List Int->Option Nat
 |[]=>b3
 |i::ns=>if i=n then b0 0 else(T8 n ns).map (· +1)
theorem JK{n:Int}:∀{ns:List Int}{j:Nat},T8 n ns=b0 j->ns[j]?=b0 n/\∀m,m<j->ns[m]? ≠b0 n
 |[],_,h=>by cases h
 | i :: ns,j,h => by
  unfold T8 at h;split at h
  ·rename_i hi
   cases h;exact⟨by rw[hi];rfl,λm a=>absurd a (Qf _)⟩
  ·rename_i hi
   obtain⟨k,h1,h⟩:=Am.mp h;cases h;obtain⟨h2,b⟩:=JK h1;refine⟨by simpa using h2,λm a=>?_⟩;cases m with
   |zero=>simpa using hi
   |succ m=>simpa using b m (Nat.lt_of_succ_lt_succ a)
def F6{ns:List Int}{us:List Se}(r:a7 (ns.map V.int) us){m:Nat}{u:Se}(h:us[m]?=b0 u):∃i t,ns[m]?=b0 i/\u=.int i t:=by
 have hl:=r.length;rw[Ce]at hl;have a:m<us.length:=(Af.mp h).1;have e:(ns.map V.int)[m]?=b0 (.int ns[m]):=by simp[hl▸a]
 obtain⟨d,b,t,c⟩:=r.get e;rw[h]at b;cases b;exact⟨ns[m],t,by simp[hl▸a],c⟩
noncomputable def K2(n:Int):Se->Bool
 |.int i _=>i==n
 |_=>ba
def Vs{ns:List Int}{its:List Se}{n:Int}{j:Nat}(r:a7 (ns.map V.int) its)(h:T8 n ns=b0 j):∃e:j<its.toArray.size,K2 n its.toArray[j]=b5/\(∀m (a:m<its.toArray.size),m<j->K2 n its.toArray[m]=ba):=by
 obtain⟨h1,h2⟩:=JK h;have hl:=r.length;rw[Ce]at hl;have e:j<ns.length:=(Af.mp h1).1;have at_:∀(m:Nat) (a:m<its.toArray.size),∃i t,ns[m]?=b0 i/\its.toArray[m]=.int i t:=λm a=>by
  have d:m<its.length:=by simpa using a
  exact F6 r (u:=its.toArray[m]) (by simp[d])
 refine⟨by simpa[<-hl]using e,?_,λm a c=>?_⟩
 ·obtain ⟨i,t',b,f⟩ := at_ j (by simpa [<- hl]using e)
  rw[h1]at b;cases b;rw[f];simp[K2]
 ·obtain⟨i,t',b,f⟩:=at_ m a
  have:=h2 m c
  rw[b]at this;rw[f];exact beq_eq_false_iff_ne.mpr λz=>this (by rw[z])
def Vj{ns:List Int}{its:List Se}(r:a7 (ns.map V.int) its){y:Se}(b:y∈its.toArray):∃i t,y=.int i t:=by
 obtain⟨m,c,rfl⟩:=Array.mem_iff_getElem.mp b;have a:m<its.length:=by simpa using c
 obtain⟨i,t,_,e⟩:=F6 r (m:=m) (u:=its.toArray[m]) (by simp[a]);exact⟨i,t,e⟩
def Uo(K:Ao):V->List V->Hp->VK->Prop:=λx vs H Q=>∃(l:Sf) (ns:List Int) (n:Int) (j:Nat),x=.ref l/\vs=[.int n]/\W7 K H l (ns.map V.int)/\T8 n ns=b0 j/\Q (.int j) H
def jC:MtM X "list.index" (Uo X.K):=by
 intro aa s σ H x vs v us Q I f g h;obtain⟨l,ns,n,j,rfl,rfl,m,p,q⟩:=h;cases f;obtain⟨u,rfl,t,rfl⟩:=g.one;obtain⟨its,r,⟨o,c,e,hc,hd,b⟩,hz⟩:=I.list m;obtain⟨cls,A,data,d⟩:=o;simp only at hc hd b;subst hc hd b;obtain⟨a,h1,h2⟩:=Vs r p;have hl:=r.length;refine He F.slot_list_index ⟨_,e,rfl⟩ F.entry_list_index (F.args_list_index_2 _ _) (SeqAt.list_indexAt l its.toArray c b3 d (.int n t) (K2 n) j a (by
  have z:its.length<=16777216:=by rw[<-hl,<-Cr];exact hz
  have w:j<its.length:=by simpa using a
  lia) h1 h2) ⟨e,?_,?_⟩
 ·intro y k
  obtain⟨i,t',rfl⟩:=Vj r k;exact SeqAt.EqAt.int_int i t' n t
 ·exact⟨.int j,H,I.tok _,⟨_,rfl⟩,q⟩
def jv(h:X.K=K:=by rfl):MtM X "list.index" (Uo K):=by subst h;exact jC
def C3:cM->cM->Option cM
 |.lst ds,.int n=>(W8 ds).bind λns=>(T8 n ns).map λj=>.int j
 |_,_=>b3
def iB{ak ae:Pos}(m:X.K=K)(u:PE X a (TV K ml pa ta ia fa))(t:PE X b (TV K ml pb tb ib fb))(C:Gq a "index" X.env (eval a X.env)=eval a X.env:=by rfl)(A:((Ex ae (Bb (b::[]) X.env)).all (λx=> !x.1)&&(Mg ae (Ic [] X.env)).all (λx=>x.1.isSome)&&decide ((b::([]:List Sj)).length+([]:List Ie).length+(if([]:List Ie).isEmpty then 0 else 1)<30))=b5:=by rfl)(D:(ak.endLine==ae.line)=b5:=by rfl)(i:SE X b []:=by rfl)(E:(Ex ae (Bb [] X.env)).any (·.1)=ba:=by rfl)(hl:(pb || (ta&&ia))=b5:=by rfl):PE X (.Call (.Attribute a "index" ak) [b] [] ae) (TV K ml (pa&&pb) b5 b5 (f2 C3 fa fb)):=
 (kBm (K := K) m Ho PySem.F.slot_list_index PySem.F.type_list_index (jv m) u (bL t ZU i) C A D i E).imp λσ H Q g => by
  obtain⟨B,O,δ,d,δ2,S,q,k⟩:=g;obtain⟨x,δ1,y,h1,h2,c⟩:=NN q;refine⟨B,O,δ,x,δ1,S,h1,λI H1 e=>?_⟩;cases x with
  |lst ds=>
   cases y with
   |int n=>
    have c:((W8 ds).bind λns=>(T8 n ns).map λj=>cM.int j)=b0 d:=c;obtain⟨ns,v,c⟩:=Aa.mp c;have c:(T8 n ns).map (λj=>cM.int j)=b0 d:=c;cases h:T8 n ns with
    |none=>rw[h]at c;cases c
    |some j=>
     rw[h]at c;cases c;obtain⟨l,xs,rfl,sq,_⟩:=e.rep.lstE;refine⟨.inl ⟨rfl,xs,sq⟩,B,O,δ1,_,δ2,e.sta,h2,λG H2 R2=>?_⟩;have s:=R2.rep;cases s.onI;obtain⟨J,r,w,f,r'⟩:=(R2.live hl e.rep).lstE;cases w;have:=SF r' v
     subst this;exact⟨l,ns,n,j,rfl,rfl,f,h,k _ H2 ⟨R2.sta,e.frm.trans R2.frm,λz=>by obtain⟨p,o⟩:=(Ag _ _).mp z;exact(e.pur p).trans (R2.pur o),.int _⟩⟩
   |_=>cases c
  |_=>cases c
def BH:V->List V->Hp->VK->Prop:=λx vs H Q=>∃(l:Sf) (ns:List Int) (n:Int) (j:Nat),x=.ref l/\vs=[.int n]/\H l=b0 (.lst (ns.map V.int))/\T8 n ns=b0 j/\Q .non (aG H l (.lst ((ns.eraseIdx j).map V.int)))
theorem IV{α β:Type}(g:α->β):∀(l:List α) (j:Nat),(l.map g).eraseIdx j=(l.eraseIdx j).map g
 |[],_=>by simp
 |_::_,0=>by simp
 |x::l,j+1=>by simp[IV g l j]
def jU:MtM X "list.remove" BH:=by
 intro aa s σ H x vs v us Q I f g h;obtain⟨l,ns,n,j,rfl,rfl,d,m,q⟩:=h;cases f;obtain⟨u,rfl,t,rfl⟩:=g.one;obtain⟨z,its,c,r,hl,e⟩:=I.lstM d;obtain⟨a,h1,h2⟩:=Vs r m;refine He F.slot_list_remove ⟨_,e,rfl⟩ F.entry_list_remove (F.args_list_remove_2 _ _) (MeetsSeq.list_remove l its.toArray c (.int n t) (K2 n) (λy k=>?_) j a h1 h2 (by rw[Aq,<-hl];exact z)) ⟨e,?_⟩
 ·obtain⟨i,t',rfl⟩:=Vj r k
  exact Rv i n t' t
 ·have b : j < its.length := by simpa using a
  refine⟨.non,_,I.lset (its':=its.eraseIdx j) d e (by simp[Kj,b]) (ys:=(ns.eraseIdx j).map V.int) ?_ ?_,rfl,q⟩
  ·have:=a7.eraseIdx j r
   rwa[IV]at this
  ·rw[Ce]
   have h1:=List.length_eraseIdx_le ns j;rw[Ce]at z;lia
def mRem:List cM->List cM->Option (List cM)
 |ds,[.int n]=>(W8 ds).bind λns=>(T8 n ns).map λj=>(ns.eraseIdx j).map cM.int
 |_,_=>b3
def Xz:MuV K BH mRem:=by
 intro H N l xs vs ds es a Q hl g b c h k;cases c with
 |nil=>cases h
 | @cons v vs d es hd t=>
  cases t with
  |cons _ _=>cases d<;>cases h
  |nil=>
   cases d with
   |int n=>
    cases hd;have h:((W8 ds).bind λns=>(T8 n ns).map λj=>(ns.eraseIdx j).map cM.int)=b0 a:=h;obtain⟨ns,f,h⟩:=Aa.mp h;have h:(T8 n ns).map (λj=>(ns.eraseIdx j).map cM.int)=b0 a:=h;obtain⟨j,e,h⟩:=Am.mp h;cases h;have:=SF b f
    subst this;exact⟨l,ns,n,j,rfl,rfl,hl,e,k _ _ (LN _)⟩
   |_=>cases h
end
section
variable{X:Cx}{K:Ao}{ml:List Nat}{e:Sj}{es:List Sj}{pu bt bi bs:Bool}{f:VF}{fs:OF}
def cH(h:PE X e (TV K ml pu bt bi f))(a:(bt&&bi)=b5:=by rfl):PE X e (TV K ml pu b5 b5 f):=by obtain⟨h1,h2⟩:=(Ag _ _).mp a;subst h1 h2;exact h
def Tq(h:PE X e (TV K ml pu bt bi f))(a:bi=b5:=by rfl):PE X e (TV K ml pu bt b5 f):=by subst a;exact h
def bY(h:PA X es (TAV K ml pu bs fs))(a:bs=b5:=by rfl):PA X es (TAV K ml pu b5 fs):=by subst a;exact h
def PR{st:Su}:PS X st (TJ K ml λ_=>b3):=λ_ _ _ _ _ _ ⟨_,_,_,_,_,q,_⟩=>nomatch q
variable{a b c:Sj}{pa ta ia pb tb ib pc tc ic:Bool}{fa fb fc:VF}{pos:Pos}{δ:Ev}
def W1(i j k:Int):Int:=if i<j then(j-i-1)/k+1 else 0
noncomputable def G6(fa fb fc:VF):VF:=λδ=>(fa δ).bind λp=>(fb p.2).bind λq=>(fc q.2).bind λr=>match p.1,q.1,r.1 with
 |.int i,.int j,.int k=>if(0<k/\k<1073741824)/\W1 i j k<9223372036854775808 then b0 (.int (W1 i j k),r.2)else b3
 |_,_,_=>b3
def KB{i j k:Int}(hk:0<k):0<=W1 i j k:=by
 unfold W1;split
 ·have := Mc (show 0 <= j-i-1 by lia) (show 0 <= k by lia)
  lia
 ·lia
def jr{P p2 h:Pos}(W:Gl X "len")(V:X.mg "len"=b3)(R:Bj "len"=b0 (.builtin "len"))(A:Gl X "range")(w:X.mg "range"=b3)(t:Bj "range"=b0 (.type "range"))(Z:PE X a (TV K ml pa ta ia fa))(Y:PE X b (TV K ml pb tb ib fb))(hc:PE X c (TV K ml pc tc ic fc))(G:SE X a [b,c]:=by rfl)(D:SE X b [c]:=by rfl)(C:SE X c []:=by rfl)(v:(Ex h (Bb [b,c] X.env)).any (·.1)=ba:=by rfl)(f:Bb (.Call (.Name "range" p2) [a,b,c] [] h::[]) X.env=(ba,eval (.Call (.Name "range" p2) [a,b,c] [] h) X.env)::Bb [] X.env:=by rfl):PE X (.Call (.Name "len" P) [.Call (.Name "range" p2) [a,b,c] [] h] [] pos) (TV K ml (pa && pb && pc) b5 b5 (G6 fa fb fc)):=
 (OZ GU W V R (bL (V1 EA A w t (bL Z (bL Y (bL hc ZU C) D) G) (by decide) (by decide) G v) ZU f) (by decide) (by decide) f).imp λσ H Q u => by
  obtain⟨B,O,δ,d,r,S,q,k⟩:=u;unfold G6 at q;obtain⟨⟨x,δ1⟩,h1,q⟩:=Aa.mp q;cases h2:fb δ1 with
  |none=>simp[h2]at q
  |some p2=>
   obtain⟨y,δ2⟩:=p2;simp only[Ai,h2]at q;cases E:fc δ2 with
   |none=>simp[E]at q
   |some N=>
    obtain⟨z,o⟩:=N;simp only[Ai,E]at q;cases x with
    |int i=>
     cases y with
     |int j=>
      cases z with
      |int e=>
       have q:(if(0<e/\e<1073741824)/\W1 i j e<9223372036854775808 then b0 (cM.int (W1 i j e),o)else b3)=b0 (d,r):=q;split at q
       ·rename_i g
        cases q;refine⟨B,O,δ,_,δ1,S,h1,λM H1 m=>⟨B,O,δ1,_,δ2,m.sta,h2,λL H2 R2=>⟨B,O,δ2,_,_,R2.sta,E,λJ I l=>?_⟩⟩⟩;have e1:M=.int i:=by exact m.rep.onI
        have e2:L=.int j:=by exact R2.rep.onI
        have e3:J=.int e:=by exact l.rep.onI
        subst e1 e2 e3;refine⟨i,j,e,rfl,g.1.1,g.1.2,λp U=>?_⟩;obtain⟨n,F⟩:=Fb (KB (i:=i) (j:=j) g.1.1);have T:Ej i j e=(n:Int):=by rw[<-F];unfold Ej W1;rw[if_pos g.1.1]
        have s:aD I (aG I p (.ext (FN p i j e))):=cD U;refine⟨p,i,j,e,n,rfl,bU,T,?_,?_⟩
        ·have : (2 : Int) ^ 63 = 9223372036854775808 := by decide
         lia
        ·rw[<- F]
         exact k _ _ ⟨l.sta.same s,((m.frm.trans R2.frm).trans l.frm).trans s.fr,λz=>by simp only[Ag]at z;exact(((m.pur z.1.1).trans (R2.pur z.1.2)).trans (l.pur z.2)).trans s,.int _⟩
       ·cases q
      |_=>cases q
     |_=>cases q
    |_=>cases q
end
section
variable{X:Cx}{K:Ao}{ml:List Nat}{e a b c:Sj}{pa ta ia pb tb ib pu:Bool}{fa fb fc f:VF}{B:Bs}{O:Nat->Option Sf}{H H':Hp}{σ:St}{δ δ':Ev}{v:V}{d:cM}{p:Sf}{pos:Pos}{ks:List (Option Sj)}{vs:List Sj}
theorem NY:∀{more acc:List (aS×V)},((acc++more).map Cg).Nodup->U0 acc more=acc++more
 |[],acc,_=>by simp[U0]
 |(k,v)::more,acc,a=>by
  have hk:∀q∈acc,q.1≠k:=λq b z=>by rw[Ft,Ba]at a;exact(Om.mp a).2.2 q.1 (List.mem_map_of_mem b) k (by simp) z
  have c:QY acc k=b3:=by unfold QY;rw[List.find?_eq_none.mpr λq b=>by simpa using hk q b];rfl
  show U0 (W0 acc k v) more=_;rw[Yr v c,NY (by simpa using a)];simp
abbrev DZ:=Ev->Option (List (aS×cM)×Ev)
inductive TPDi(K:Ao)(ml:List Nat)(pu:Bool)(f:DZ)(σ:St)(H:Hp)(Q:List (V×V)->Hp->Prop):Prop
 |mk (B:_) (O:_) (δ:_) (kds:_) (δ':_) (h0:Z0 K ml B O H σ δ) (h1:f δ=b0 (kds,δ')) (h2:∀(kvs:List (aS×V)) H',Z0 K ml B O H' σ δ'->Fr (OA O) H H'->(pu=b5->aD H H')->kvs.map Cg=kds.map Cg->bT K (Nn B O) H' (kvs.map Dd) (kds.map Dd)->Q (kvs.map λkv=>(kV kv.1,kv.2)) H'):TPDi K ml pu f σ H Q
def TPD(K:Ao)(ml:List Nat)(pu:Bool)(f:DZ)(σ:St)(H:Hp)(Q:List (V×V)->Hp->Prop):Prop:=TPDi K ml pu f σ H Q
def PPV(X:Cx)(K:Ao)(ml:List Nat)(pu:Bool)(pos:Pos)(ks:List (Option Sj))(vs:List Sj)(f:DZ):Prop:=∃a,PPs X pos ks vs a/\∀σ H Q,TPD K ml pu f σ H Q->HW a σ H Q
def Tf:DZ:=λδ=>b0 ([],δ)
def N4(fk fv:VF)(fs:DZ):DZ:=λδ=>(fk δ).bind λp=>(WC p.1).bind λk=>(fv p.2).bind λq=>(fs q.2).map λr=>((k,q.1)::r.1,r.2)
def l9:PPV X K ml b5 pos [] [] Tf:=⟨[],lO,λσ H Q a=>by obtain⟨B,O,δ,kds,δ',S,q,k⟩:=a;cases q;exact k [] H S (Fr.refl _ _) (λ_=>aD.refl _) rfl .nil⟩
def L7{fs:DZ}(hk:PE X a (TV K ml pa ta ia fa))(r:PE X b (TV K ml pb b5 b5 fb))(s:PPV X K ml pu pos ks vs fs):PPV X K ml (pa&&pb&&pu) pos (b0 a::ks) (b::vs) (N4 fa fb fs):=by
 obtain⟨m,h1,h2⟩:=s;refine⟨_,mE hk r h1,λσ H Q ⟨B,O,δ,kds,j,S,q,k⟩=>?_⟩;unfold N4 at q;obtain⟨⟨x,δ1⟩,u,q⟩:=Aa.mp q;cases h:WC x with
 |none=>simp[h]at q
 |some p=>
  simp only[Ai,h]at q;cases g:fb δ1 with
  |none=>simp[g]at q
  |some d=>
   obtain⟨y,δ2⟩:=d;simp only[Ai,g]at q;cases f:fs δ2 with
   |none=>simp[f]at q
   |some o=>
    obtain⟨v,i⟩:=o;simp only[f]at q;cases q;refine⟨B,O,δ,x,δ1,S,u,λC H1 c=>⟨B,O,δ1,y,δ2,c.sta,g,λl H2 R2=>h2 _ _ _ ⟨B,O,δ2,v,_,R2.sta,f,λkvs A w f3 d e n=>?_⟩⟩⟩;have t:=c.rep.key h;subst t;refine k ((p,l)::kvs) A w ((c.frm.trans R2.frm).trans f3) (λz=>?_) (by simp[e]) (.cons (R2.rep.fr f3 (λa z=>.inr z) λa z=>.inr z) n);simp only[Ag]at z;exact((c.pur z.1.1).trans (R2.pur z.1.2)).trans (d z.2)
noncomputable def AE(fs:DZ):VF:=λδ=>(fs δ).bind λp=>if(p.1.map Cg).Nodup/\p.1.length<=15 then b0 (.dct (p.1.map Cg) (p.1.map Dd),p.2)else b3
def kE{fs:DZ}(h:PPV X K ml pu pos ks vs fs)(I:ks.all (·.isSome)=b5)(hl:ks.length=vs.length)(E:ks≠[])(x:ks.length<=15):PE X (.Dict ks vs pos) (TN K ml pu (AE fs)):=by
 obtain⟨C,h1,h2⟩:=h;refine(fT h1 I hl E x).imp λσ H Q ⟨B,O,δ,d,δ',S,q,k⟩ p g=>?_;unfold AE at q;obtain⟨⟨kds,δ1⟩,G,q⟩:=Aa.mp q;have q:(if(kds.map Cg).Nodup/\kds.length<=15 then b0 (cM.dct (kds.map Cg) (kds.map Dd),δ1)else b3)=b0 (d,δ'):=q;split at q
 ·rename_i y
  cases q;have M:=S.laid (o:=.dK []) g;refine h2 _ _ _ ⟨B.add p,O,δ,kds,_,M,G,λkvs H2 c f2 p2 hk r=>?_⟩;have t:¬OA O p:=λ⟨i,w⟩=>(c.old i p w).1 (.inr rfl);have l:H2 p=b0 (.dK []):=f2 _ _ bU λw=>absurd w t;have J:kvs.length=kds.length:=by
   have:=congrArg List.length hk
   simpa using this
  refine⟨l,kvs,rfl,by rw[J];exact y.2,?_⟩;have D:U0 [] kvs=kvs:=NY (acc:=[]) (by simpa[hk]using y.1);rw[D];have A:(B.add p).Z p:=.inr rfl;have s:Fr (λb=>b=p) H2 (aG H2 p (.dK kvs)):=λb u q n=>by
   by_cases f:b=p
   ·subst f
    rw[l]at q;cases q;exact absurd (n rfl) λz=>z
   ·rw[bC f]
    exact q
  have j:∀b,b=p->Nn (B.add p) O b:=λb w=>.inl (w▸A);have w:QV K (Nn (B.add p) O) (aG H2 p (.dK kvs)) p (.dct (kvs.map Cg) (kds.map Dd)):=.dct bU (r.fr s j);rw[hk]at w;have L:Z0 K ml (B.add p) O (aG H2 p (.dK kvs)) σ δ':=by
   have m:∀b,(∃u,H2 b=b0 u)->∃u,aG H2 p (.dK kvs) b=b0 u:=λb q0=>by
    obtain⟨u,q⟩:=q0;by_cases f:b=p
    ·exact⟨_,by rw[f];exact bU⟩
    ·exact⟨u,by rw[bC f];exact q⟩
   refine⟨c.len,λi d q=>?_,λi d q=>?_,c.dom,c.inj,c.old,λb h=>m b (c.zin b h),λb u q n=>?_,c.par,λb h=>m b (c.pin b h),λz hz=>(c.kep z hz).fr s j j⟩
   ·obtain⟨v,e,r⟩:=c.va i d q
    exact⟨v,e,r.fr s j j⟩
   ·obtain⟨a,e,F,w⟩:=c.ow i d q
    exact⟨a,e,F,w.fr s j λz=>(c.old i a e).1 (z▸A)⟩
   ·have f : b ≠ p := λz => by have q:B.H0 b=b0 u:=q;rw[z,S.fresh g]at q;cases q
    rw[bC f];exact c.frm b u q n
  refine k p _ ⟨L,λb o e n=>?_,λz=>?_,w,S.new g,S.fresh g⟩
  ·have f : b ≠ p := λz => by rw [z,g]at e;cases e
   rw[bC f];exact f2 b o (cD g _ _ e) n
  ·intro b o e
   have f:b≠p:=λz=>by rw[z,g]at e;cases e
   rw[bC f];exact p2 z b o (cD g _ _ e)
 ·cases q
end
theorem PZ:∀(names:List (Si×Sw)) (n:Nat) (acc:List (Si×Sf)),Sv n names acc=Sv n names []++acc
 |[],_,_=>rfl
 | (x,k) :: r,n,acc => by
  unfold Sv;split
  ·rw[PZ r (n+1) ((x,n)::acc),PZ r (n+1) [(x,n)]]
   simp
  ·exact PZ r n acc
theorem CL:∀{names:List (Si×Sw)}{n:Nat}{x:Si}{c:Sf},(x,c)∈Sv n names []->(x,Ck)∈names
 |[],_,_,_,h=>nomatch h
 | (y,k) :: r,n,x,c,h => by
  unfold Sv at h;split at h
  ·rename_i hk
   rw[PZ]at h;rcases Bo.mp h with h|h
   ·exact Ap _ (CL h)
   ·cases An.mp h
    rw[show k=Ck from beq_iff_eq.mp hk];exact Aw
  ·exact Ap _ (CL h)
theorem CK:∀{names:List (Si×Sw)}{n:Nat}{x:Si},(x,Ck)∈names->∃c,(x,c)∈Sv n names []
 | (y,k) :: r,n,x,h => by
  unfold Sv;rcases Aj.mp h with e|h
  ·cases e
   rw[if_pos (by decide),PZ];exact⟨n,Br _ (An.mpr rfl)⟩
  ·split
   ·rw[PZ]
    obtain⟨c,hc⟩:=CK (n:=n+1) h;exact⟨c,Bz _ hc⟩
   ·exact CK h
theorem K8:∀{l:List (Si×Sf)}{x:Si}{c:Sf},(x,c)∈l->∃b,l.lookup x=b0 b
 | (y,d) :: r,x,c,h => by
  rw[Co];cases a:x==y with
  |true=>exact⟨d,rfl⟩
  |false=>
   rcases Aj.mp h with e|h
   ·cases e
    simp at a
   ·exact K8 h
theorem XW:∀{l m:List (Si×Sf)}{x:Si}{c:Sf},(l++m).lookup x=b0 c->l.lookup x=b0 c∨(l.lookup x=b3/\m.lookup x=b0 c)
 |[],_,_,_,h=>.inr ⟨rfl,h⟩
 |(y,d)::r,m,x,c,h=>by
  rw[Ep,Co]at h;rw[Co];cases a:x==y with
  |true=>rw[a]at h;exact .inl h
  |false=>rw[a]at h;exact XW h
theorem PY:∀{l m:List (Si×Sf)}{x:Si},l.lookup x=b3->(l++m).lookup x=m.lookup x
 |[],_,_,_=>rfl
 |(y,d)::r,m,x,h=>by
  rw[Co]at h;rw[Ep,Co];cases a:x==y with
  |true=>rw[a]at h;cases h
  |false=>rw[a]at h;exact PY h
def E7{M:Model}{A:Dh}{E:Se->Ah->Prop}{s:Ah}{scope:Sx}{globals:Sf}{d:List (Si×Sf)}{a:Si}{outer:Env}{Q:Env->Ah->Prop}(e:Q (newEnv scope s.heap.objs.size globals (Sv (s.heap.objs.size+1) scope.names d) a b3 .none (b0 outer) builtinsNs) {s with heap:=Qh (s.heap.push {cls:=.type "dict",data:=.dict #[]}) scope.names}):Sg M A (Mq scope globals d [] a b3 .none (b0 outer)) Q E s:=by simp only[Mq,Nl,if_true];refine Ac (wpAny_alloc ?_);refine Ac (wpAny_layCells _ (λname kind c=>by cases b:kind==Ck<;>simp[b]) _ _ _ _ ?_);rw[show({s with heap:=s.heap.push {cls:=.type "dict",data:=.dict #[]}}:Ah).heap.objs.size=s.heap.objs.size+1 from Ee ..];rw[Mp];exact Ac (As (As e))
theorem SK:∀{l m:List (Si×Sf)}{x:Si}{c:Sf},l.lookup x=b0 c->(l++m).lookup x=b0 c
 |(y,d)::r,m,x,c,h=>by
  rw[Co]at h;rw[Ep,Co];cases a:x==y with
  |true=>rw[a]at h;exact h
  |false=>rw[a]at h;exact SK h
structure L9(X:Cx)(N':List Si)(ix:List Nat)(scope:Sx):Prop where
 kind:scope.kind=.function
 cel:∀y∈scope.names,y.2=.cell->scope.names.lookup y.1=b0 .cell
 names:∀y∈scope.names,y.2=.local->scope.names.lookup y.1=b0 .local
 free:∀y∈scope.names,y.2=.free->X.env.kindOf y.1=b0 .cell∨X.env.kindOf y.1=b0 .free
 nd:N'.Nodup
 cap:∀j,j<ix.length->N'[j]?=(ix[j]?).bind λi=>X.N[i]?
 capf:∀x∈N'.take ix.length,scope.names.lookup x=b0 .free
noncomputable def Y1(X:Cx)(N':List Si)(scope:Sx)(cl:List (Si×Sf))(s1:Ah)(H1:Hp)(fp:List Sf):Cx:=
 {X with N:=N',s₀:=s1,H₀:=H1,env:=compEnvC scope cl s1.heap.objs.size X.env,outer:=X.stack,stack:=X.stack,ex:=fp,fn:=λx=>scope.names.lookup x==b0 Ck,pn:=[],xe:=λ_ _=>False}
theorem T9{env:Env}{x:Si}:∀{l:List (Si×Sw)},((l.map λ(n,k)=>if(k==Bt&&env.scope.kind== .function&&env.kindOf n==b0 .cell)then(n,Ck)else(n,k)).lookup x=b0 .cell∨(l.map λ(n,k)=>if(k==Bt&&env.scope.kind== .function&&env.kindOf n==b0 .cell)then(n,Ck)else(n,k)).lookup x=b0 .free)->(x,Bt)∈l∨(x,Ck)∈l
 |[],h=>by rcases h with z|z<;>cases z
 | (n,k) :: r,h => by
  have h:Mz x ((if(k==Bt&&env.scope.kind== .function&&env.kindOf n==b0 .cell)=b5 then(n,Ck)else(n,k))::r.map λ(n,k)=>if(k==Bt&&env.scope.kind== .function&&env.kindOf n==b0 .cell)then(n,Ck)else(n,k))=b0 .cell∨
   Mz x ((if(k==Bt&&env.scope.kind== .function&&env.kindOf n==b0 .cell)=b5 then(n,Ck)else(n,k))::r.map λ(n,k)=>if(k==Bt&&env.scope.kind== .function&&env.kindOf n==b0 .cell)then(n,Ck)else(n,k))=b0 .free:=h
  by_cases hc:(k==Bt&&env.scope.kind== .function&&env.kindOf n==b0 .cell)=b5
  ·rw[if_pos hc]at h
   by_cases a:x=n
   ·subst a
    have hk:k=.free:=by simp only[Ag]at hc;exact beq_iff_eq.mp hc.1.1
    subst hk;exact .inl Aw
   ·have b:(x==n)=ba:=beq_eq_false_iff_ne.mpr a
    simp only[Co,b]at h;rcases T9 (env:=env) h with z|z
    ·exact .inl (Ap _ z)
    ·exact .inr (Ap _ z)
  ·rw[if_neg hc]at h
   by_cases a:x=n
   ·subst a
    rw[Eb]at h;rcases h with z|z
    ·cases z;exact .inr Aw
    ·cases z;exact .inl Aw
   ·have b:(x==n)=ba:=beq_eq_false_iff_ne.mpr a
    simp only[Co,b]at h;rcases T9 (env:=env) h with z|z
    ·exact .inl (Ap _ z)
    ·exact .inr (Ap _ z)
def KO{X:Cx}{aa:List (Sf×Sr)}{σ:St}{H2:Hp}{a:Ah}{E:Se->Ah->Prop}{tg iter elt:Sj}{ifs:List Sj}{scope:Sx}{pos:Pos}{N':List Si}{ix:List Nat}{nl:Nat}{g:TG}{tt:TT}{te:TE}{cl:List (Si×Sf)}{J:It}{fp:List Sf}{it:Sf}{tn:Nat->Sq->Prop}{Q:V->Hp->Prop}{RR:Se->Sf->Result->Ah->Prop}(hc:X.calm=b5)(S:L9 X N' ix scope)(hnl:N'.length=ix.length+nl)(cm:∀x c,cl.lookup x=b0 c->X.env.cells.lookup x=b0 c)(gb:∀x,(x,Bt)∈scope.names->∃c,cl.lookup x=b0 c)(blk:∀(cl:List (Si×Sf)) (s1:Ah) (H1:Hp) (fp:List Sf),Blk (Y1 X N' scope cl s1 H1 fp) tg ifs elt g tt te)(I2:bP X aa σ H2 a)(T:CB X.prog X.w X.K tg J fp it tn)(st2:tn 0 a.heap)(f2:∀b∈fp,J5 X aa H2 b)(h:∀D,H2 D=b3->Uz D ix nl J g tt te σ H2 λH'=>Q (.ref D) H')(fin:∀(D C:Sf) (s':Ah) (H':Hp),bP X aa σ H' s'->(∃m,s'.heap.Ns C m)->C≠X.env.locals->(∀x c,X.env.cells.lookup x=b0 c->c≠C)->(∀(s:St) (R:Ah) (h'':Sq),bP X aa s H' R->Fw C R.heap h''->bP X aa s H' {R with heap:=h''})->Q (.ref D) H'->RR (.ref D) C (.ok .next) s'):Sg (Sk X.prog X.w) X.A (newList []) (λacc B=>Sg (Sk X.prog X.w) X.A (Mq scope X.env.globals cl [] X.env.qual b3 .none (b0 X.env)) (λgj s₄=>Mv (Sk X.prog X.w) X.A (.compStart (.ListComp elt [⟨tg,iter,ifs,0⟩] scope pos) 0 (.ref it) acc {gj with scope:=relabel scope X.env}) (RR acc gj.locals) s₄) E B) E a:=by
 refine Ds (E7 ?_);dsimp only;have k:bP X aa σ (aG H2 a.heap.objs.size (.lst [])) {a with heap:=a.heap.push {cls:=.type "list",dict:=b3,data:=.seq ([]:List Se).toArray}}:=
  I2.lnew (t':=a.toks) (ys:=[]) (its:=[]) .nil (Dx _)
 have hDn:H2 a.heap.objs.size=b3:=I2.hok.fresh (Au _);obtain⟨W,⟨m0,w0⟩,turn⟩:=h _ hDn;generalize hs1:({a with heap:=a.heap.push {cls:=.type "list",dict:=b3,data:=.seq ([]:List Se).toArray}}:Ah)=s1 at k;have d8:a.heap.push {cls:=.type "list",dict:=b3,data:=.seq ([]:List Se).toArray}=s1.heap:=by rw[<-hs1]
 rw[d8];have I:∀b o,s1.heap.get? b=b0 o->(Qh (s1.heap.push {cls:=.type "dict",data:=.dict #[]}) scope.names).get? b=b0 o:=λb o e=>pushCells_keeps _ _ _ _ (Ad _ e);have H:(Qh (s1.heap.push {cls:=.type "dict",data:=.dict #[]}) scope.names).Ns s1.heap.objs.size (λ_=>b3):=(Heap.Ns.new s1.heap (.type "dict")).keeps λb o e=>pushCells_keeps _ _ _ _ e;have M:=cellsFrom_ok scope.names (s1.heap.push {cls:=.type "dict",data:=.dict #[]}) (s1.heap.objs.size+1) [] ⟨λ_ _ hm=>(nomatch hm),Og⟩ (by rw[Ee];exact Au _);rw[Ee]at M;generalize hz1:Qh (s1.heap.push {cls:=.type "dict",data:=.dict #[]}) scope.names=F at I H M;rw[PZ];generalize hnc:Sv (s1.heap.objs.size+1) scope.names []=t at M;have G:∀x c,t.lookup x=b0 c->(x,Ck)∈scope.names/\F.IsCell c b3/\s1.heap.objs.size+1<=c:=λx c e=>by have hm:=Cv e;exact⟨CL (n:=s1.heap.objs.size+1) (by rw[hnc];exact hm),M.empty x c hm⟩
 have nch:∀x,(x,Ck)∈scope.names->∃c,t.lookup x=b0 c:=λx h=>by obtain⟨c,hc⟩:=CK (n:=s1.heap.objs.size+1) h;rw[hnc]at hc;exact K8 hc
 have dz:∀b∈fp,b<a.heap.objs.size:=λb f=>by obtain⟨o,e,_⟩:=T.obj _ _ st2 b f;exact Av e
 have fm:s1.heap.objs.size=a.heap.objs.size+1:=by rw[<-d8,Ee]
 have gk:∀b o,a.heap.get? b=b0 o->s1.heap.get? b=b0 o:=λb o e=>by rw[<-d8];exact Ad _ e
 have db:∀x c,cl.lookup x=b0 c->c<s1.heap.objs.size:=λx c e=>by obtain⟨v,q⟩:=k.cell x c (cm x c e);exact q.lt
 have j4:∀b∈frs X.stack,b<s1.heap.objs.size:=λb f=>by obtain⟨_,o,ho,_⟩:=(k.stack).mem f;exact Av ho
 have U:(Y1 X N' scope (t++cl) s1 (aG H2 a.heap.objs.size (.lst [])) fp).Ok:=by
  refine⟨k.ok.mod,S.kind,k.ok.glob,k.ok.blt,Au _,λx y c e1 P=>?_,λx hx=>?_,λx c hf e=>?_,k.ok.hd,k.ok.frames,.inl rfl,λb f=>⟨?_,λx c e=>?_⟩,λb o e=>?_,Fc k.ok.bsz k.sz,λb o e f=>?_,λb f hb2=>?_,k.stack,k.stkFree⟩
  ·rcases XW e1 with n1|⟨_,o1⟩
   ·rcases XW P with n2|⟨_,o2⟩
    ·exact PySem.name_of_addr M.apart (Cv n1) (Cv n2)
    ·exact absurd (Bi (db y c o2) (Ij (G x c n1).2.2)) (Cp _)
   ·rcases XW P with n2|⟨_,o2⟩
    ·exact absurd (Bi (db x c o1) (Ij (G y c n2).2.2)) (Cp _)
    ·exact k.ok.inj x y c (cm x c o1) (cm y c o2)
  ·cases q:t.lookup x with
   |some c=>exact⟨c,SK q⟩
   |none=>
    rcases T9 hx with h|h
    ·obtain⟨c,hc⟩:=gb x h
     exact⟨c,(PY q).trans hc⟩
    ·obtain⟨c,hc⟩:=nch x h
     rw[q]at hc;cases hc
  ·have hx:(x,Ck)∈scope.names:=Cv (beq_iff_eq.mp hf)
   obtain⟨c',O⟩:=nch x hx;have:=SK (m:=cl) O
   have e:(t++cl).lookup x=b0 c:=e;rw[this]at e;cases e;exact Ij (G x c O).2.2
  ·exact Bn (Bi (dz b f) (by show a.heap.objs.size<=s1.heap.objs.size;rw[fm];exact Gk _))
  ·rcases XW e with n1|⟨_,o1⟩
   ·have h1:=dz b f
    have h2:=(G x c n1).2.2;rw[fm]at h2;exact λz=>absurd (z▸h2) (Nat.not_le_of_lt (Bi h1 (Fc (Gk _) (Gk _))))
   ·exact(f2 b f).2.2.2.2.1 x c (cm x c o1)
  ·exact k.bs b o e
  ·have:=(f2 b f)
   obtain⟨o',e',_⟩:=T.obj _ _ st2 b f;have hlt:=Bi (Av e) k.ok.bsz;rcases this.2.2.2.1 with z|z
   ·exact k.ok.noex b o e z
   ·exact absurd (Bi hlt z) (Cp _)
  ·rcases Aj.mp (k.stkSub b hb2)with z|z
   ·exact(f2 b f).2.1 z
   ·exact(f2 b f).2.2.1 z
 have dm:(XR ix σ++Ak nl b3).length=N'.length:=by rw[Ay,Et,hnl];simp[XR]
 have IY:bP (Y1 X N' scope (t++cl) s1 (aG H2 a.heap.objs.size (.lst [])) fp) [] (XR ix σ++Ak nl b3) (aG H2 a.heap.objs.size (.lst [])) {a with heap:=F}:=by
  refine⟨U,?_,I2.bare,Un.kept I,⟨_,H,λj x v e1 P e3=>?_⟩,λx c e=>?_,k.hok.fresh (Au _),λx c e=>?_,λp hp=>absurd (show p∈([]:List (Sf×Sr)) from hp) (by simp),k.hok.kept I,dm⟩
  ·show a.os=s1.os
   rw[<-hs1]
  ·have Y:j<ix.length:=by
    by_cases Y:j<ix.length
    ·exact Y
    ·exfalso
     have hl:(XR ix σ).length=ix.length:=by simp[XR]
     rw[At (by rw[hl];lia),El]at P;split at P<;>cases P
   have hl:(XR ix σ).length=ix.length:=by simp[XR]
   rw[Ae (by rw[hl];exact Y)]at P;have hci:=S.cap j Y;obtain⟨i,hi⟩:∃i,ix[j]?=b0 i:=⟨ix[j],by simp[Y]⟩;rw[hi]at hci;have hNi:X.N[i]?=b0 x:=by
    have:N'[j]?=X.N[i]? :=hci
    rw[<-this];exact e1
   have hσ:σ[i]?=b0 (b0 v):=by
    unfold XR at P;rw[De,hi]at P;have Z:(σ[i]?).join=b0 v:=by simpa using P
    cases q:σ[i]? with
    |none=>rw[q]at Z;cases Z
    |some o=>rw[q]at Z;rw[show o=b0 v from Z]
   have hfl:scope.names.lookup x=b0 .free:=S.capf x (by rw[Ma];exact⟨j,by rw[Dk Y];exact e1⟩)
   have bm:(x,Bt)∈scope.names:=Cv hfl;have hpk:X.env.kindOf x=b0 .cell∨X.env.kindOf x=b0 .free:=by exact S.free (x,.free) bm rfl
   have gx:Vis X.env.scope x:=by
    rcases hpk with z|z
    ·exact .inr (.inl z)
    ·exact .inr (.inr z)
   obtain⟨m,hn,il⟩:=k.loc;obtain⟨u,ru,l⟩:=il i x v hNi hσ gx;refine⟨u,ru,?_⟩;rcases l with⟨hk,_⟩|⟨hk,c,ec,z⟩
   ·rcases hpk with q|q<;>rw[hk]at q<;>cases q
   ·obtain⟨c',O⟩:=gb x bm
    have:c'=c:=by
     have:=cm x c' O
     rw[ec]at this;exact(Bu this).symm
    subst this;have ig:t.lookup x=b3:=by
     cases q:t.lookup x with
     |none=>rfl
     |some d=>
      have:=S.cel (x,.cell) (G x d q).1 rfl
      rw[hfl]at this;cases this
    refine .inr ⟨PC hfl,c',(PY ig).trans O,?_⟩
    ·obtain⟨o,ho,hd⟩:=z
     exact⟨o,I _ _ ho,hd⟩
  ·rcases XW e with n1|⟨_,o1⟩
   ·exact⟨b3,(G x c n1).2.1⟩
   ·obtain⟨v,o,ho,hd⟩:=k.cell x c (cm x c o1)
    exact⟨v,o,I _ _ ho,hd⟩
  ·rcases XW e with n1|⟨_,o1⟩
   ·exact k.hok.fresh (Ij (G x c n1).2.2)
   ·exact k.freeC x c (cm x c o1)
 have iw:∀{pY:List (Sf×Sr)}{s:St}{H':Hp}{s':Ah},bP (Y1 X N' scope (t++cl) s1 (aG H2 a.heap.objs.size (.lst [])) fp) pY s H' s'->bP X aa σ H' s':=λ{pY s H' s'} J'=>
  k.call' J'.os J'.base J'.hok J'.bare λb f=>⟨(f2 b f).2.2.2.1,(f2 b f).2.1,(f2 b f).2.2.2.2.1,(f2 b f).2.2.2.2.2⟩
 have stat:∀{H':Hp}{pY:List (Sf×Sr)},(∀b∈fp,H' b=b3)->pY=[]->∀b∈fp,J5 (Y1 X N' scope (t++cl) s1 (aG H2 a.heap.objs.size (.lst [])) fp) pY H' b:=λ{H' pY} hn hp b f=>by subst hp;refine⟨hn b f,(U.exf b f).1,U.exfs b f,.inl f,(U.exf b f).2,λp hp=>absurd (show p∈([]:List (Sf×Sr)) from hp) (by simp)⟩
 have st1:tn 0 F:=T.keep 0 a.heap F st2 λb f o e=>I b o (gk b o e);have fr1:∀b∈fp,(aG H2 a.heap.objs.size (.lst [])) b=b3:=λb f=>by rw[bC (Bn (dz b f))];exact(f2 b f).1
 have loop:∀B:Ah,B={a with heap:=F}->
   Mv (Sk X.prog X.w) X.A (.compLoop (.ListComp elt [⟨tg,iter,ifs,0⟩] scope pos) 0 (.ref it) (.ref a.heap.objs.size) (compEnvC scope (t++cl) s1.heap.objs.size X.env)) (RR (.ref a.heap.objs.size) s1.heap.objs.size) B:=by
  rintro B rfl;refine iE (λn s'=>∃i s H' acc,bP (Y1 X N' scope (t++cl) s1 (aG H2 a.heap.objs.size (.lst [])) fp) [] s H' s'/\s.take ix.length=XR ix σ/\tn i s'.heap/\(∀b∈fp,H' b=b3)/\W i n acc H') ?_ m0
   ⟨0,_,_,[],IY,by rw[Db (by simp[XR])];exact Bx (by simp[XR]),st1,fr1,w0⟩
  rintro n s' ⟨i,s,H',acc,J',hσ,st',fr',w'⟩;have Jc:bP (Y1 X N' scope (t++cl) s1 (aG H2 a.heap.objs.size (.lst [])) fp) [] (XR ix σ++Ak nl b3) H' s':=by
   refine J'.weak (by rw[dm];exact J'.len.symm) λj v e=>?_;have hl:(XR ix σ).length=ix.length:=by simp[XR]
   by_cases Y:j<ix.length
   ·rw [Ae (by rw [hl];exact Y),<- hσ,Dk Y]at e
    exact e
   ·rw [At (by rw [hl];lia),El]at e
    split at e<;>cases e
  rcases turn i n acc H' w' with⟨stop,q⟩|⟨go,N,hN,step⟩
  ·refine Cu (T.done (Y1 X N' scope (t ++ cl) s1 (aG H2 a.heap.objs.size (.lst [])) fp) rfl rfl rfl hc i [] s' _ H' (λ_ _ => False) Jc (stat fr' rfl) st' stop) (λr s4 ⟨hr,I4⟩ => ?_) λ_ _ z => z
   subst hr;have IX:=iw I4;obtain⟨m,hm,_⟩:=I4.loc;exact fin _ _ s4 H' IX ⟨m,hm⟩ (Hc k.lt) (λx c e z=>by
    obtain⟨v,q⟩:=k.cell x c e;have:=q.lt
    rw[z]at this;exact Cp _ this) (λσ'' R h'' I'' sb=>bP.offNew k I'' I4.free λb o f e=>(sb.2 b f).trans e) q
  ·refine Cu (T.item (Y1 X N' scope (t ++ cl) s1 (aG H2 a.heap.objs.size (.lst [])) fp) rfl rfl rfl hc i [] s' _ H' (λ_ _ => False) Jc (stat fr' rfl) st' go) (λr s4 ⟨u,hr,h4⟩ => ?_) λ_ _ z => z
   subst hr;refine Cu h4 (λ_ s5 ⟨x,H5,I5,r5,y5,st5,fr5⟩=>?_) λ_ _ z=>z;have I5':=I5.pinned (stat fr5 rfl) (T.obj _ _ st5);obtain⟨btg,bts,bel⟩:=blk (t++cl) s1 (aG H2 a.heap.objs.size (.lst [])) fp;refine Cu (btg _ s5 _ H5 x u _ I5' r5 (step x H5 y5)) (λ_ s6 ⟨L,H6,I6,hσ6,q6⟩=>?_) λ_ _ z=>z;have XE:∀{H7:Hp}{s7:Ah}{bq:List V},bP (Y1 X N' scope (t++cl) s1 (aG H2 a.heap.objs.size (.lst [])) fp) ([]++LJ fp s5.heap) L H7 s7->N bq H7->
     ∃m,m<n/\∃i s H' acc,bP (Y1 X N' scope (t++cl) s1 (aG H2 a.heap.objs.size (.lst [])) fp) [] s H' s7/\s.take ix.length=XR ix σ/\tn i s7.heap/\(∀b∈fp,H' b=b3)/\W i m acc H':=λ{H7 s7 bq} I7 n7=>by
    obtain⟨m',hm,w7⟩:=hN bq H7 n7;refine⟨m',hm,i+1,L,H7,bq,I7.unpinned,hσ6,T.keep _ _ _ st5 λb f o e=>(I7.pin (b,o) (Br _ (Br _ (T7 f e)))).1,λb f=>?_,w7⟩;obtain⟨o,e,d⟩:=T.obj _ _ st5 b f;exact(I7.pin (b,o) (Br _ (Br _ (T7 f e)))).2.1
   refine Cu (bts _ s6 L H6 _ I6 q6) (λokb s7 ⟨H7,I7,q7⟩=>?_) λ_ _ z=>z;cases okb with
   |false=>exact XE I7 q7
   |true=>
    refine Cu (bel _ s7 L H7 _ I7 q7) (λv s8 ⟨y,H8,I8,r8,hD8,hz8,n8⟩=>?_) λ_ _ z=>z;refine Cu (aH (X:=Y1 X N' scope (t++cl) s1 (aG H2 a.heap.objs.size (.lst [])) fp) _ s8 L H8 (.ref a.heap.objs.size) [y] (.ref a.heap.objs.size) [v] (λ_ H9=>N (acc++[y]) H9) I8 rfl (.cons r8 .nil)
     ⟨a.heap.objs.size,acc,y,rfl,rfl,hD8,hz8,n8⟩) (λ_ s9 ⟨_,H9,I9,_,n9⟩=>XE I9 n9) λ_ _ z=>z
 have he:({newEnv scope s1.heap.objs.size X.env.globals (t++cl) X.env.qual b3 .none (b0 X.env) builtinsNs with scope:=relabel scope X.env}:Env)=compEnvC scope (t++cl) s1.heap.objs.size X.env:=rfl;exact codeAny_compStart_list (loop _ rfl) (T.self _ 0 _ _ _ st1 (loop _ rfl))
def mO{X:Cx}{tg iter d:Sj}{a:List Sj}{scope:Sx}{pos:Pos}{N':List Si}{ix:List Nat}{nl:Nat}{l:TI}{g:TG}{n:TT}{te:TE}(hc:X.calm=b5)(S:L9 X N' ix scope)(i:N'.length=ix.length+nl)(hi:PI X tg iter l)(k:∀(cl:List (Si×Sf)) (s1:Ah) (H1:Hp) (fp:List Sf),Blk (Y1 X N' scope cl s1 H1 fp) tg a d g n te)(v:∀x,Ss iter X.env x=pure x:=by intro _;rfl):PE X (.ListComp d [⟨tg,iter,a,0⟩] scope pos) (F0 ix nl l g n te):=by intro aa s σ H Q I h;rw[eval_ListComp];obtain⟨cl,M,L,K⟩:=AB (env:=X.env) (scope:=scope) λy u B=>I.ok.has y.1 (S.free y u B);refine Kk (use:=b3) (cl:=cl) rfl v M S.kind S.names (Cu (hi aa s σ H _ I h) (λP p c=>Cu c (λt o b=>?_) λ_ _ e=>e) λ_ _ e=>e);obtain⟨it,fp,R,J,H2,e,N,T,f,f2,q⟩:=b;subst e;refine KO (Q:=Q) (RR:=λacc C=>compPost (Sk X.prog X.w) X.A X.xe b3 (EP X aa σ Q) acc C) hc S i L K k N T f f2 q ?_;intro D C s' H' O j G F E z;obtain⟨m,j⟩:=j;exact⟨m,j,λh'' r=>⟨.ref D,H',E σ s' h'' O r,rfl,z⟩⟩
section
variable{X:Cx}{K:Ao}{ml:List Nat}{pi pt pe pu:Bool}{pos:Pos}{ix:List Nat}{nl:Nat}{f:VF}
noncomputable def KN(N N':List Si)(ix:List Nat)(names:List (Si×Sw))(k:Si->Option Sw):Bool:=
 names.all (λy=>y.2 != .cell || names.lookup y.1==b0 .cell)&&(names.all (λy=>y.2 != .local || names.lookup y.1==b0 .local)&&(names.all (λy=>y.2 != .free || (k y.1==b0 .cell || k y.1==b0 .free)) &&
  (decide N'.Nodup&&((Bm ix.length).all (λj=>N'[j]? ==(ix[j]?).bind λi=>N[i]?)&&(N'.take ix.length).all λx=>names.lookup x==b0 .free))))
def VZ{N':List Si}{scope:Sx}(hk:scope.kind=.function)(h:KN X.N N' ix scope.names X.env.kindOf=b5):L9 X N' ix scope:=by unfold KN at h;simp only[Ag,Ir,Hn,bne_iff_ne,beq_iff_eq,decide_eq_true_eq,Dq]at h;obtain⟨h1,h2,f,d,c,b⟩:=h;exact⟨hk,λy a e=>(h1 y a).resolve_left λz=>z e,λy a e=>(h2 y a).resolve_left λz=>z e,λy a e=>(f y a).resolve_left λz=>z e,d,c,b⟩
abbrev BlkC(X:Cx)(K:Ao)(N':List Si)(ix:List Nat)(scope:Sx)(tg:Sj)(a:List Sj)(b:Sj)(gg:VG)(pt:Bool)(tb:VB)(pe:Bool)(fe:VF):Prop:=N'.Nodup->∀(cl:List (Si×Sf)) (s1:Ah) (H1:Hp) (fp:List Sf),Blk (Y1 X N' scope cl s1 H1 fp) tg a b (TGV K (Bm ix.length) gg) (TB K (Bm ix.length) pt tb) (TV K (Bm ix.length) pe b5 b5 fe)
def ZO{tg iter c:Sj}{a:List Sj}{scope:Sx}{g:VI}{gg:VG}{tb:VB}{fe:VF}(N':List Si)(ix:List Nat)(nl:Nat)(hi:PI X tg iter (TIV K ml pi g))(f:BlkC X K N' ix scope tg a c gg pt tb pe fe)(hc:X.calm=b5:=by rfl)(hk:scope.kind=.function:=by rfl)(b:KN X.N N' ix scope.names X.env.kindOf=b5:=by rfl)(d:N'.length=ix.length+nl:=by rfl)(e:ix.Nodup:=by decide)(i:∀x,Ss iter X.env x=pure x:=by intro _;rfl):PE X (.ListComp c [⟨tg,iter,a,0⟩] scope pos) (TN K ml (pi&&pt&&pe) (ZG ix nl g gg tb fe)):=
 (mO hc (VZ hk b) d hi (f (VZ hk b).nd) i).imp λ_ _ _ h=>B4 e h
def FI{i:Nat}{y:Si}{d U:Pos}{tg iter c:Sj}{b:List Sj}{scope:Sx}{N':List Si}{M:TI}{g:TG}{O:TT}{te:TE}(hN:X.N.Nodup)(B:X.N[i]?=b0 y)(k:X.env.scope.names.lookup y=b0 .local)(hc:X.calm=b5)(S:L9 X N' ix scope)(t:N'.length=ix.length+nl)(hi:PI X tg iter M)(K:∀(cl:List (Si×Sf)) (s1:Ah) (H1:Hp) (fp:List Sf),Blk (Y1 X N' scope cl s1 H1 fp) tg b c g O te)(o:Gv (.ListComp c [⟨tg,iter,b,0⟩] scope pos) (b0 (.Name y d)) U.line X.env=pure b5:=by rfl)(Z:∀x,Ss iter X.env x=pure x:=by intro _;rfl):PS X (.Assign [.Name y d] (.ListComp c [⟨tg,iter,b,0⟩] scope pos) U) (tAsg (F0 ix nl M g O te) (AH i)):=by
 intro aa s σ H D I h;rw[exec_Assign_Name_used _ _ _ _ o];refine Ac (Fy (Ac ?_));show Sg _ X.A (do let _<-comprehension (.ListComp c [⟨tg,iter,b,0⟩] scope pos) scope X.env _ (newList []) ba (eval iter X.env) (b0 (assign (.Name y d) X.env))) _ _ s;obtain⟨cl,e1,e2,e3⟩:=AB (env:=X.env) (scope:=scope) λy k hf=>I.ok.has y.1 (S.free y k hf);refine Ac (Cu (Kk (use:=b0 (assign (.Name y d) X.env)) (cl:=cl) (Q:=λ_ s'=>SP X aa D .next s') rfl Z e1 S.kind S.names
  (Cu (hi aa s σ H _ I h) (λxv R j=>Cu j (λY P f=>?_) λ_ _ e=>e) λ_ _ e=>e)) (λ_ s' r=>As (As r)) λ_ _ e=>e)
 obtain⟨it,fp,tn,J,H2,e,I2,T,l,f2,q⟩:=f;subst e;refine KO (Q:=λv H'=>D.nx (σ.set i (b0 v)) H') (RR:=λacc C=>compPost (Sk X.prog X.w) X.A X.xe (b0 (assign (.Name y d) X.env)) (λ_ s'=>SP X aa D .next s') acc C) hc S t e2 e3 K I2 T l f2 q ?_;intro V C s' H' I' u G F hb r;obtain⟨m,u⟩:=u;show Sg _ X.A (assign (.Name y d) X.env (.ref V)) _ _ _;refine Hw (JS I' hN B (.inl k) (v:=.ref V) rfl (λn L ⟨a,p,ha⟩=>?_) (.inr k));have E:C≠a:=by
  rcases ha with z|z
  ·rw[z];exact G
  ·exact Dj (F y a z)
 exact⟨m,u.sameBut p E,λh'' W=>⟨_,H',hb _ n h'' L W,r⟩⟩
def dO{i:Nat}{y:Si}{l m:Pos}{tg iter b:Sj}{a:List Sj}{scope:Sx}{j:VI}{gg:VG}{tb:VB}{fe:VF}(o:Bool)(r:X.N.Nodup)(N':List Si)(ix:List Nat)(nl:Nat)(hi:PI X tg iter (TIV K ml pi j))(k:BlkC X K N' ix scope tg a b gg pt tb pe fe)(g:X.N[i]?=b0 y:=by rfl)(n:X.env.scope.names.lookup y=b0 .local:=by rfl)(hc:X.calm=b5:=by rfl)(hk:scope.kind=.function:=by rfl)(c:KN X.N N' ix scope.names X.env.kindOf=b5:=by rfl)(e:N'.length=ix.length+nl:=by rfl)(f:ix.Nodup:=by decide)(q:i∉ml:=by decide)(d:Gv (.ListComp b [⟨tg,iter,a,0⟩] scope pos) (b0 (.Name y l)) m.line X.env=pure b5:=by rfl)(p:∀x,Ss iter X.env x=pure x:=by intro _;rfl):PS X (.Assign [.Name y l] (.ListComp b [⟨tg,iter,a,0⟩] scope pos) m) (TJ K ml (aK i (if o then xO (ZG ix nl j gg tb fe)else xV (ZG ix nl j gg tb fe)))):=
 (FI r g n hc (VZ hk c) e hi (k (VZ hk c).nd) d p).imp λD σ H h=>Wb (λσ H Q z=>B4 f (Uy (pu:=pi&&pt&&pe) z)) q h
end
section
variable{X:Cx}{K:Ao}{ml:List Nat}{e a b c:Sj}{es:List Sj}{pi pt pe pu bt bi ps bs:Bool}{f:VF}{B B':Bs}{O:Nat->Option Sf}{H H0 H1 H':Hp}{σ:St}{δ δ':Ev}{v:V}{d:cM}{p:Sf}{pos:Pos}{ix:List Nat}{nl:Nat}
def iX(K:Ao)(N:Sf->Prop)(J:It)(H:Hp)(ds:List cM):Prop:=∃xs:List V,bT K N H xs ds/\∀H2,aD H H2->(∀(i:Nat) (x:V),xs[i]?=b0 x->J.go i H2/\∀y a,J.yld i H2 y a->a=H2/\y=x)/\J.stop xs.length H2
inductive Xe(K:Ao)(ml:List Nat)(f:VI)(σ:St)(H:Hp)(R:It->Hp->Prop):Prop
 |mk (B:_) (O:_) (δ:_) (ds:_) (δ':_) (h0:Z0 K ml B O H σ δ) (h1:f δ=b0 (ds,δ')) (h2:∀J H',Z0 K ml B O H' σ δ'->aD H H'->iX K (Nn B O) J H' ds->R J H'):Xe K ml f σ H R
def TIVp(K:Ao)(ml:List Nat)(f:VI):TI:=λσ H R=>Xe K ml f σ H R
def cU{j:VI}{gg:VG}{tb:VB}{fe:VF}(b:ix.Nodup){Q:VK}(h:TN K ml b5 (ZG ix nl j gg tb fe) σ H Q):F0 ix nl (TIVp K ml j) (TGV K (Bm ix.length) gg) (TB K (Bm ix.length) b5 tb) (TV K (Bm ix.length) b5 b5 b5 fe) σ H Q:=by obtain⟨B,O,δ,ds,δ',S,e,k⟩:=F5 (pi:=b5) (pt:=b5) (pe:=b5) b h;refine⟨B,O,δ,ds,δ',S,e,λJ H' o p w=>?_⟩;obtain⟨c,a,f⟩:=w;refine k J (c.zip ds) H' (o.keepV (WH a)) p.fr (λ_=>p) λN H1 z g=>⟨λi d hd=>?_,by rw[<-a.length];exact(f H1 (g rfl)).2⟩;obtain⟨x,m,n⟩:=(UA a.length z).get hd;have w:=(f H1 (g rfl)).1 i x m;exact⟨w.1,λy q l=>by obtain⟨rfl,rfl⟩:=w.2 y q l;exact⟨.refl _,n⟩⟩
def aD.sqT{a:Sf}{xs:List V}(s:aD H H')(h:UV K H a xs):UV K H' a xs:=Fr.tup (P:=λ_=>False) s.fr h
def lS{tg:Sj}(n:X.K=K)(h:PE X e (TV K ml b5 bt bi f))(o:bi=b5:=by rfl):PI X tg e (TIVp K ml (WB f)):=by
 subst o;refine((Xw (K:=K) n h).or (Ua (K:=K) n h)).imp λσ H R g=>?_;obtain⟨B,O,δ,ds,δ',S,q,k⟩:=g;unfold WB at q;obtain⟨⟨x,δ1⟩,h1,q⟩:=Aa.mp q;cases x with
 |lst m=>
  cases q;refine .inl ⟨B,O,δ,_,δ1,S,h1,λv H1 c=>?_⟩;obtain⟨a,xs,rfl,sq,r⟩:=c.rep.lstE;refine⟨a,rfl,⟨xs,sq⟩,k _ H1 c.sta (c.pur rfl) ⟨xs,r,λH2 b=>⟨λi x ex=>⟨⟨xs,x,b.seq sq,ex⟩,λy p d=>?_⟩,xs,b.seq sq,Au _⟩⟩⟩;obtain⟨l,j⟩:=d;have:=j xs (b.seq sq)
  rw[ex]at this;cases this;exact⟨l,rfl⟩
 |tup m=>
  cases q;refine .inr ⟨B,O,δ,_,δ1,S,h1,λv H1 c=>?_⟩;obtain⟨a,xs,rfl,sq,r⟩:=c.rep.tupE;refine⟨a,rfl,⟨xs,sq⟩,k _ H1 c.sta (c.pur rfl) ⟨xs,r,λH2 b=>⟨λi x ex=>⟨⟨xs,x,b.sqT sq,ex⟩,λy p d=>?_⟩,xs,b.sqT sq,Au _⟩⟩⟩;obtain⟨l,j⟩:=d;have:=j xs (b.sqT sq)
  rw[ex]at this;cases this;exact⟨l,rfl⟩
 |_=>cases q
def fI{i:Nat}{y:Si}{l m:Pos}{tg iter b:Sj}{a:List Sj}{scope:Sx}{j:VI}{gg:VG}{tb:VB}{fe:VF}(o:Bool)(s:X.N.Nodup)(N':List Si)(ix:List Nat)(nl:Nat)(hi:PI X tg iter (TIVp K ml j))(k:BlkC X K N' ix scope tg a b gg pt tb pe fe)(g:X.N[i]?=b0 y:=by rfl)(n:X.env.scope.names.lookup y=b0 .local:=by rfl)(hc:X.calm=b5:=by rfl)(hk:scope.kind=.function:=by rfl)(c:KN X.N N' ix scope.names X.env.kindOf=b5:=by rfl)(e:N'.length=ix.length+nl:=by rfl)(f:ix.Nodup:=by decide)(q:(pt&&pe)=b5:=by rfl)(r:i∉ml:=by decide)(d:Gv (.ListComp b [⟨tg,iter,a,0⟩] scope pos) (b0 (.Name y l)) m.line X.env=pure b5:=by rfl)(p:∀x,Ss iter X.env x=pure x:=by intro _;rfl):PS X (.Assign [.Name y l] (.ListComp b [⟨tg,iter,a,0⟩] scope pos) m) (TJ K ml (aK i (if o then xO (ZG ix nl j gg tb fe)else xV (ZG ix nl j gg tb fe)))):=by obtain⟨h1,h2⟩:=(Ag _ _).mp q;subst h1 h2;exact(FI s g n hc (VZ hk c) e hi (k (VZ hk c).nd) d p).imp λD σ H h=>Wb (λσ H Q z=>cU f (Uy (pu:=b5) z)) r h
end
section
variable{X:Cx}{K:Ao}{ml:List Nat}{e a b c:Sj}{es:List Sj}{pa ta ia pb tb ib pc tc ic pu bt bi ps bs:Bool}{fa fb fc f:VF}{B B':Bs}{O:Nat->Option Sf}{H H1 H':Hp}{σ:St}{δ δ':Ev}{v:V}{d:cM}{p:Sf}{pos:Pos}
def rSum(K:Ao):RC:=λxs H Q=>∃(p:Sf) (ns:List Int),xs=[.ref p]/\W7 K H p (ns.map V.int)/\Q (.int ns.sum) H
def dJ(hc:X.calm=b5):Z2 X (.builtin "sum") (rSum X.K):=by
 intro aa s σ H xs us Q I r h;obtain⟨l,ns,rfl,f,q⟩:=h;obtain⟨u,rfl,b⟩:=UR r;cases b;obtain⟨its,c,d,hz⟩:=I.list f;have hi:=T6 c;obtain⟨xs,ex⟩:=hi.allInts.items;have a:ns=xs.toList.map (·.1):=by rw[<-hi.numsOf,<-nums_intItems,<-ex]
 have hl:=d.isList;rw[ex]at hl;refine sum_intListG (I.ok.hd hc) hl λh' tk t' hk=>?_;have e:preSum (numAt xs) xs.size=ns.sum:=by rw[preSum_eq,Bx (by simp),a]
 rw[e];exact⟨.int ns.sum,H,I.kept (t':=tk) hk,⟨_,rfl⟩,q⟩
def Zb(hc:X.calm=b5)(h:X.K=K:=by rfl):Z2 X (.builtin "sum") (rSum K):=by subst h;exact dJ hc
def oSum:cM->Option cM
 |.lst ds=>(W8 ds).map λns=>.int ns.sum
 |_=>b3
def jL:CalS K (rSum K) oSum:=by
 intro H N M x d c Q b h k;cases d with
 |lst ds=>
  have h:(W8 ds).map (λns=>cM.int ns.sum)=b0 c:=h;obtain⟨ns,h1,h⟩:=Am.mp h;cases h;obtain⟨a,xs,rfl,sq,r⟩:=b.lstE;have e:=SF r h1;subst e;exact⟨a,ns,rfl,sq,k _ λ_ _ _=>.int _⟩
 |_=>cases h
def gT:Bj "sum"=b0 (.builtin "sum"):=by decide+kernel
structure B9(K:Ao)(x qual:Si)(st:Su)(dV:Se)(f:Sf)(fd:Ey):Prop where
 ex:∃(oc:Se) (od:Option Sf) (kV doc pm:Se) (an:Option Sf) (cdv ct:Se) (osl:Array (Option Se)),
  fd=Jz x qual (YR st) (ZR st) (bJ st) dV kV doc pm an cdv ct/\K.lookup f=b0 ⟨oc,od,.func fd,osl⟩/\Ku K cdv qual=b5
 kp:Il K (.ref f)=b5
def AG{x a:Si}{st:Su}{g:Se}{f:Sf}{i:Se}{od h:Option Sf}{d:Array (Option Se)}{kV doc e b ct:Se}(l:K.lookup f=b0 ⟨i,od,.func (Jz x a (YR st) (ZR st) (bJ st) g kV doc e h b ct),d⟩)(c:Ku K b a=b5)(k:Il K (.ref f)=b5):B9 K x a st g f (Jz x a (YR st) (ZR st) (bJ st) g kV doc e h b ct):=⟨⟨i,od,kV,doc,e,h,b,ct,d,rfl,l,c⟩,k⟩
def B9.okV{P:Bh}{w:Sm}{mg:Si->Option Se}{base:Sq}{x a:Si}{st:Su}{n:Se}{f:Sf}{fd:Ey}{N ps:List Si}{k:Nat}{g:VS}(F:B9 K x a st n f fd)(S:XD N ps (bJ st))(d:ps.length<=N.length)(o:∀(b:Se) (A:Dh) (outer:List Env) (s:Ah) (H:Hp) (E:XK),X5 k (A.deeper (Iu a (bJ st) s.heap.objs.size f b))->NH (KA CX0 P w K mg base N a (bJ st) f b A outer s H E).nox (ZR st) (TJ K ml g)):S9 P w K mg base CX0 (k+1) f fd ps (spV K ml ps.length (aT N.length ml g)):=by obtain⟨q,od,kV,doc,p,t,b,ct,i,rfl,j,e⟩:=F.ex;refine Wp j e S (λvs H Q E h=>?_) λA outer s H vs Q E l c=>⟨_,(o b A outer s H E l).nox,Vx d c⟩;obtain⟨Z,ds,r,os,m,AV,_⟩:=h;rw[AV.len,m]
def B9.binds{x a:Si}{st:Su}{T f:Sf}{fd:Ey}{ps:List Si}{o:Sr}{its:Array Se}{n m:Nat}{ds:List Se}(F:B9 K x a st (.ref T) f fd)(i:K.lookup T=b0 o)(g:o.data=.seq its n)(h:∀(kV doc c:Se) (d:Option Sf) (b ct:Se) (us:List Se),us.length=m->∃k,bindArgs (Jz x a (YR st) (ZR st) (bJ st) (.ref T) kV doc c d b ct) ⟨us,[]⟩=seqItems? (.ref T)>>=k/\k (b0 its)=pure (ps.zip (us++ds)))(r:m+ds.length=ps.length:=by rfl):OD K fd ps ds:=by obtain⟨p,od,kV,doc,c,d,b,ct,e,rfl,q,j⟩:=F.ex;intro s us l hl;obtain⟨k,h1,h2⟩:=h kV doc c d b ct us (by rw[Ay]at hl;lia);exact BindsTo.of_defaults rfl (l _ _ i) g h1 h2
structure DefD(P:Bh)(w:Sm)(K:Ao)(mg:Si->Option Se)(base:Sq)(x:Si)(k:Nat)(ps:List Si)(sp:Sp)(f:Sf)(v0:V):Prop where
 at_:mg x=b0 (.ref f)
 ok:∃fd u0,S9 P w K mg base CX0 k f fd ps sp/\OD K fd ps [u0]/\aW v0 u0
 kp:Il K (.ref f)=b5
def dflt(F:bW)(d:cM):bW:=λds=>F (ds++[d])
def j9{mF:List Nat}{m:Nat}{F:bW}{vs:List V}{Q:VK}{E:XK}(I:∀N H M,aU K N H M v d)(J:∀a,v≠ .ref a)(h:spV K mF m (dflt F d) vs H Q E):spV K mF (m+1) F (vs++[v]) H Q E:=by
 obtain⟨Z,ds,r,os,hl,A,L,k⟩:=h;have t:∀(i:Nat) (a:Sf),(vs++[v])[i]?=b0 (.ref a)->vs[i]?=b0 (.ref a):=λi a h=>by
  by_cases hi:i<vs.length
  ·rwa[Ae hi]at h
  ·rw [At (by lia)]at h
   cases b:i-vs.length with
   |zero=>rw[b]at h;cases h;exact absurd rfl (J a)
   |succ j=>rw[b]at h;simp at h
 have n:∀(i:Nat) (u:V),vs[i]?=b0 u->(vs++[v])[i]?=b0 u:=λi u h=>by rw[Ae (Af.mp h).1];exact h
 have y:∀a,VA mF (vs++[v]) a->VA mF vs a:=λa ⟨i,hi,e⟩=>⟨i,hi,t i a e⟩;have q:∀a,VA mF vs a->VA mF (vs++[v]) a:=λa ⟨i,hi,e⟩=>⟨i,hi,n i _ e⟩;have p:∀a,Zp Z mF (vs++[v]) a->Zp Z mF vs a:=λa h=>h.imp id (y a);have g:∀a,Zp Z mF vs a->Zp Z mF (vs++[v]) a:=λa h=>h.imp id (q a);refine⟨Z,ds++[d],r,os,by simp[hl],⟨by simp[A.len],λi hi=>?_,λi x hi e=>?_,λi x hi e=>?_,λi j a hi b l s=>A.inj i j a hi b (t i a l) (t j a s),A.zin⟩,L,λu H' f w C=>k u H' (f.mono y) (λG i a o l s O=>(w G i a o l (n i _ s) O).mono g) (C.mono g g)⟩
 ·have:=A.mem i hi
  simp;lia
 ·by_cases c:i<ds.length
  ·rw[Ae c]at e
   obtain⟨u,l,D⟩:=A.va i x hi e;exact⟨u,n i u l,D.mono p p⟩
  ·rw [At (by lia)]at e
   cases b:i-ds.length with
   |zero=>
    rw[b]at e;cases e;have:i=vs.length:=by have:=A.len;lia
    subst this;exact⟨v,by rw[At (by lia)];simp,I _ _ _⟩
   |succ j=>rw[b]at e;simp at e
 ·have c:=A.mem i hi
  rw[Ae c]at e;obtain⟨u,l,B,z⟩:=A.ow i x hi e;exact⟨u,n i _ l,B.mono p,z⟩
def F8{x:Si}{f j m:Nat}{qs:List Si}{mF:List Nat}{F:bW}{s:Sf}{p':Pos}{fs:TD}(r:X.K=K)(D:DefD X.prog X.w K X.mg X.base x f qs (spV K mF (m+1) F) s v)(g:∀N H M,aU K N H M v d)(l:∀a,v≠ .ref a)(i:X5 j X.A)(hk:f<=j)(n:Gl X x)(p:PA X (e::es) (TAG K ml ps fs))(c:ND x:=by decide)(o:SE X e es:=by rfl)(b:(Ex pos (Bb es X.env)).any (·.1)=ba:=by rfl):PE X (.Call (.Name x p') (e::es) [] pos) (TV K ml (ps&&mF.isEmpty) b5 b5 (cA m mF (dflt F d) fs)):=by subst r;obtain⟨fd,y,t,u,hd⟩:=D.ok;refine(A6 t (i.mono hk) n D.at_ D.kp u (.cons hd .nil) Tg p c o b).imp λσ H Q h=>?_;obtain⟨B,O,δ,as,δ',S,q,k⟩:=RQ h;exact⟨B,O,δ,as,δ',S,q,λvs H' R=>j9 g l (by have z:spV X.K mF m (dflt F d) (vs++[]) H' Q E0:=k vs H' R;rwa[Cz]at z)⟩
noncomputable def U9:List (Si×bW)->Si->Option bW
 |[],_=>b3
 |(y,F)::r,x=>if y=x then b0 F else U9 r x
def Tc(X:Cx)(K:Ao)(mF:List Nat)(n:Nat)(tb:List (Si×bW)):Prop:=∀x F a,U9 tb x=b0 F->Ly K So x=b0 (b0 (.ref a))->FnAt X a (spV K mF n F)
def kS{mF:List Nat}{n:Nat}:Tc X K mF n []:=λ_ _ _ h=>nomatch h
def VW{x:Si}{c j n:Nat}{qs:List Si}{mF:List Nat}{F:bW}{h:Sf}{tb:List (Si×bW)}(g:X.K=K)(f:∀x a,Ly K So x=b0 (b0 (.ref a))->X.mg x=b0 (.ref a))(d:X5 j X.A)
  (D:Def X.prog X.w K X.mg X.base x c qs (spV K mF n F) h) (hk:c<=j) (t:Tc X K mF n tb):Tc X K mF n ((x,F)::tb):=λy G a h1 h2=>by
 unfold U9 at h1;split at h1
 ·rename_i b
  subst b;cases h1;have e:=(f x a h2).symm.trans D.at_;cases e;subst g;exact D.fnAt d hk
 ·exact t y G a h1 h2
def KW(n:Nat)(mF:List Nat)(tb:List (Si×bW))(i:Nat)(fs:TD):VF:=λδ=>match δ[i]? with
 |some (.va (.fn x))=>(U9 tb x).bind λF=>cA n mF F fs δ
 |_=>b3
def eW{y:Si}{i n:Nat}{mF:List Nat}{tb:List (Si×bW)}{p':Pos}{fs:TD}(c:Tc X K mF n tb)(f:PE X (.Name y p') (WF i))(j:PA X (e::es) (TAG K ml ps fs))(g:SE X e es:=by rfl)(a:(Ex pos (Bb es X.env)).any (·.1)=ba:=by rfl):
  PE X (.Call (.Name y p') (e::es) [] pos) (TV K ml (ps&&mF.isEmpty) b5 b5 (KW n mF tb i fs)):=(kF f j g a).imp λσ H Q h=>by
 obtain⟨B,O,δ,d,δ',S,q,k⟩:=h;unfold KW at q;split at q
 ·rename_i x b
  obtain⟨F,l,q⟩:=Aa.mp q;obtain⟨v,m,r⟩:=S.va i _ b;obtain⟨_,rfl,h⟩:=r.onF
  ·
   refine⟨_,m,_,_,rfl,c x F _ l h,?_⟩;obtain⟨B,O,δ,as,δ',S,q,k⟩:=RQ (F:=F) (fs:=fs) (K:=K) (ml:=ml) (ps:=ps) (n:=n) (mF:=mF) (σ:=σ) (H:=H) (Q:=Q) ⟨B,O,δ,d,δ',S,q,k⟩;exact⟨B,O,δ,as,δ',S,q,λvs H' R=>by have z:spV K mF n F (vs++[]) H' Q E0:=k vs H' R;rwa[Cz]at z⟩
 ·cases q
end
section
variable{X:Cx}{K:Ao}{ml:List Nat}{e a b c:Sj}{es:List Sj}{pa ta ia pb tb ib pc tc ic pu bt bi ps bs:Bool}{fa fb fc f:VF}{B B':Bs}{O:Nat->Option Sf}{H H1 H':Hp}{σ:St}{δ δ':Ev}{v:V}{d:cM}{p:Sf}{pos:Pos}
noncomputable def CW(d0:cM)(i:Nat)(F:bW):bW:=λds=>(F (ds.take i++d0::ds.drop i)).map λq=>(q.1,q.2.dropLast)
def QV.awayS{H2:Hp}{N N':Sf->Prop}{q:Sf}(c:H p=b3)(b:aD H H2)(e:∀a,N' a->N a∨a=p)(w:QV K N H q d):QV K N' H2 q d:=by
 cases w with
 |lst q r=>exact .lst (b _ _ q) ((r.away c _ _ e).same b)
 |dct q r=>exact .dct (b _ _ q) ((r.away c _ _ e).same b)
 |nst q r=>exact .nst (q.same b) ((r.away c _ _ e).same b)
def FX{d0:cM}{H2:Hp}{mF:List Nat}{i:Nat}{F:bW}{c:List V}{Q:VK}{E:XK}(s:∀j∈mF,j<i)(I:H p=b3)(M:aD H H2)(own:∀N,QV K N H2 p d0)(h:spV K mF (i+1) (CW d0 i F) (c++[v]) H Q E):spV K (mF++[i]) (i+2) F (c++[.ref p,v]) H2 Q E:=by
 obtain⟨Z,ds,r,os,hl,A,J,k⟩:=h;obtain⟨l,d,rfl⟩:∃l d,ds=l++[d]:=⟨ds.dropLast,ds.getLast (λz=>by rw[z]at hl;cases hl),(Gg _).symm⟩;have n:l.length=i:=by simpa using hl
 have B:c.length=i:=by have:=A.len;simp at this;lia
 unfold CW at J;rw[Md n,Qi n]at J;obtain⟨⟨r',R⟩,h0,J⟩:=Am.mp J;cases J;have lo:∀(j:Nat),j<i->(c++[.ref p,v])[j]?=(c++[v])[j]? :=λj g=>by rw[Ae (by lia),Ae (by lia)]
 have t:(c++[.ref p,v])[i]?=b0 (.ref p):=by rw[At (by lia),B,Fx];rfl
 have at2:(c++[.ref p,v])[i+1]?=b0 v:=by rw[At (by lia),B,show i+1-i=1 by lia];rfl
 have at3:(c++[v])[i]?=b0 v:=by rw[At (by lia),B,Fx];rfl
 have L:∀(j:Nat),j<i->(l++d0::[d])[j]?=(l++[d])[j]? :=λj g=>by rw[Ae (by lia),Ae (by lia)]
 have dt1:(l++d0::[d])[i]?=b0 (d0):=by rw[At (by lia),n,Fx];rfl
 have dt2:(l++d0::[d])[i+1]?=b0 d:=by rw[At (by lia),n,show i+1-i=1 by lia];rfl
 have dt3:(l++[d])[i]?=b0 d:=by rw[At (by lia),n,Fx];rfl
 have hP:∀a,VA (mF++[i]) (c++[.ref p,v]) a->VA mF (c++[v]) a∨a=p:=λa q0=>by
  obtain⟨j,g,e⟩:=q0;rcases Bo.mp g with g|g
  ·exact .inl ⟨j,g,by rw[<-lo j (s j g)];exact e⟩
  ·rw[An.mp g,t]at e
   cases e;exact .inr rfl
 have Y:∀a,VA mF (c++[v]) a->VA (mF++[i]) (c++[.ref p,v]) a:=λa ⟨j,g,e⟩=>⟨j,Bz _ g,by rw[lo j (s j g)];exact e⟩;have X:∀a,Zp Z (mF++[i]) (c++[.ref p,v]) a->Zp Z mF (c++[v]) a∨a=p:=λa h=>by
  rcases h with h|h
  ·exact .inl (.inl h)
  ·exact(hP a h).imp .inr id
 have C:∀a,Zp Z mF (c++[v]) a->Zp Z (mF++[i]) (c++[.ref p,v]) a:=λa h=>h.imp id (Y a);have up:∀{u:V}{x:cM},aU K (Zp Z mF (c++[v])) H (Zp Z mF (c++[v])) u x->aU K (Zp Z (mF++[i]) (c++[.ref p,v])) H2 (Zp Z (mF++[i]) (c++[.ref p,v])) u x:=λr=>(r.away I _ _ X X).same (M);have D:∀{j:Nat},j∈mF->(c++[v])[j]? ≠b0 (.ref p):=λ{j} g e=>by have hj':=A.mem j g;obtain⟨a,m,w,_⟩:=A.ow j ((l++[d])[j]'hj') g (by simp);rw[e]at m;cases m;obtain⟨o,q,_⟩:=w.soft;rw[I]at q;cases q
 refine⟨Z,l++d0::[d],_,R,by simp[n],⟨by simp;lia,λj g=>?_,λj x g e=>?_,λj x g e=>?_,λS G a h1 h2 m y=>?_,λa h=>let ⟨o,q⟩:=A.zin a h;⟨o,M _ _ q⟩⟩,h0,λu H' f w rr=>k u H' (λb o W hc=>f b o (M _ _ W) λz=>?_) (λkk j a o m y O=>?_) (rr.mono C C)⟩
 ·rcases Bo.mp g with g|g
  ·have:=s j g
   simp;lia
  ·rw[An.mp g]
   simp;lia
 ·have T : j ∉ mF := λz => g (Bz _ z)
  have hji:j≠i:=λz=>g (Br _ (An.mpr z));by_cases h1:j<i
  ·rw[L j h1]at e
   obtain⟨u,m,P⟩:=A.va j x T e;exact⟨u,by rw[lo j h1];exact m,up P⟩
  ·have U:j=i+1:=by
    have:=(Af.mp e).1
    simp at this;lia
   subst U;rw[dt2]at e;cases e;obtain⟨u,m,P⟩:=A.va i d (λz=>absurd (s i z) (Cp _)) dt3;rw[at3]at m;cases m;exact⟨v,at2,up P⟩
 ·rcases Bo.mp g with g|g
  ·rw[L j (s j g)]at e
   obtain⟨u,m,w1,z1⟩:=A.ow j x g e;exact⟨u,by rw[lo j (s j g)];exact m,w1.awayS I M X,z1⟩
  ·have:=An.mp g
   subst this;rw[dt1]at e;cases e;exact⟨p,t,own _,λz=>by obtain⟨o,q⟩:=A.zin p z;rw[I]at q;cases q⟩
 ·rcases Bo.mp h1 with h1|h1
  ·rw[lo S (s S h1)]at m
   rcases Bo.mp h2 with h2|h2
   ·rw[lo G (s G h2)]at y
    exact A.inj S G a h1 h2 m y
   ·rw[An.mp h2,t]at y
    cases y;exact absurd m (D h1)
  ·rcases Bo.mp h2 with h2|h2
   ·rw[lo G (s G h2)]at y
    rw[An.mp h1,t]at m;cases m;exact absurd y (D h2)
   ·rw[An.mp h1,An.mp h2]
 ·rcases hP b z with z|z
  ·exact hc z
  ·rw[z,I]at W
   cases W
 ·refine(w kk j a o ?_ ?_ ?_).mono C
  ·rw[Ae (Af.mp m).1]
   exact m
  ·rw[lo j (s j (Cn m))]
   exact y
  ·rw[List.getElem?_dropLast]at O
   split at O
   ·exact O
   ·cases O
inductive Xf(K:Ox)(ml:List Nat)(pu:Bool)(W:Hp->Sf->Hp->Prop)(f:TD)(σ:St)(H:Hp)(Q:List V->Hp->Prop):Prop
 |mk (B:_) (O:_) (δ:_) (as:_) (δ':_) (h0:Z0 K ml B O H σ δ) (h1:f δ=b0 (as,δ')) (h2:∀vs H',ResG K ml B O H σ pu H' δ' vs as->∀vs1 v,vs=vs1++[v]->∀p H2,W H' p H2->Q (vs1++[.ref p,v]) H2):Xf K ml pu W f σ H Q
def DY(K:Ox)(ml:List Nat)(pu:Bool)(W:Hp->Sf->Hp->Prop)(f:TD):TA:=λσ H Q=>Xf K ml pu W f σ H Q
def WG(K:Ao)(d0:cM)(H:Hp)(p:Sf)(H2:Hp):Prop:=H p=b3/\aD H H2/\∀N,QV K N H2 p d0
def WE(H:Hp)(p:Sf)(H2:Hp):Prop:=H p=b3/\H2=aG H p (.dK [])
abbrev TAGG(K:Ao)(ml:List Nat)(pu:Bool)(d0:cM)(f:TD):TA:=DY K ml pu (WG K d0) f
def insD(i:Nat)(F:bW):bW:=CW (.dct [] []) i F
def gM{mF:List Nat}{i:Nat}{F:bW}{a:List V}{Q:VK}{E:XK}(c:∀j∈mF,j<i)(b:H p=b3)(h:spV K mF (i+1) (insD i F) (a++[v]) H Q E):spV K (mF++[i]) (i+2) F (a++[.ref p,v]) (aG H p (.dK [])) Q E:=
 FX c b (cD b) (λ_=>.dct (kvs:=[]) bU .nil) h
abbrev TAGE(K:Ao)(ml:List Nat)(pu:Bool)(f:TD):TA:=DY K ml pu WE f
def lV{j:Nat}{f:Pos}(i:PE X b (WF j))(g:Bb (.Dict [] [] f::b::[]) X.env=(ba,eval (.Dict [] [] f) X.env)::Bb (b::[]) X.env:=by rfl)(a:SE X b []:=by rfl):
  PA X [.Dict [] [] f,b] (TAGE K ml b5 (aE (fV j) bR)):=(bL LH (bL i ZU a) g).imp λσ H Q c=>by
 obtain⟨B,O,δ,as,δ2,S,q,k⟩:=c;unfold aE at q;obtain⟨z,h1,q⟩:=Aa.mp q;cases q;unfold fV at h1;split at h1
 ·rename_i d hd
  cases h1;intro p h;obtain⟨v,e,r⟩:=S.va j _ hd;exact⟨v,e,k [v] H ⟨S,Fr.refl _ _,λ_=>aD.refl _,.d r .nil⟩ [] v rfl p _ ⟨h,rfl⟩⟩
 ·cases h1
def J2{W:Hp->Sf->Hp->Prop}{fs:TD}(n:PE X a (TV K ml pa b5 b5 fa))(l:PA X es (DY K ml ps W fs))(j:SE X a es:=by rfl):PA X (a::es) (DY K ml (pa&&ps) W (aE fa fs)):=(bL n l j).imp λσ H Q e=>by obtain⟨B,O,δ,as,δ2,S,q,k⟩:=e;unfold aE at q;obtain⟨⟨x,δ1⟩,h1,q⟩:=Aa.mp q;have q:((fs δ1).map λq=>(AV.d x::q.1,q.2))=b0 (as,δ2):=q;obtain⟨p2,h2,q⟩:=Am.mp q;cases q;refine⟨B,O,δ,x,δ1,S,h1,λf H1 b=>⟨B,O,δ1,_,_,b.sta,h2,λvs H2 R2 c v i p m=>k (f::vs) H2 ⟨R2.sta,b.frm.trans R2.frm,λz=>?_,.d (b.rep.fr R2.frm (λa z=>.inr z) λa z=>.inr z) R2.rep⟩ (f::c) v (by rw[i];rfl) p m⟩⟩;obtain⟨h,g⟩:=(Ag _ _).mp z;exact(b.pur h).trans (R2.pur g)
def Xm{W:Hp->Sf->Hp->Prop}{fs:TD}{j:Nat}(l:PE X a (WF j))(h:PA X es (DY K ml ps W fs))(g:SE X a es:=by rfl):PA X (a::es) (DY K ml ps W (aO j fs)):=(bL l h g).imp λσ H Q c=>by obtain⟨B,O,δ,as,δ2,S,q,k⟩:=c;unfold aO at q;obtain⟨d,h1,q⟩:=Aa.mp q;have q:((fs δ).map λq=>(AV.o j::q.1,q.2))=b0 (as,δ2):=q;obtain⟨p2,h2,q⟩:=Am.mp q;cases q;obtain⟨v,e⟩:=S.slot h1;exact⟨v,e,B,O,δ,_,_,S,h2,λvs H2 R2 b u f p i=>k (v::vs) H2 ⟨R2.sta,R2.frm,R2.pur,.o e R2.rep⟩ (v::b) u (by rw[f];rfl) p i⟩
def Zx{fs:TD}{j:Nat}{as:List AV}(q:aO j fs δ=b0 (as,δ')):∃d a,slot δ j=b0 d/\fs δ=b0 (a,δ')/\as=.o j::a:=by
 unfold aO at q;cases h1:slot δ j with
 |none=>rw[h1]at q;cases q
 |some d=>
  rw[h1]at q;have q:((fs δ).map λq=>(AV.o j::q.1,q.2))=b0 (as,δ'):=q;cases h2:fs δ with
  |none=>rw[h2]at q;cases q
  |some p2=>
   rw[h2]at q;cases q;exact⟨d,_,rfl,rfl,rfl⟩
def hV{x:Si}{d j i:Nat}{qs:List Si}{mF:List Nat}{F:bW}{t:Sf}{p':Pos}{fs:TD}(s:X.K=K)(D:Def X.prog X.w K X.mg X.base x d qs (spV K (mF++[i]) (i+2) F) t)(m:∀j∈mF,j<i)(g:X5 j X.A)(hk:d<=j)(n:Gl X x)(r:PA X (e::es) (TAGE K ml ps fs))(c:ND x:=by decide)(o:SE X e es:=by rfl)(b:(Ex pos (Bb es X.env)).any (·.1)=ba:=by rfl):PE X (.Call (.Name x p') (e::es) [] pos) (TV K ml (ps&&mF.isEmpty) b5 b5 (cA (i+1) mF (insD i F) fs)):=by subst s;refine(O0 D g hk n r c o b).imp λσ H Q h=>?_;obtain⟨B,O,δ,as,δ',S,q,k⟩:=RQ h;refine⟨B,O,δ,as,δ',S,q,λvs H' R a v f p H2 hw=>?_⟩;obtain⟨l,rfl⟩:=hw;subst f;have z:spV X.K mF (i+1) (insD i F) ((a++[v])++[]) H' Q E0:=k _ H' R;show spV X.K (mF++[i]) (i+2) F ((a++[.ref p,v])++[]) (aG H' p (.dK [])) Q E0;rw[Cz]at z⊢;exact gM m l z
end
section
variable{X:Cx}{K:Ao}{ml:List Nat}{e a b c:Sj}{es:List Sj}{pa ta ia pb tb ib pc tc ic pu bt bi ps bs:Bool}{fa fb fc f:VF}{pos p':Pos}{d:cM}{x:Si}
def vv(i:Nat)(c:X.N[i]?=b0 x:=by rfl)(b:Vis X.env.scope x:=by first|exact Ml rfl|exact Mm (Ml rfl)|exact Mm (Mm rfl))(hd:ND x:=by decide)(a:(x==("__classdict__":Si))=ba:=by decide):PE X (.Name x pos) (TV K ml b5 b5 b5 (fV i)):=jR (DA c b hd a)
def vo(i:Nat)(c:X.N[i]?=b0 x:=by rfl)(b:Vis X.env.scope x:=by first|exact Ml rfl|exact Mm (Ml rfl)|exact Mm (Mm rfl))(hd:ND x:=by decide)(a:(x==("__classdict__":Si))=ba:=by decide):PE X (.Name x pos) (TV K ml b5 ba b5 (fO i)):=Zr (DA c b hd a)
def Z6(d:X.A.units+1<cLine)(g:PE X a (TV K ml pa ta ia fa))(f:PE X b (TV K ml pb tb ib fb))(h:X.K=K:=by rfl)(c:V5 b:=by exact λ_ _=>rfl)(e:(pb || (ta&&ia))=b5:=by rfl):PE X (.Subscript a b pos) (TV K ml (pa&&pb) ia ia (f2 bX fa fb)):=
 eG (kIxA d h) jT g f c e
def veq(c:X.A.units+64<cLine)(f:PE X a (TV K ml pa ta ia fa))(e:PE X b (TV K ml pb tb ib fb))(g:X.K=K:=by rfl)(d:(pb || (ta&&ia))=b5:=by rfl):PE X (.Compare a [.Eq] [b] pos) (TV K ml (pa&&pb) b5 b5 (f2 X7 fa fb)):=
 XO (kEqD c g) s_eq f e (HG _) d
def Y0(c:X.A.units+64<cLine)(f:PE X a (TV K ml pa ta ia fa))(e:PE X b (TV K ml pb tb ib fb))(g:X.K=K:=by rfl)(d:(pb || (ta&&ia))=b5:=by rfl):PT X (.Compare a [.Eq] [b] pos) (TB K ml (pa&&pb) (fB (f2 X7 fa fb))):=
 bN (kEqD c g) s_eq f e (HG _) d
def bF{c j n:Nat}{qs:List Si}{mF:List Nat}{F:bW}{k:Sf}{fs:TD}(D:Def X.prog X.w K X.mg X.base x c qs (spV K mF n F) k)(d:X5 j X.A)(h:PA X (e::es) (TAG K ml ps fs))(i:X.K=K:=by rfl)(hk:c<=j:=by decide)(f:Gl X x:=by rfl)(b:ND x:=by decide)(g:SE X e es:=by rfl)(a:(Ex pos (Bb es X.env)).any (·.1)=ba:=by rfl):PE X (.Call (.Name x p') (e::es) [] pos) (TV K ml (ps&&mF.isEmpty) b5 b5 (cA n mF F fs)):=fM i D d hk f h b g a
def XQ(b:X.mg "len"=b3)(e:PE X a (TV K ml pa ta ia fa))(f:X.K=K:=by rfl)(c:Gl X "len":=by rfl)(d:SE X a []:=by rfl):PE X (.Call (.Name "len" p') [a] [] pos) (TV K ml pa b5 b5 (f1 YU fa)):=
 F7 (mx f) lz c b Wh e (by decide) (by decide) d
def vty{n:String}(c:X.mg x=b3)(a:Bj x=b0 (.type n))(d:Gl X x:=by rfl)(b:x≠ "__name__":=by decide)(hd:ND x:=by decide):PE X (.Name x pos) (TV K ml b5 b5 b5 (fC (.ty n))):=
 ve_c (lJ (v:=.ty n) d c a rfl b hd) λ_ _ _=>.ty _
def L6(f:X.mg "isinstance"=b3)(j:PE X a (TV K ml pa ta ia fa))(i:PE X b (TV K ml pb tb ib fb))(k:X.K=K:=by rfl)(g:Gl X "isinstance":=by rfl)(h:SE X a [b]:=by rfl)(d:SE X b []:=by rfl)(c:(Ex pos (Bb [b] X.env)).any (·.1)=ba:=by rfl)(e:(pb || (ta&&ia))=b5:=by rfl):PE X (.Call (.Name "isinstance" p') [a,b] [] pos) (TV K ml (pa&&pb) b5 b5 (f2 TF fa fb)):=J0 (kIsi k) jP g f J7 j i (by decide) (by decide) h d c e
end
def A4(K:Ao)(x:Si)(st:Su)(f:Sf):Prop:=∃(d:Se) (od:Option Sf) (kV doc c:Se) (e:Option Sf) (a ct:Se) (b:Array (Option Se)),Ly K So x=b0 (b0 (.ref f))∧
 K.lookup f=b0 ⟨d,od,.func (Jz x x (YR st) (ZR st) (bJ st) .none kV doc c e a ct),b⟩/\Ku K a x=b5/\Il K (.ref f)=b5
def a4{K:Ao}{x:Si}{st:Su}{f:Sf}{i:Se}{od:Option Sf}{kV doc h:Se}{j:Option Sf}{e ct:Se}{g:Array (Option Se)}(a:Ly K So x=b0 (b0 (.ref f)))(b:K.lookup f=b0 ⟨i,od,.func (Jz x x (YR st) (ZR st) (bJ st) .none kV doc h j e ct),g⟩)(c:Ku K e x=b5)(d:Il K (.ref f)=b5):A4 K x st f:=⟨i,od,kV,doc,h,j,e,ct,g,a,b,c,d⟩
def A4.ns{K:Ao}{x:Si}{st:Su}{f:Sf}(p:A4 K x st f):Ly K So x=b0 (b0 (.ref f)):=by obtain⟨_,_,_,_,_,_,_,_,_,a,_⟩:=p;exact a
def mkSc{N P:List Si}{h:Sx}(a:h.kind=.function:=by rfl)(b:h.isCoroutine=ba:=by rfl)(c:h.isGenerator=ba:=by rfl)(d:N.Nodup:=by decide+kernel)(e:N.take P.length=P:=by rfl)(f:∀x∈P,h.names.lookup x=b0 .local∨h.names.lookup x=b0 .cell:=by decide+kernel)(g:∀y∈h.names,y.2≠Bt:=by decide+kernel):XD N P h:=⟨a,b,c,d,e,f,g⟩
end L2
namespace TS
open PySem PySem.W PyProof.Rows
structure En where
 prog:Bh
 w:Sm
 A:Dh
 s:Ah
 κ:Pr
 it:Array Keyed
def En.Ok(n:Nat)(ck:Nat->Nat->Bool)(e:En):Prop:=∀i j,i<n->j<n->∀C:Bool->Ah->Prop,C (ck i j) e.s->kas_cmp e.prog e.w e.A e.κ e.it i j C e.s
abbrev En.at(e:En)(i:Nat):Keyed:=Jd e.it i
abbrev En.of(e:En)(p:Array Nat):Array Keyed:=p.map (Jd e.it)
structure Pu where
 p:Array Nat
 pd:Array (Nat×Nat×Nat)
 g:Nat
def stO(e:En)(x:Pu):Fa:=Jf e.κ (e.of x.p) x.pd x.g b3
section
variable{n:Nat}{ck:Nat->Nat->Bool}
def D(n:Nat)(ck:Nat->Nat->Bool){α:Type}(f:En->StateT Fa Sz α)(x:Pu)(a:En->α)(y:Pu):Prop:=
 ∀e:En,e.Ok n ck->∀(E:Se->Ah->Prop) (Q:α->Fa->Ah->Prop),Q (a e) (stO e y) e.s->kasC (Sk e.prog e.w) e.A E (f e) Q (stO e x) e.s
def X(n:Nat)(ck:Nat->Nat->Bool){α a:Type}(f:En->StateT Fa Sz α)(x:Pu)(v:a->En->α)(R:a->Pu->Prop):Prop:=∃t y,R t y/\D n ck f x (v t) y
def D.pure{α:Type}{a:En->α}{x:Pu}:D n ck (λe=>Gm (a e)) x a x:=λe _ E Q h=>kasC_pure h
def D.bind{α β:Type}{f:En->StateT Fa Sz α}{k:En->α->StateT Fa Sz β}{x y z:Pu}{a:En->α}{b:En->β}(h1:D n ck f x a y)(h2:D n ck (λe=>k e (a e)) y b z):D n ck (λe=>f e>>=k e) x b z:=
 λe o E Q h=>Qj (h1 e o E _ (h2 e o E Q h))
def D.get{x:Pu}:D n ck (λ_=>MonadState.get) x (λe=>stO e x) x:=λe _ E Q h=>kasC_get h
def D.modify{F:En->Fa->Fa}{x y:Pu}(h:∀e,F e (stO e x)=stO e y):D n ck (λe=>modify (F e)) x (λ_=>⟨⟩) y:=λe _ E Q q=>Qk (by rw[h e];exact q)
def D.rule{r:String}{x:Pu}:D n ck (λ_=>(liftM (PySem.rule r):StateT Fa Sz Unit)) x (λ_=>()) x:=λe _ E Q q=>kasC_lift (Hy q)
theorem D.elem{q:Array Nat}{i:Nat}{x:Pu}(hi:i<q.size):D n ck (λe=>elem' (e.of q) i) x (λe=>e.at (q.getD i 0)) x:=λe _ E Q h=>by
 have b:(e.of q)[i]?=b0 (e.at (q.getD i 0)):=by
  have a:q.getD i 0=q[i]:=by simp[Kl,hi]
  rw[a];simp[En.of,En.at,hi]
 show kasC _ _ _ (elem' (e.of q) i) Q _ _;rw[elem'_eq,b];exact kasC_pure h
theorem D.lt{i j:Nat}{x:Pu}(hi:i<n)(a:j<n):D n ck (λe=>lt' (e.at i) (e.at j)) x (λ_=>b0 (ck i j)) x:=λe o E Q h=>by show kasC _ _ _ (lt' (e.at i) (e.at j)) Q _ _;rw[lt'_eq];refine Qj (kasC_get ?_);refine Qj (kasC_lift (Np (Cu (o i j hi a (λc s'=>c=ck i j/\s'=e.s) ⟨rfl,rfl⟩) (λc s' hc=>?_) λ_ _ b=>b.elim)));obtain⟨rfl,rfl⟩:=hc;exact kasC_pure h
theorem D.ltAt{i j:Nat}{x:Pu}(hi:i<x.p.size)(a:j<x.p.size)(bi:x.p.getD i 0<n)(b:x.p.getD j 0<n):D n ck (λ_=>ltAt' i j) x (λ_=>b0 (ck (x.p.getD i 0) (x.p.getD j 0))) x:=λe o E Q h=>by show kasC _ _ _ (ltAt' i j) Q _ _;rw[ltAt'_eq];refine Qj (kasC_get ?_);exact(D.bind (D.elem hi) (D.bind (D.elem a) (D.lt bi b)):D n ck (λe=>elem' (e.of x.p) i>>=λu=>elem' (e.of x.p) j>>=λv=>lt' u v) x _ x) e o E Q h
def D.rev{i j:Nat}{x:Pu}:D n ck (λ_=>reverseSlice' i j) x (λ_=>()) {x with p:=kas_rev x.p i j}:=λe o E Q h=>by show kasC _ _ _ (reverseSlice' i j) Q _ _;rw[reverseSlice'_eq];refine Qk ?_;have a:mirror (e.of x.p) i j ((j-i)/2)=e.of (mirror x.p i j ((j-i)/2)):=kas_swaps_map (Jd e.it) (λk=>i+k) (λk=>j-1-k) _ x.p;show Q () (Jf e.κ (mirror (e.of x.p) i j ((j-i)/2)) x.pd x.g b3) e.s;rw[a];exact h
def D.move{k l:Nat}{x:Pu}:D n ck (λ_=>moveDown' k l) x (λ_=>()) {x with p:=bubble x.p k (k-l)}:=λe o E Q h=>by show kasC _ _ _ (moveDown' k l) Q _ _;rw[moveDown'_eq];refine Qk ?_;have a:bubble (e.of x.p) k (k-l)=e.of (bubble x.p k (k-l)):=kas_swaps_map (Jd e.it) (λi=>k-i) (λi=>k-i-1) _ x.p;show Q () (Jf e.κ (bubble (e.of x.p) k (k-l)) x.pd x.g b3) e.s;rw[a];exact h
def X.ret{α b:Type}{a:En->α}{x:Pu}{v:b->En->α}{R:b->Pu->Prop}(t:b)(h:R t x)(c:∀e,a e=v t e:=by intro e;rfl):X n ck (λe=>Gm (a e)) x v R:=
 ⟨t,x,h,by rw[show a=v t from funext c];exact D.pure⟩
def X.go{α β b:Type}{f:En->StateT Fa Sz α}{k:En->α->StateT Fa Sz β}{x y:Pu}{a:En->α}{v:b->En->β}{R:b->Pu->Prop}(h1:D n ck f x a y)(h2:X n ck (λe=>k e (a e)) y v R):X n ck (λe=>f e>>=k e) x v R:=by obtain⟨t,z,h,d⟩:=h2;exact⟨t,z,h,D.bind h1 d⟩
def X.bind{α β b a:Type}{f:En->StateT Fa Sz α}{k:En->α->StateT Fa Sz β}{x:Pu}{u:a->En->α}{S:a->Pu->Prop}{v:b->En->β}{R:b->Pu->Prop}(h1:X n ck f x u S)(h2:∀t y,S t y->X n ck (λe=>k e (u t e)) y v R):X n ck (λe=>f e>>=k e) x v R:=by obtain⟨t,y,h,d⟩:=h1;exact X.go d (h2 t y h)
noncomputable def sv{β a:Type}(v:a->En->β):a ⊕ a->En->ForInStep β
 |.inl t,e=>.yield (v t e)
 |.inr t,e=>.done (v t e)
def sR{a:Type}(I J:a->Pu->Prop):a ⊕ a->Pu->Prop
 |.inl t,x=>I t x
 |.inr t,x=>J t x
theorem X.loop{β a:Type}{v:a->En->β}{I:Nat->a->Pu->Prop}{J:a->Pu->Prop}{f:En->Nat->β->StateT Fa Sz (ForInStep β)}(g:∀t x,I 0 t x->J t x):∀(l:List Nat) (t:a) (x:Pu),(∀i∈l,∀(k:Nat) (t:a) (x:Pu),I (k+1) t x->X n ck (λe=>f e i (v t e)) x (sv v) (sR (I k) J))->I l.length t x->X n ck (λe=>forIn l (v t e) (f e)) x v J
 |[],t,x,_,h=>⟨t,x,g t x h,λe o E Q q=>kasC_nil q⟩
 | i :: l,t,x,b,h => by
  obtain⟨r,y,c,d⟩:=b i Aw l.length t x h;cases r with
  |inr t'=>exact⟨t',y,c,λe o E Q q=>kasC_cons (d e o E _ q)⟩
  |inl t'=>
   obtain⟨u,z,j,m⟩:=X.loop g l t' y (λi hi=>b i (Ap _ hi)) c;exact⟨u,z,j,λe o E Q q=>kasC_cons (d e o E _ (m e o E Q q))⟩
def X.range{β g:Type}{v:g->En->β}{I:Nat->g->Pu->Prop}{J:g->Pu->Prop}{f:En->Nat->β->StateT Fa Sz (ForInStep β)}{a b:Nat}{t:g}{x:Pu}{c:En->β}(l:∀t x,I 0 t x->J t x)(m:I (b-a) t x)(j:∀i,a<=i->i<b->∀(k:Nat) (t:g) (x:Pu),I (k+1) t x->X n ck (λe=>f e i (v t e)) x (sv v) (sR (I k) J))(hc:∀e,c e=v t e:=by intro e;rfl):X n ck (λe=>forIn [a:b] (c e) (f e)) x v J:=by
 rw[show c=v t from funext hc];obtain⟨u,z,h,d⟩:=X.loop l (List.range' a (b-a)) t x (λi hi=>by
  have:=List.mem_range'_1.mp hi
  exact j i this.1 (by omega)) (by rw[List.length_range'];exact m)
 exact⟨u,z,h,λe o E Q q=>kasC_range (d e o E Q q)⟩
def X.yield{β b:Type}{v:b->En->β}{I J:b->Pu->Prop}{a:En->β}{x:Pu}(t:b)(h:I t x)(c:∀e,a e=v t e:=by intro e;rfl):X n ck (λe=>Gm (Dw (a e))) x (sv v) (sR I J):=
 X.ret (.inl t) h λe=>by rw[c e];rfl
def X.done{β b:Type}{v:b->En->β}{I J:b->Pu->Prop}{a:En->β}{x:Pu}(t:b)(h:J t x)(c:∀e,a e=v t e:=by intro e;rfl):X n ck (λe=>Gm (ForInStep.done (a e))) x (sv v) (sR I J):=
 X.ret (.inr t) h λe=>by rw[c e];rfl
end
section
variable{n:Nat}{ck:Nat->Nat->Bool}
def X.ite{α d:Type}{c:Prop}{f:En->Decidable c}{a b:En->StateT Fa Sz α}{x:Pu}{v:d->En->α}{R:d->Pu->Prop}(h1:c->X n ck a x v R)(h2:¬c->X n ck b x v R):X n ck (λe=> @_root_.ite _ c (f e) (a e) (b e)) x v R:=by
 by_cases h:c
 ·simpa only[if_pos h]using h1 h
 ·simpa only[if_neg h]using h2 h
def Pm(n:Nat)(p:Array Nat):Prop:=p.toList.Perm (Bm n)
def Pm.sz{p:Array Nat}(h:Pm n p):p.size=n:=by
 have:=h.length_eq
 simpa using this
def Pm.lt{p:Array Nat}(h:Pm n p){i:Nat}(hi:i<n):p.getD i 0<n:=by
 have b:=h.sz;have a:i<p.size:=by lia
 have e:p.getD i 0=p[i]:=by simp[Kl,a]
 rw[e];exact Dq.mp (h.mem_iff.mp (by simp))
def Pm.rev{p:Array Nat}(h:Pm n p)(i j:Nat):Pm n (kas_rev p i j):=Jq (Jw.mp (mirror_perm p i j _)) h
def Pm.move{p:Array Nat}(h:Pm n p)(i j:Nat):Pm n (bubble p i j):=Jq (Jw.mp (bubble_perm p i j)) h
def Pm.cmp{x:Pu}(h:Pm n x.p){i j:Nat}(hi:i<n)(a:j<n):D n ck (λ_=>ltAt' i j) x (λ_=>b0 (ck (x.p.getD i 0) (x.p.getD j 0))) x:=
 D.ltAt (by rw[h.sz];exact hi) (by rw[h.sz];exact a) (h.lt hi) (h.lt a)
def X.st{α a:Type}{f:En->StateT Fa Sz α}{x z:Pu}{v:a->En->α}{R:a->Pu->Prop}{P:Pu->Pu->Prop}(h:∀z,P x z->X n ck f z v R)(hz:P x z):X n ck f z v R:=h z hz
def Kp(n:Nat)(x y:Pu):Prop:=Pm n y.p/\y.pd=x.pd
def count{lo m:Nat}{x:Pu}(d:Pm n x.p)(h1:1<=m)(f:lo+m<=n):X n ck (λ_=>countRun' lo m) x (λt _=>b0 t) (λt y=>1<=t/\t<=m/\Kp n x y):=by
 refine X.bind (u:=λ(t:Nat) _=>(b3,t)) (S:=λt y=>1<=t/\t<=m/\y=x) ?_ ?_
 ·refine X.range (I := λk t y => 1 <= t /\ t + k = m /\ y = x) (t := 1) (λt y h => ⟨h.1,by lia,h.2.2⟩) ⟨by lia,by lia,rfl⟩ λi _ _ k t y ⟨b,c,a⟩ => ?_
  subst a;refine X.go (d.cmp (by lia) (by lia)) ?_;refine X.ite (λ_=>X.done t ⟨b,by lia,rfl⟩) λ_=>X.yield (t+1) ⟨by lia,by lia,rfl⟩
 ·rintro t y ⟨b,c,rfl⟩
  have e:Kp n y y:=⟨d,rfl⟩;refine X.ite (λ_=>X.ret t ⟨b,c,e⟩) λq0=>?_;have q1:t+1<=m:=by
   have:t≠m:=λz=>q0 (by rw[z];exact beq_self_eq_true _)
   lia
  refine X.ite (λq2=>X.go (d.cmp (by lia) (by lia)) (X.ite (λ_=>X.ret t ⟨b,c,e⟩) λ_=>X.go D.rev (X.st (P:=Kp n) (x:=y) ?_ ⟨d.rev _ _,rfl⟩))) λq2=>X.st (P:=Kp n) (x:=y) ?_ e
  all_goals
   intro z hz;refine X.go D.rule ?_;refine X.bind (u:=λ(t:Nat×Nat) _=>(b3,t)) (S:=λt z=>1<=t.1/\t.1<=m/\Kp n y z) ?_ ?_
   ·refine X.range (I := λk t z => 1 <= t.1 /\ t.1 + k = m /\ Kp n y z) (t := (t + 1,0)) (λt y h => ⟨h.1,by lia,h.2.2⟩) ⟨by lia,by dsimp only;lia,hz⟩ λi _ _ k t y ⟨b,c,a⟩ => ?_
    obtain⟨t,q⟩:=t;dsimp only at b c;refine X.go (a.1.cmp (by dsimp only;lia) (by dsimp only;lia)) ?_;refine X.ite (λ_=>X.ite (λ_=>X.go D.rev (X.yield (t+1,0) ⟨by dsimp only;lia,by dsimp only;lia,a.1.rev _ _,a.2⟩)) λ_=>X.yield (t+1,0) ⟨by dsimp only;lia,by dsimp only;lia,a⟩) λ_=>?_;refine X.go (a.1.cmp (by dsimp only;lia) (by dsimp only;lia)) ?_;exact X.ite (λ_=>X.done (t,q) ⟨b,by dsimp only;lia,a⟩) λ_=>X.yield (t+1,q+1) ⟨by dsimp only;lia,by dsimp only;lia,a⟩
   ·rintro ⟨t,q⟩ z ⟨b,c,a⟩
    dsimp only at b c;refine X.ite (λ_=>X.go D.rev (X.st (P:=Kp n) (x:=y) ?_ ⟨a.1.rev _ _,a.2⟩)) λ_=>X.st (P:=Kp n) (x:=y) ?_ a
    all_goals
     intro z hz;refine X.go D.rev ?_;refine X.bind (u:=λ(t:Nat) _=>(b3,t)) (S:=λt z=>1<=t/\t<=m/\Kp n y z) ?_ λt z h=>X.ret t h;refine X.range (I:=λk t z=>1<=t/\t+k=m/\Kp n y z) (t:=t) (λt y h=>⟨h.1,by lia,h.2.2⟩) ⟨by lia,by dsimp only;lia,hz.1.rev _ _,hz.2⟩ λi _ _ k t y ⟨b,c,a⟩=>?_;refine X.go (a.1.cmp (by lia) (by lia)) ?_;exact X.ite (λ_=>X.done t ⟨b,by lia,a⟩) λ_=>X.yield (t+1) ⟨by lia,by lia,a⟩
def bin{lo m ok:Nat}{x:Pu}(c:Pm n x.p)(g:lo+m<=n):X n ck (λ_=>binarySort' lo m ok) x (λ(_:Unit) _=>b5) (λ_ y=>Kp n x y):=by
 refine X.bind (u:=λ(_:Unit) _=>(b3,())) (S:=λ_ y=>Kp n x y) ?_ λt z h=>X.ret () h;refine X.range (I:=λ_ _ z=>Kp n x z) (t:=()) (λt y h=>h) ⟨c,rfl⟩ λj f e k t y b=>?_;refine X.bind (u:=λ(t:Nat×Nat) _=>(b3,t)) (S:=λt z=>t.2<=j/\z=y) ?_ ?_
 ·refine X.range (I := λ_ t z => t.2 <= j /\ z = y) (t := (0,j)) (λt y h => h) ⟨Au _,rfl⟩ λi _ _ k t z ⟨a,d⟩ => ?_
  obtain⟨l,r⟩:=t;dsimp only at a;subst d;refine X.ite (λ_=>X.done (l,r) ⟨a,rfl⟩) λq=>?_;refine X.go (b.1.cmp (by dsimp only at q⊢;lia) (by dsimp only at q⊢;lia)) ?_;exact X.ite (λ_=>X.yield (l,(l+r)/2) ⟨by dsimp only at q⊢;lia,rfl⟩) λ_=>X.yield ((l+r)/2+1,r) ⟨a,rfl⟩
 ·rintro ⟨l,r⟩ z ⟨a,rfl⟩
  exact X.go D.move (X.yield () ⟨b.1.move _ _,b.2⟩)
end
def AJ:Bool->Keyed->Array Keyed->Nat->Nat->Nat->StateT Fa Sz (Option Nat):=sortPriv% PySem.Builtin.gallop
def E4:Array Keyed->Array Keyed->StateT Fa Sz (Array Keyed):=sortPriv% PySem.Builtin.mergeLo
def E3:Array Keyed->Array Keyed->StateT Fa Sz (Array Keyed):=sortPriv% PySem.Builtin.mergeHi
section
variable{n:Nat}{ck:Nat->Nat->Bool}
noncomputable def bey(left:Bool)(key:Nat)(q:Array Nat)(i:Nat)(e:En):StateT Fa Sz (Option Bool):=
 elem' (e.of q) i>>=λz=>if left=b5 then lt' z (e.at key)else lt' (e.at key) z>>=λr=>pure (r.map (λb=> !b))
def mz{left:Bool}{key:Nat}{q:Array Nat}{x:Pu}(hk:key<n){i:Nat}(hi:i<q.size)(a:q.getD i 0<n):∃c,D n ck (bey left key q i) x (λ_=>b0 c) x:=by
 cases left with
 |true=>exact⟨_,D.bind (D.elem hi) (D.lt a hk)⟩
 |false=>exact⟨_,D.bind (D.elem hi) (D.bind (D.lt hk a) D.pure)⟩
def gal{left:Bool}{key:Nat}{q:Array Nat}{b m h:Nat}{x:Pu}(hk:key<n)(j:h<m)(p:b+m<=q.size)(f:∀i,i<q.size->q.getD i 0<n):X n ck (λe=>AJ left (e.at key) (e.of q) b m h) x (λt _=>b0 t) (λt y=>t<=m/\y=x):=by
 have ask:∀i,i<m->∃c,D n ck (bey left key q (b+i)) x (λ_=>b0 c) x:=λi hi=>mz hk (by lia) (f _ (by lia));obtain⟨c,hc⟩:=ask h j;refine X.go hc ?_;refine X.ite (λ_=>?_) λ_=>?_
 ·refine X.bind (u := λ(t : Nat × Nat) _ => (b3,t)) (S := λt z => z = x) ?_ ?_
  ·refine X.range (I := λ_ t z => z = x) (t := (0,1)) (λt y h => h) rfl λi _ _ k t z g => ?_
   obtain⟨l,o⟩:=t;subst g;refine X.ite (λ_=>X.done (l,o) rfl) λq=>?_;obtain⟨c,hc⟩:=ask (h+o) (by dsimp only at q;lia);exact X.go hc (X.ite (λ_=>X.done (l,o) rfl) λ_=>X.yield (o,2*o+1) rfl)
  ·rintro ⟨l,o⟩ z rfl
   refine X.bind (u:=λ(t:Nat×Nat) _=>(b3,t)) (S:=λt y=>t.2<=m/\y=z) ?_ λt y h=>X.ret t.2 h;refine X.range (I:=λ_ t y=>t.2<=m/\y=z) (t:=(h+l+1,h+min o (m-h))) (λt y h=>h) ⟨by dsimp only;lia,rfl⟩ λi _ _ k t y ⟨a,d⟩=>?_;obtain⟨lo,hi⟩:=t;subst d;dsimp only at a;refine X.ite (λ_=>X.done (lo,hi) ⟨a,rfl⟩) λq=>?_;obtain⟨c,hc⟩:=ask (lo+(hi-lo)/2) (by dsimp only at q;lia);exact X.go hc (X.ite (λ_=>X.yield (lo+(hi-lo)/2+1,hi) ⟨a,rfl⟩) λ_=>X.yield (lo,lo+(hi-lo)/2) ⟨by dsimp only at q⊢;lia,rfl⟩)
 ·refine X.bind (u := λ(t : Nat × Nat) _ => (b3,t)) (S := λt z => z = x) ?_ ?_
  ·refine X.range (I := λ_ t z => z = x) (t := (0,1)) (λt y h => h) rfl λi _ _ k t z g => ?_
   obtain⟨l,o⟩:=t;subst g;refine X.ite (λ_=>X.done (l,o) rfl) λq=>?_;obtain⟨c,hc⟩:=ask (h-o) (by lia);exact X.go hc (X.ite (λ_=>X.done (l,o) rfl) λ_=>X.yield (o,2*o+1) rfl)
  ·rintro ⟨l,o⟩ z rfl
   refine X.bind (u:=λ(t:Nat×Nat) _=>(b3,t)) (S:=λt y=>t.2<=m/\y=z) ?_ λt y h=>X.ret t.2 h;refine X.range (I:=λ_ t y=>t.2<=m/\y=z) (t:=(h+1-min o (h+1),h-l)) (λt y h=>h) ⟨by dsimp only;lia,rfl⟩ λi _ _ k t y ⟨a,d⟩=>?_;obtain⟨lo,hi⟩:=t;subst d;dsimp only at a;refine X.ite (λ_=>X.done (lo,hi) ⟨a,rfl⟩) λq=>?_;obtain⟨c,hc⟩:=ask (lo+(hi-lo)/2) (by dsimp only at q;lia);exact X.go hc (X.ite (λ_=>X.yield (lo+(hi-lo)/2+1,hi) ⟨a,rfl⟩) λ_=>X.yield (lo,lo+(hi-lo)/2) ⟨by dsimp only at q⊢;lia,rfl⟩)
def galE{left:Bool}{key:Nat}{q:Array Nat}{b h:Nat}{m:En->Nat}{x:Pu}(m0:Nat)(c:∀e,m e=m0)(hk:key<n)(d:h<m0)(f:b+m0<=q.size)(a:∀i,i<q.size->q.getD i 0<n):X n ck (λe=>AJ left (e.at key) (e.of q) b (m e) h) x (λt _=>b0 t) (λt y=>t<=m0/\y=x):=by rw[show m=λ_=>m0 from funext c];exact gal hk d f a
def X.eqSize{α c:Type}{m:Nat}{q:Array Nat}{a b:En->StateT Fa Sz α}{x:Pu}{v:c->En->α}{R:c->Pu->Prop}(h1:m=q.size->X n ck a x v R)(h2:m≠q.size->X n ck b x v R):X n ck (λe=>if(m==(e.of q).size)=b5 then a e else b e) x v R:=by simp only[En.of,Array.size_map];exact X.ite (λh=>h1 (by simpa using h)) λh=>h2 (by simpa using h)
def X.rangeE{β a:Type}{v:a->En->β}{I:Nat->a->Pu->Prop}{J:a->Pu->Prop}{f:En->Nat->β->StateT Fa Sz (ForInStep β)}{b:En->Nat}{t:a}{x:Pu}{c:En->β}(g:Nat)(o:∀e,b e=g)(m:∀t x,I 0 t x->J t x)(p:I g t x)(l:∀(k:Nat) (t:a) (x:Pu),k<g->I (k+1) t x->∀i,X n ck (λe=>f e i (v t e)) x (sv v) (sR (I k) J))(hc:∀e,c e=v t e:=by intro e;rfl):X n ck (λe=>forIn [0:b e] (c e) (f e)) x v J:=by
 rw[show b=λ_=>g from funext o];refine X.range (I:=λk t x=>k<=g/\I k t x) (λt x h=>m t x h.2) ⟨by lia,p⟩ (λi _ _ k t x h=>?_) hc;obtain⟨r,y,j,d⟩:=l k t x (by lia) h.2 i;refine⟨r,y,?_,d⟩;cases r with
 |inl t=>exact⟨by lia,j⟩
 |inr t=>exact j
def Zs:Nat->StateT Fa Sz Unit:=sortPriv% PySem.Builtin.setMinGallop
def D.setMin{g:Nat}{x:Pu}:D n ck (λ_=>Zs g) x (λ_=>()) {x with g:=g}:=D.modify (F:=λ_ s=>_) λe=>rfl
def Iv(a b o:Array Nat)(ia ib:Nat):Prop:=o.toList.Perm (a.toList.take ia++b.toList.take ib)
def F1{a:Array Nat}{i:Nat}(h:i<a.size):a.toList.take (i+1)=a.toList.take i++[a.getD i 0]:=by
 have e:a.getD i 0=a[i]:=by simp[Kl,h]
 rw[e,Qs];simp[h]
def Iv.pushB{a b o:Array Nat}{ia ib:Nat}(h:Iv a b o ia ib)(c:ib<b.size):Iv a b (o.push (b.getD ib 0)) ia (ib+1):=by unfold Iv at h⊢;rw[F1 c,Gr,<-Ar];exact h.append_right _
def Iv.pushA{a b o:Array Nat}{ia ib:Nat}(h:Iv a b o ia ib)(c:ia<a.size):Iv a b (o.push (a.getD ia 0)) (ia+1) ib:=by unfold Iv at h⊢;rw[F1 c,Gr,Ar];refine(h.append_right _).trans ?_;rw[Ar];exact Dm _ Cq
def JV(l:List Nat)(i k:Nat):l.take (i+k)=l.take i++(l.take (i+k)).drop i:=by have e:=Dn i (l.take (i+k));rw[Mr,Hq (by lia)]at e;exact e.symm
def WQ(a:Array Nat)(i j:Nat):(a.extract i j).toList=(a.toList.take j).drop i:=by simp[Qt]
def Iv.extB{a b o:Array Nat}{ia ib:Nat}(h:Iv a b o ia ib)(k:Nat):Iv a b (o++b.extract ib (ib+k)) ia (ib+k):=by unfold Iv at h⊢;rw[JV b.toList ib k,Ci,WQ,<-Ar];exact h.append_right _
def Iv.extA{a b o:Array Nat}{ia ib:Nat}(h:Iv a b o ia ib)(k:Nat):Iv a b (o++a.extract ia (ia+k)) (ia+k) ib:=by unfold Iv at h⊢;rw[JV a.toList ia k,Ci,WQ,Ar];refine(h.append_right _).trans ?_;rw[Ar];exact Dm _ Cq
def MH(a:Array Nat)(i:Nat):(a.extract i a.size).toList=a.toList.drop i:=by rw[WQ,show a.size=a.toList.length from rfl,List.take_length]
def Iv.all{a b o:Array Nat}{ia ib:Nat}(h:Iv a b o ia ib):(o.toList++(a.toList.drop ia++b.toList.drop ib)).Perm (a.toList++b.toList):=by refine(h.append_right _).trans ?_;have d:=Dn ia a.toList;have c:=Dn ib b.toList;generalize a.toList.take ia=i at*;generalize a.toList.drop ia=g at*;generalize b.toList.take ib=f at*;generalize b.toList.drop ib=e at*;rw[<-d,<-c,Ar,Ar];refine Dm _ ?_;rw[<-Ar,<-Ar];exact Ge _ Cq
def Iv.done{a b o:Array Nat}{ia ib:Nat}(h:Iv a b o ia ib):(o++a.extract ia a.size++b.extract ib b.size).toList.Perm (a.toList++b.toList):=by rw[Ci,Ci,MH,MH,Ar];exact h.all
def Iv.lastA{a b o:Array Nat}{ia ib:Nat}(h:Iv a b o ia ib):(o++b.extract ib b.size++a.extract ia a.size).toList.Perm (a.toList++b.toList):=by rw[Ci,Ci,MH,MH,Ar];exact(Dm _ Cq).trans h.all
end
section
variable{n:Nat}{ck:Nat->Nat->Bool}
def Sd(x y:Pu):Prop:=y.p=x.p/\y.pd=x.pd
def Al(n:Nat)(a:Array Nat):Prop:=∀i,i<a.size->a.getD i 0<n
def Lf(a b:Array Nat)(x:Pu)(m:Nat)(r:Option (Array Nat))(o:Array Nat)(ia ib:Nat)(y:Pu):Prop:=r=b3/\Iv a b o ia ib/\ia+1<a.size/\ib<b.size/\m<=ia+ib/\Sd x y
def Td(a b:Array Nat)(x:Pu)(r:Option (Array Nat))(y:Pu):Prop:=∃t,r=b0 t/\t.toList.Perm (a.toList++b.toList)/\Sd x y
noncomputable def vG{β:Type}(t:Option (Array Nat)×Array Nat×β)(e:En):Option (Array Keyed)×Array Keyed×β:=(t.1.map e.of,e.of t.2.1,t.2.2)
def ZY(e:En)(o:Array Nat)(i:Nat):(e.of o).push (e.at i)=e.of (o.push i):=by simp[En.of,En.at]
def YK(e:En)(o:Array Nat)(q:Array Nat):e.of o++e.of q=e.of (o++q):=by simp[En.of]
def ZD(e:En)(o:Array Nat)(i j:Nat):(e.of o).extract i j=e.of (o.extract i j):=by simp[En.of]
def SQ(e:En)(o:Array Nat):(e.of o).size=o.size:=by simp[En.of]
def QJ(e:En)(o:Array Nat):(e.of o).reverse=e.of o.reverse:=by simp[En.of]
def N2(e:En)(i:Nat): #[e.at i]=e.of #[i]:=by simp[En.of,En.at]
def X.yieldG{β:Type}{tail:β}{o:Array Nat}{O:En->Array Keyed}{I J:Option (Array Nat)×Array Nat×β->Pu->Prop}{y:Pu}(h:I (b3,o,tail) y)(a:∀e,O e=e.of o):X n ck (λe=>Gm (Dw (b3,O e,tail))) y (sv vG) (sR I J):=
 X.yield (b3,o,tail) h λe=>by rw[a];rfl
def X.doneG{β:Type}{tail:β}{o:Array Nat}{O:En->Array Keyed}{I J:Option (Array Nat)×Array Nat×β->Pu->Prop}{y:Pu}(h:J (b3,o,tail) y)(a:∀e,O e=e.of o):X n ck (λe=>Gm (ForInStep.done (b3,O e,tail))) y (sv vG) (sR I J):=
 X.done (b3,o,tail) h λe=>by rw[a];rfl
def X.tellD{β:Type}{tail:β}{a b o:Array Nat}{ia ib:Nat}{O:En->Array Keyed}{I J:Option (Array Nat)×Array Nat×β->Pu->Prop}{x y:Pu}(q:Iv a b o ia ib)(c:Sd x y)(d:∀e,O e=e.of o)(f:∀t,Td a b x t.1 y->J t y):X n ck (λe=>Gm (ForInStep.done (b0 (O e++(e.of a).extract ia (e.of a).size++(e.of b).extract ib (e.of b).size),O e,tail))) y (sv vG) (sR I J):=
 X.done (b0 (o++a.extract ia a.size++b.extract ib b.size),o,tail) (f _ ⟨_,rfl,q.done,c⟩) λe=>by rw[d,SQ,SQ,ZD,ZD,YK,YK];rfl
def X.tellL{β:Type}{tail:β}{a b o:Array Nat}{ia ib:Nat}{O:En->Array Keyed}{I J:Option (Array Nat)×Array Nat×β->Pu->Prop}{x y:Pu}(q:Iv a b o ia ib)(c:Sd x y)(d:∀e,O e=e.of o)(f:∀t,Td a b x t.1 y->J t y):X n ck (λe=>Gm (ForInStep.done (b0 (O e++(e.of b).extract ib (e.of b).size++(e.of a).extract ia (e.of a).size),O e,tail))) y (sv vG) (sR I J):=
 X.done (b0 (o++b.extract ib b.size++a.extract ia a.size),o,tail) (f _ ⟨_,rfl,q.lastA,c⟩) λe=>by rw[d,SQ,SQ,ZD,ZD,YK,YK];rfl
def all5{A B C D E:Type}{P:A×B×C×D×E->Prop}(h:∀a b c d e,P (a,b,c,d,e)):∀t,P t:=λ⟨a,b,c,d,e⟩=>h a b c d e
def all6{A B C D E F:Type}{P:A×B×C×D×E×F->Prop}(h:∀a b c d e f,P (a,b,c,d,e,f)):∀t,P t:=λ⟨a,b,c,d,e,f⟩=>h a b c d e f
def all7{A B C D E F G:Type}{P:A×B×C×D×E×F×G->Prop}(h:∀a b c d e f g,P (a,b,c,d,e,f,g)):∀t,P t:=λ⟨a,b,c,d,e,f,g⟩=>h a b c d e f g
def X.join1{α b:Type}{c:Prop}{f:En->Decidable c}{a:En->StateT Fa Sz α}{F:Nat->En->StateT Fa Sz α}{p g:Nat}{x:Pu}{v:b->En->α}{R:b->Pu->Prop}(key:∀g,X n ck (F g) x v R)(d:∀e,a e=F p e):X n ck (λe=> @_root_.ite _ c (f e) (a e) (F g e)) x v R:=X.ite (λ_=>by rw[show a=F p from funext d];exact key p) λ_=>key g
def X.join2{α b:Type}{c:Prop}{g:En->Decidable c}{a:En->StateT Fa Sz α}{F:Array Nat->Nat->En->StateT Fa Sz α}{o:Array Nat}{j:Nat}{x:Pu}{v:b->En->α}{R:b->Pu->Prop}(P:Array Nat->Nat->Prop)(key:∀o j,P o j->X n ck (F o j) x v R)(f:(∀o j,P o j->X n ck (F o j) x v R)->c->X n ck a x v R)(d:P o j):X n ck (λe=> @_root_.ite _ c (g e) (a e) (F o j e)) x v R:=X.ite (f key) λ_=>key _ _ d
def X.cg{α c:Type}{a b:En->StateT Fa Sz α}{x:Pu}{v:c->En->α}{R:c->Pu->Prop}(e:∀e,a e=b e)(h:X n ck b x v R):X n ck a x v R:=by rw[show a=b from funext e];exact h
def iO{a b:Array Nat}{x:Pu}(N:Al n a)(M:Al n b)(a1:1<=a.size)(b1:1<=b.size):X n ck (λe=>E4 (e.of a) (e.of b)) x (λt e=>e.of t) (λt y=>t.toList.Perm (a.toList++b.toList)/\Sd x y):=by
 have K:Iv a b #[b.getD 0 0] 0 1:=by
  have e:Iv a b #[] 0 0:=by unfold Iv;simp
  exact e.pushB (by lia)
 refine X.go D.rule ?_;refine X.go (D.elem (q:=b) (i:=0) (by lia)) ?_;refine X.eqSize (λh=>X.ret (#[b.getD 0 0]++a.extract 0 a.size++b.extract 1 b.size) ⟨K.done,rfl,rfl⟩ λe=>?_) λh=>?_
 ·simp only[<-YK,<-ZD,SQ,N2]
 refine X.eqSize (λh=>X.ret (#[b.getD 0 0]++b.extract 1 b.size++a.extract 0 a.size) ⟨K.lastA,rfl,rfl⟩ λe=>?_) λh2=>?_
 ·simp only[<-YK,<-ZD,SQ,N2]
 refine X.go D.get ?_;have G:∀e:En,(e.of a).size+(e.of b).size=a.size+b.size:=λe=>by simp only[SQ]
 refine X.bind (u:=vG) (S:=λt y=>Td a b x t.1 y) ?_ ?_
 ·refine X.rangeE (v := vG) (I := λk t y => Lf a b x (a.size + b.size-k) t.1 t.2.1 t.2.2.1 t.2.2.2.1 y) (t := (b3,#[b.getD 0 0],0,1,x.g)) (a.size + b.size) G ?_ ⟨rfl,K,by dsimp only;lia,by dsimp only;lia,by dsimp only;lia,rfl,rfl⟩ ?_ λe => ?_
  ·rintro t y ⟨_,_,R,Q,P,_⟩
   exact absurd P (by lia)
  ·refine λk => all5 λr o ia ib g y hk c i => ?_
   obtain rfl:=c.1;have h2:=c.2.1;have R:=c.2.2.1;have Q:=c.2.2.2.1;have P:=c.2.2.2.2.1;have Y:=c.2.2.2.2.2;dsimp only at h2 R Q P;dsimp only[vG];refine X.bind (u:=vG) (S:=λt z=>Td a b x t.1 z∨Lf a b x (ia+ib+1) t.1 t.2.1 t.2.2.1 t.2.2.2.1 z) ?_ ?_
   ·refine X.rangeE (v := vG) (I := λk t y => Lf a b x (ia + ib + if k < a.size + b.size then 1 else 0) t.1 t.2.1 t.2.2.1 t.2.2.2.1 y) (t := (b3,o,ia,ib,0,0)) (a.size + b.size) G ?_ ⟨rfl,h2,R,Q,by rw [if_neg (by lia)];exact Au _,Y⟩ ?_
    ·intro t y h
     rw[if_pos (by lia)]at h;exact .inr h
    ·refine λk => all6 λr o f s ac H y hk c i => ?_
     obtain rfl:=c.1;have A:=c.2.1;have C:=c.2.2.1;have m:=c.2.2.2.1;have E:=c.2.2.2.2.1;have l:=c.2.2.2.2.2;dsimp only at A C m E;dsimp only[vG];have Z:ia+ib<=f+s:=by split at E<;>lia
     refine X.go (D.elem (q:=b) (i:=s) m) (X.go (D.elem (q:=a) (i:=f) (by lia)) (X.go (D.lt (M _ m) (N _ (by lia))) ?_));refine X.ite (λ_=>?_) λ_=>?_
     ·refine X.go (D.elem (q:=b) (i:=s) m) ?_
      have q:=A.pushB m;refine X.eqSize (λ_=>X.tellD q l (λe=>ZY e _ _) λt h=>.inl h) λz=>?_;exact X.ite (λ_=>X.doneG (.inr ⟨rfl,q,C,by dsimp only;lia,by dsimp only;lia,l⟩) λe=>ZY e _ _) λ_=>X.yieldG ⟨rfl,q,C,by dsimp only;lia,by dsimp only;rw[if_pos hk];lia,l⟩ λe=>ZY e _ _
     ·refine X.go (D.elem (q := a) (i := f) (by lia)) ?_
      have q:=A.pushA (show f<a.size by lia);refine X.eqSize (λ_=>X.tellL q l (λe=>ZY e _ _) λt h=>.inl h) λz=>?_;exact X.ite (λ_=>X.doneG (.inr ⟨rfl,q,by dsimp only;lia,m,by dsimp only;lia,l⟩) λe=>ZY e _ _) λ_=>X.yieldG ⟨rfl,q,by dsimp only;lia,m,by dsimp only;rw[if_pos hk];lia,l⟩ λe=>ZY e _ _
   ·refine all6 λr o f s ac H z c => c.elim (λc => ?_) λc => ?_
    ·obtain⟨t,B,L⟩:=c
     dsimp only at B;subst B;exact X.done (b0 t,o,f,s,g) ⟨t,rfl,L⟩
    ·have B:=c.1
     have A:=c.2.1;have C:=c.2.2.1;have m:=c.2.2.2.1;have E:=c.2.2.2.2.1;have l:=c.2.2.2.2.2;dsimp only at B A C m E;subst B;dsimp only[vG];refine X.go D.rule ?_;refine X.bind (u:=vG) (S:=λt z=>Td a b x t.1 z∨Lf a b x (ia+ib+1) t.1 t.2.1 t.2.2.1 t.2.2.2.1 z) ?_ ?_
     ·refine X.rangeE (v := vG) (I := λ_ t y => Lf a b x (ia + ib + 1) t.1 t.2.1 t.2.2.1 t.2.2.2.1 y) (t := (b3,o,f,s,g + 1,ac,H)) (a.size + b.size) G (λt y h => .inr h) ⟨rfl,A,C,m,E,l⟩ ?_
      refine λk=>all7 λr o f s g ac H y hk c i=>?_;obtain rfl:=c.1;have A:=c.2.1;have C:=c.2.2.1;have m:=c.2.2.2.1;have E:=c.2.2.2.2.1;have l:=c.2.2.2.2.2;dsimp only at A C m E;dsimp only[vG];apply X.join1 (p:=g-1) (g:=g);rotate_left
      ·exact λ_=>rfl
      intro g;refine X.go D.setMin (X.go (D.elem (q:=b) (i:=s) m) (X.bind (galE (a.size-f) (λe=>by simp only[SQ]) (M _ m) (by lia) (by lia) N) ?_));rintro d z ⟨hd,rfl⟩;dsimp only;apply X.join2 (o:=o) (j:=f) (λo j=>Iv a b o j s/\j+1<a.size/\ia+ib+1<=j+s)
      ·rintro o f ⟨A,C,E⟩
       refine X.go (D.elem (q:=b) (i:=s) m) ?_;have r:=A.pushB m;have J:∀e:En,(e.of o).push (e.at (b.getD s 0))=e.of (o.push (b.getD s 0)):=λe=>ZY e _ _;refine X.eqSize (λ_=>X.tellD r l J λt h=>.inl h) λz3=>?_;refine X.go (D.elem (q:=a) (i:=f) (by lia)) (X.bind (galE (b.size-(s+1)) (λe=>by simp only[SQ]) (N _ (by lia)) (by lia) (by lia) M) ?_);rintro U z ⟨W,rfl⟩;refine X.ite (λ_=>?_) λ_=>?_
       ·have u:=r.extB U
        have T:∀e:En,_=e.of _:=λe=>((congrArg (λO=>O++(e.of b).extract (s+1) (s+1+U)) (J e)).trans (by rw[ZD])).trans (YK e _ _);refine X.eqSize (λ_=>X.tellD u l T λt h=>.inl h) λz4=>?_;refine X.go (D.elem (q:=a) (i:=f) (by lia)) ?_;have w:=u.pushA (show f<a.size by lia);have F:∀e:En,_=e.of _:=λe=>(congrArg (λO=>O.push (e.at (a.getD f 0))) (T e)).trans (ZY e _ _);refine X.eqSize (λ_=>X.tellL w l F λt h=>.inl h) λV=>?_;exact X.ite (λ_=>X.doneG (.inr ⟨rfl,w,by dsimp only;lia,by dsimp only;lia,by dsimp only;lia,l⟩) F) λ_=>X.yieldG ⟨rfl,w,by dsimp only;lia,by dsimp only;lia,by dsimp only;lia,l⟩ F
       ·refine X.go (D.elem (q := a) (i := f) (by lia)) ?_
        have w:=r.pushA (show f<a.size by lia);have F:∀e:En,_=e.of _:=λe=>(congrArg (λO=>O.push (e.at (a.getD f 0))) (J e)).trans (ZY e _ _);refine X.eqSize (λ_=>X.tellL w l F λt h=>.inl h) λV=>?_;exact X.ite (λ_=>X.doneG (.inr ⟨rfl,w,by dsimp only;lia,by dsimp only;lia,by dsimp only;lia,l⟩) F) λ_=>X.yieldG ⟨rfl,w,by dsimp only;lia,by dsimp only;lia,by dsimp only;lia,l⟩ F
      ·intro key _
       have q:=A.extA d;have qO:∀e:En,e.of o++(e.of a).extract f (f+d)=e.of (o++a.extract f (f+d)):=λe=>by rw[ZD,YK]
       refine X.eqSize (λ_=>X.tellL q l qO λt h=>.inl h) λz1=>X.eqSize (λ_=>X.tellD q l qO λt h=>.inl h) λz2=>?_;exact X.cg (λe=>by rw[qO e];rfl) (key (o++a.extract f (f+d)) (f+d) ⟨q,by lia,by lia⟩)
      ·exact⟨A,C,E⟩
     ·refine all7 λr o f s g ac H z c => c.elim (λc => ?_) λc => ?_
      ·obtain⟨t,B,L⟩:=c
       dsimp only at B;subst B;exact X.done (b0 t,o,f,s,g) ⟨t,rfl,L⟩
      ·have B:=c.1
       have A:=c.2.1;have C:=c.2.2.1;have m:=c.2.2.2.1;have E:=c.2.2.2.2.1;have l:=c.2.2.2.2.2;dsimp only at B A C m E;subst B;dsimp only[vG];refine X.go D.setMin ?_;exact X.yieldG ⟨rfl,A,C,m,by dsimp only;lia,l⟩ λe=>rfl
  ·simp only[N2]
   rfl
 ·refine all5 λr o ia ib g y c => ?_
  obtain⟨t,B,h⟩:=c;dsimp only at B;subst B;exact X.ret t h
end
section
variable{n:Nat}{ck:Nat->Nat->Bool}
def Iw(a b o:Array Nat)(d c:Nat):Prop:=o.toList.Perm (a.toList.drop d++b.toList.drop c)
def EJ{a:Array Nat}{i:Nat}(b:0<i)(h:i<=a.size):a.toList.drop (i-1)=a.getD (i-1) 0::a.toList.drop i:=by
 have h1:i-1<a.size:=by lia
 have e:a.getD (i-1) 0=a[i-1]:=by simp[Kl,h1]
 rw[e,Fm (by simpa using h1),show i-1+1=i by lia];simp
def Iw.pushA{a b o:Array Nat}{c d:Nat}(h:Iw a b o c d)(e:0<c)(h1:c<=a.size):Iw a b (o.push (a.getD (c-1) 0)) (c-1) d:=by unfold Iw at h⊢;rw[EJ e h1,Gr,Ep];exact Cq.trans (Qu _ h)
def Iw.pushB{a b o:Array Nat}{d c:Nat}(h:Iw a b o d c)(e:0<c)(h1:c<=b.size):Iw a b (o.push (b.getD (c-1) 0)) d (c-1):=by unfold Iw at h⊢;rw[EJ e h1,Gr];exact(Cq.trans (Qu _ h)).trans List.perm_middle.symm
def NM(l:List Nat)(i j:Nat)(h:i<=j):l.drop i=(l.take j).drop i++l.drop j:=by have e:=Dn (j-i) (l.drop i);rw[Qv,show i+(j-i)=j by lia,<-Qt]at e;exact e.symm
def Iw.extA{a b o:Array Nat}{c d:Nat}(h:Iw a b o c d){t:Nat}(e:t<=c):Iw a b (o++(a.extract t c).reverse) t d:=by unfold Iw at h⊢;rw[NM a.toList t c e,Ci,Gu,WQ,Ar];exact Cq.trans (Pk (Km _) h)
def Iw.extB{a b o:Array Nat}{d c:Nat}(h:Iw a b o d c){t:Nat}(e:t<=c):Iw a b (o++(b.extract t c).reverse) d t:=by unfold Iw at h⊢;rw[NM b.toList t c e,Ci,Gu,WQ];generalize (b.toList.take c).drop t=u at*;refine(Pk h (Km u)).trans ?_;rw[Ar];exact Dm _ Cq
def Iw.all{a b o:Array Nat}{d c:Nat}(h:Iw a b o d c):((a.toList.take d++b.toList.take c)++o.toList.reverse).Perm (a.toList++b.toList):=by refine(Dm _ ((Km _).trans h)).trans ?_;have f:=Dn d a.toList;have e:=Dn c b.toList;generalize a.toList.take d=k at*;generalize a.toList.drop d=j at*;generalize b.toList.take c=i at*;generalize b.toList.drop c=g at*;rw[<-f,<-e,Ar,Ar];refine Dm _ ?_;rw[<-Ar,<-Ar];exact Ge _ Cq
def G4(a:Array Nat)(i:Nat):(a.extract 0 i).toList=a.toList.take i:=by rw[WQ];rfl
def Iw.done{a b o:Array Nat}{d c:Nat}(h:Iw a b o d c):(a.extract 0 d++b.extract 0 c++o.reverse).toList.Perm (a.toList++b.toList):=by rw[Ci,Ci,G4,G4,Gu];exact h.all
def Iw.first{a b o:Array Nat}{d c:Nat}(h:Iw a b o d c):(b.extract 0 c++a.extract 0 d++o.reverse).toList.Perm (a.toList++b.toList):=by rw[Ci,Ci,G4,G4,Gu];exact(Ge _ Cq).trans h.all
def Lh(a b:Array Nat)(x:Pu)(m:Nat)(r:Option (Array Nat))(o:Array Nat)(d c:Nat)(y:Pu):Prop:=r=b3/\Iw a b o d c/\0<d/\d<=a.size/\1<c/\c<=b.size/\d+c<=m/\Sd x y
abbrev HT(β:Type):=Option (Array Nat)×Nat×Nat×Array Nat×β
noncomputable def vH{β:Type}(t:HT β)(e:En):Option (Array Keyed)×Nat×Nat×Array Keyed×β:=(t.1.map e.of,t.2.1,t.2.2.1,e.of t.2.2.2.1,t.2.2.2.2)
def X.yieldH{β:Type}{tail:β}{o:Array Nat}{b a:Nat}{O:En->Array Keyed}{I J:HT β->Pu->Prop}{y:Pu}(h:I (b3,b,a,o,tail) y)(c:∀e,O e=e.of o):X n ck (λe=>Gm (Dw (b3,b,a,O e,tail))) y (sv vH) (sR I J):=
 X.yield (b3,b,a,o,tail) h λe=>by rw[c];rfl
def X.doneH{β:Type}{tail:β}{o:Array Nat}{b a:Nat}{O:En->Array Keyed}{I J:HT β->Pu->Prop}{y:Pu}(h:J (b3,b,a,o,tail) y)(c:∀e,O e=e.of o):X n ck (λe=>Gm (ForInStep.done (b3,b,a,O e,tail))) y (sv vH) (sR I J):=
 X.done (b3,b,a,o,tail) h λe=>by rw[c];rfl
def X.tellE{β:Type}{tail:β}{a b o:Array Nat}{d c:Nat}{O:En->Array Keyed}{I J:HT β->Pu->Prop}{x y:Pu}(q:Iw a b o d c)(f:Sd x y)(g:∀e,O e=e.of o)(h:∀t,Td a b x t.1 y->J t y):X n ck (λe=>Gm (ForInStep.done (b0 ((e.of a).extract 0 d++(e.of b).extract 0 c++(O e).reverse),d,c,O e,tail))) y (sv vH) (sR I J):=
 X.done (b0 (a.extract 0 d++b.extract 0 c++o.reverse),d,c,o,tail) (h _ ⟨_,rfl,q.done,f⟩) λe=>by rw[g,ZD,ZD,QJ,YK,YK];rfl
def X.tellF{β:Type}{tail:β}{a b o:Array Nat}{d c:Nat}{O:En->Array Keyed}{I J:HT β->Pu->Prop}{x y:Pu}(q:Iw a b o d c)(f:Sd x y)(g:∀e,O e=e.of o)(h:∀t,Td a b x t.1 y->J t y):X n ck (λe=>Gm (ForInStep.done (b0 ((e.of b).extract 0 c++(e.of a).extract 0 d++(O e).reverse),d,c,O e,tail))) y (sv vH) (sR I J):=
 X.done (b0 (b.extract 0 c++a.extract 0 d++o.reverse),d,c,o,tail) (h _ ⟨_,rfl,q.first,f⟩) λe=>by rw[g,ZD,ZD,QJ,YK,YK];rfl
def X.is{α c:Type}{m k:Nat}{d:En->Decidable ((m==k)=b5)}{a b:En->StateT Fa Sz α}{x:Pu}{v:c->En->α}{R:c->Pu->Prop}(h1:m=k->X n ck a x v R)(h2:m≠k->X n ck b x v R):X n ck (λe=> @_root_.ite _ ((m==k)=b5) (d e) (a e) (b e)) x v R:=
 X.ite (λh=>h1 (by simpa using h)) λh=>h2 (by simpa using h)
def X.iteE{α d:Type}{c:En->Prop}{f:(e:En)->Decidable (c e)}{a b:En->StateT Fa Sz α}{x:Pu}{v:d->En->α}{R:d->Pu->Prop}{c0:Prop}(hc:∀e,c e=c0)(h1:c0->X n ck a x v R)(h2:¬c0->X n ck b x v R):X n ck (λe=> @_root_.ite _ (c e) (f e) (a e) (b e)) x v R:=by obtain rfl:c=λ_=>c0:=funext hc;exact X.ite h1 h2
def kX{a b:Array Nat}{x:Pu}(R:Al n a)(Q:Al n b)(a1:1<=a.size)(b1:1<=b.size):X n ck (λe=>E3 (e.of a) (e.of b)) x (λt e=>e.of t) (λt y=>t.toList.Perm (a.toList++b.toList)/\Sd x y):=by
 have W:Iw a b #[a.getD (a.size-1) 0] (a.size-1) b.size:=by
  have e:Iw a b #[] a.size b.size:=by unfold Iw;rw[show a.size=a.toList.length from rfl,show b.size=b.toList.length from rfl,Gy,Gy];exact .refl _
  exact e.pushA (by lia) (Au _)
 refine X.go D.rule ?_;simp only[SQ];refine X.go (D.elem (q:=a) (i:=a.size-1) (by lia)) ?_;refine X.is (λh=>X.ret (a.extract 0 (a.size-1)++b.extract 0 b.size++ #[a.getD (a.size-1) 0].reverse) ⟨W.done,rfl,rfl⟩ λe=>?_) λh=>?_
 ·simp only[<-YK,<-ZD,<-QJ,N2]
 refine X.is (λh=>X.ret (b.extract 0 b.size++a.extract 0 (a.size-1)++ #[a.getD (a.size-1) 0].reverse) ⟨W.first,rfl,rfl⟩ λe=>?_) λh2=>?_
 ·simp only[<-YK,<-ZD,<-QJ,N2]
 refine X.go D.get ?_;refine X.bind (u:=vH) (S:=λt y=>Td a b x t.1 y) ?_ ?_
 ·refine X.rangeE (v := vH) (I := λk t y => Lh a b x k t.1 t.2.2.2.1 t.2.1 t.2.2.1 y) (t := (b3,a.size-1,b.size,#[a.getD (a.size-1) 0],x.g)) (a.size + b.size) (λe => rfl) ?_ ⟨rfl,W,by dsimp only;lia,by dsimp only;lia,by dsimp only;lia,by dsimp only;lia,by dsimp only;lia,rfl,rfl⟩ ?_ λe => ?_
  ·rintro t y ⟨_,_,h3,h4,Z,h6,h7,_⟩
   exact absurd h7 (by lia)
  ·refine λk => all5 λr na nb o g y hk c i => ?_
   obtain rfl:=c.1;have h2:=c.2.1;have h3:=c.2.2.1;have P:=c.2.2.2.1;have h4:=c.2.2.2.2.1;have N:=c.2.2.2.2.2.1;have Z:=c.2.2.2.2.2.2.1;have h6:=c.2.2.2.2.2.2.2;dsimp only at h2 h3 P h4 N Z;dsimp only[vH];refine X.bind (u:=vH) (S:=λt z=>Td a b x t.1 z∨Lh a b x k t.1 t.2.2.2.1 t.2.1 t.2.2.1 z) ?_ ?_
   ·refine X.rangeE (v := vH) (I := λj t y => Lh a b x (if j < a.size + b.size then k else k + 1) t.1 t.2.2.2.1 t.2.1 t.2.2.1 y) (t := (b3,na,nb,o,0,0)) (a.size + b.size) (λe => rfl) ?_ ⟨rfl,h2,h3,P,h4,N,by rw [if_neg (by lia)];exact Z,h6⟩ ?_
    ·intro t y h
     rw[if_pos (by lia)]at h;exact .inr h
    ·refine λj => all6 λr A s o ac T y hk c i => ?_
     obtain rfl:=c.1;have E:=c.2.1;have F:=c.2.2.1;have m:=c.2.2.2.1;have G:=c.2.2.2.2.1;have l:=c.2.2.2.2.2.1;have H:=c.2.2.2.2.2.2.1;have f:=c.2.2.2.2.2.2.2;dsimp only at E F m G l H;dsimp only[vH];have g5':A+s<=k+1:=by split at H<;>lia
     refine X.go (D.elem (q:=b) (i:=s-1) (by lia)) (X.go (D.elem (q:=a) (i:=A-1) (by lia)) (X.go (D.lt (Q _ (by lia)) (R _ (by lia))) ?_));refine X.ite (λ_=>?_) λ_=>?_
     ·refine X.go (D.elem (q := a) (i := A-1) (by lia)) ?_
      have q:=E.pushA F m;refine X.is (λ_=>X.tellE q f (λe=>ZY e _ _) λt h=>.inl h) λz=>?_;exact X.ite (λ_=>X.doneH (.inr ⟨rfl,q,by dsimp only;lia,by dsimp only;lia,G,l,by dsimp only;lia,f⟩) λe=>ZY e _ _) λ_=>X.yieldH ⟨rfl,q,by dsimp only;lia,by dsimp only;lia,G,l,by dsimp only;rw[if_pos hk];lia,f⟩ λe=>ZY e _ _
     ·refine X.go (D.elem (q := b) (i := s-1) (by lia)) ?_
      have q:=E.pushB (by lia) l;refine X.is (λ_=>X.tellF q f (λe=>ZY e _ _) λt h=>.inl h) λz=>?_;exact X.ite (λ_=>X.doneH (.inr ⟨rfl,q,F,m,by dsimp only;lia,by dsimp only;lia,by dsimp only;lia,f⟩) λe=>ZY e _ _) λ_=>X.yieldH ⟨rfl,q,F,m,by dsimp only;lia,by dsimp only;lia,by dsimp only;rw[if_pos hk];lia,f⟩ λe=>ZY e _ _
   ·refine all6 λr A s o ac T z c => c.elim (λc => ?_) λc => ?_
    ·obtain⟨t,C,Y⟩:=c
     dsimp only at C;subst C;exact X.done (b0 t,A,s,o,g) ⟨t,rfl,Y⟩
    ·have C:=c.1
     have E:=c.2.1;have F:=c.2.2.1;have m:=c.2.2.2.1;have G:=c.2.2.2.2.1;have l:=c.2.2.2.2.2.1;have H:=c.2.2.2.2.2.2.1;have f:=c.2.2.2.2.2.2.2;dsimp only at C E F m G l H;subst C;dsimp only[vH];refine X.go D.rule ?_;refine X.bind (u:=vH) (S:=λt z=>Td a b x t.1 z∨Lh a b x k t.1 t.2.2.2.1 t.2.1 t.2.2.1 z) ?_ ?_
     ·refine X.rangeE (v := vH) (I := λ_ t y => Lh a b x k t.1 t.2.2.2.1 t.2.1 t.2.2.1 y) (t := (b3,A,s,o,g + 1,ac,T)) (a.size + b.size) (λe => rfl) (λt y h => .inr h) ⟨rfl,E,F,m,G,l,H,f⟩ ?_
      refine λj=>all7 λr A s o g ac T y hk c i=>?_;obtain rfl:=c.1;have E:=c.2.1;have F:=c.2.2.1;have m:=c.2.2.2.1;have G:=c.2.2.2.2.1;have l:=c.2.2.2.2.2.1;have H:=c.2.2.2.2.2.2.1;have f:=c.2.2.2.2.2.2.2;dsimp only at E F m G l H;dsimp only[vH];apply X.join1 (p:=g-1) (g:=g);rotate_left
      ·exact λ_=>rfl
      intro g;refine X.go D.setMin (X.go (D.elem (q:=b) (i:=s-1) (by lia)) (X.bind (gal (Q _ (by lia)) (by lia) (by lia) R) ?_));rintro d z ⟨hd,rfl⟩;refine X.ite (λ_=>?_) λ_=>?_
      ·have q:=E.extA hd
       have qO:∀e:En,e.of o++((e.of a).extract d A).reverse=e.of (o++(a.extract d A).reverse):=λe=>by rw[ZD,QJ,YK]
       refine X.is (λ_=>X.tellE q f qO λt h=>.inl h) λz1=>?_;refine X.go (D.elem (q:=b) (i:=s-1) (by lia)) ?_;have r:=q.pushB (show 0<s by lia) l;have K:∀e:En,_=e.of _:=λe=>(congrArg (λO=>O.push (e.at (b.getD (s-1) 0))) (qO e)).trans (ZY e _ _);refine X.is (λ_=>X.tellF r f K λt h=>.inl h) λz3=>?_;refine X.go (D.elem (q:=a) (i:=d-1) (by lia)) (X.bind (gal (R _ (by lia)) (by lia) (by lia) Q) ?_);rintro M z ⟨L,rfl⟩;refine X.ite (λ_=>?_) λ_=>?_
       ·have u:=r.extB L
        have J:∀e:En,_=e.of _:=λe=>((congrArg (λO=>O++((e.of b).extract M (s-1)).reverse) (K e)).trans (by rw[ZD,QJ])).trans (YK e _ _);refine X.is (λ_=>X.tellF u f J λt h=>.inl h) λz4=>X.is (λ_=>X.tellE u f J λt h=>.inl h) λV=>?_;refine X.go (D.elem (q:=a) (i:=d-1) (by lia)) ?_;have w:=u.pushA (show 0<d by lia) (by lia);have B:∀e:En,_=e.of _:=λe=>(congrArg (λO=>O.push (e.at (a.getD (d-1) 0))) (J e)).trans (ZY e _ _);refine X.is (λ_=>X.tellE w f B λt h=>.inl h) λU=>?_;exact X.iteE (c0:=(decide (A-d<7)&&decide (s-1-M<7))=b5) (λe=>rfl) (λ_=>X.doneH (.inr ⟨rfl,w,by dsimp only;lia,by dsimp only;lia,by dsimp only;lia,by dsimp only;lia,by dsimp only;lia,f⟩) B) λ_=>X.yieldH ⟨rfl,w,by dsimp only;lia,by dsimp only;lia,by dsimp only;lia,by dsimp only;lia,by dsimp only;lia,f⟩ B
       ·skip
        refine X.go (D.elem (q:=a) (i:=d-1) (by lia)) ?_;have w:=r.pushA (show 0<d by lia) (by lia);have B:∀e:En,_=e.of _:=λe=>(congrArg (λO=>O.push (e.at (a.getD (d-1) 0))) (K e)).trans (ZY e _ _);refine X.is (λ_=>X.tellE w f B λt h=>.inl h) λU=>?_;exact X.iteE (c0:=(decide (A-d<7)&&decide (s-1-M<7))=b5) (λe=>rfl) (λ_=>X.doneH (.inr ⟨rfl,w,by dsimp only;lia,by dsimp only;lia,by dsimp only;lia,by dsimp only;lia,by dsimp only;lia,f⟩) B) λ_=>X.yieldH ⟨rfl,w,by dsimp only;lia,by dsimp only;lia,by dsimp only;lia,by dsimp only;lia,by dsimp only;lia,f⟩ B
      ·have qO : ∀ e : En,e.of o = e.of o := λe => rfl
       refine X.go (D.elem (q:=b) (i:=s-1) (by lia)) ?_;have r:=E.pushB (show 0<s by lia) l;have K:∀e:En,_=e.of _:=λe=>(congrArg (λO=>O.push (e.at (b.getD (s-1) 0))) (qO e)).trans (ZY e _ _);refine X.is (λ_=>X.tellF r f K λt h=>.inl h) λz3=>?_;refine X.go (D.elem (q:=a) (i:=A-1) (by lia)) (X.bind (gal (R _ (by lia)) (by lia) (by lia) Q) ?_);rintro M z ⟨L,rfl⟩;refine X.ite (λ_=>?_) λ_=>?_
       ·have u:=r.extB L
        have J:∀e:En,_=e.of _:=λe=>((congrArg (λO=>O++((e.of b).extract M (s-1)).reverse) (K e)).trans (by rw[ZD,QJ])).trans (YK e _ _);refine X.is (λ_=>X.tellF u f J λt h=>.inl h) λz4=>X.is (λ_=>X.tellE u f J λt h=>.inl h) λV=>?_;refine X.go (D.elem (q:=a) (i:=A-1) (by lia)) ?_;have w:=u.pushA (show 0<A by lia) (by lia);have B:∀e:En,_=e.of _:=λe=>(congrArg (λO=>O.push (e.at (a.getD (A-1) 0))) (J e)).trans (ZY e _ _);refine X.is (λ_=>X.tellE w f B λt h=>.inl h) λU=>?_;exact X.iteE (c0:=(decide (A-d<7)&&decide (s-1-M<7))=b5) (λe=>rfl) (λ_=>X.doneH (.inr ⟨rfl,w,by dsimp only;lia,by dsimp only;lia,by dsimp only;lia,by dsimp only;lia,by dsimp only;lia,f⟩) B) λ_=>X.yieldH ⟨rfl,w,by dsimp only;lia,by dsimp only;lia,by dsimp only;lia,by dsimp only;lia,by dsimp only;lia,f⟩ B
       ·skip
        refine X.go (D.elem (q:=a) (i:=A-1) (by lia)) ?_;have w:=r.pushA (show 0<A by lia) (by lia);have B:∀e:En,_=e.of _:=λe=>(congrArg (λO=>O.push (e.at (a.getD (A-1) 0))) (K e)).trans (ZY e _ _);refine X.is (λ_=>X.tellE w f B λt h=>.inl h) λU=>?_;exact X.iteE (c0:=(decide (A-d<7)&&decide (s-1-M<7))=b5) (λe=>rfl) (λ_=>X.doneH (.inr ⟨rfl,w,by dsimp only;lia,by dsimp only;lia,by dsimp only;lia,by dsimp only;lia,by dsimp only;lia,f⟩) B) λ_=>X.yieldH ⟨rfl,w,by dsimp only;lia,by dsimp only;lia,by dsimp only;lia,by dsimp only;lia,by dsimp only;lia,f⟩ B
     ·refine all7 λr A s o g ac T z c => c.elim (λc => ?_) λc => ?_
      ·obtain⟨t,C,Y⟩:=c
       dsimp only at C;subst C;exact X.done (b0 t,A,s,o,g) ⟨t,rfl,Y⟩
      ·have C:=c.1
       have E:=c.2.1;have F:=c.2.2.1;have m:=c.2.2.2.1;have G:=c.2.2.2.2.1;have l:=c.2.2.2.2.2.1;have H:=c.2.2.2.2.2.2.1;have f:=c.2.2.2.2.2.2.2;dsimp only at C E F m G l H;subst C;dsimp only[vH];refine X.go D.setMin ?_;exact X.yieldH ⟨rfl,E,F,m,G,l,H,f⟩ λe=>rfl
  ·simp only[N2]
   rfl
 ·refine all5 λr na nb o g y c => ?_
  obtain⟨t,C,h⟩:=c;dsimp only at C;subst C;exact X.ret t h
end
section
variable{n:Nat}{ck:Nat->Nat->Bool}
def Ch:List (Nat×Nat×Nat)->Nat->Nat->Prop
 |[],s,e=>s=e
 |u::l,s,e=>u.1=s/\1<=u.2.1/\Ch l (s+u.2.1) e
theorem Ch.le:∀{l:List (Nat×Nat×Nat)}{s e:Nat},Ch l s e->s<=e
 |[],s,e,h=>Nat.le_of_eq h
 |u::l,s,e,h=>by have:=Ch.le h.2.2;lia
theorem Ch.two:∀{l:List (Nat×Nat×Nat)}{s e i:Nat}{u v:Nat×Nat×Nat},Ch l s e->l[i]?=b0 u->l[i+1]?=b0 v->v.1=u.1+u.2.1/\1<=u.2.1/\1<=v.2.1/\v.1+v.2.1<=e
 |[],s,e,i,u,v,h,h1,h2=>by simp at h1
 |[w],s,e,i,u,v,h,h1,h2=>by simp at h2
 |w::a::l,s,e,0,u,v,h,h1,h2=>by
  simp at h1 h2;subst h1 h2;obtain⟨f,c,d,a4,b⟩:=h;have:=b.le
  exact⟨by lia,c,a4,by lia⟩
 |w::a::l,s,e,i+1,u,v,h,h1,h2=>by exact Ch.two (l:=a::l) h.2.2 (by simpa using h1) (by simpa using h2)
theorem Ch.join:∀{l:List (Nat×Nat×Nat)}{s e i:Nat}{u v:Nat×Nat×Nat},Ch l s e->l[i]?=b0 u->l[i+1]?=b0 v->Ch ((l.set i (u.1,u.2.1+v.2.1,u.2.2)).eraseIdx (i+1)) s e
 |[],s,e,i,u,v,h,h1,h2=>by simp at h1
 |[w],s,e,i,u,v,h,h1,h2=>by simp at h2
 |w::a::l,s,e,0,u,v,h,h1,h2=>by simp at h1 h2;subst h1 h2;obtain⟨d,g,f,a4,b⟩:=h;exact⟨d,by dsimp only;lia,by rw[Nq]at b;exact b⟩
 |w::a::l,s,e,i+1,u,v,h,h1,h2=>by have c:=Ch.join (l:=a::l) h.2.2 (by simpa using h1) (by simpa using h2);exact⟨h.1,h.2.1,c⟩
theorem Ch.more:∀{l:List (Nat×Nat×Nat)}{s e m:Nat},Ch l s e->1<=m->Ch (l++[(e,m,0)]) s (e+m)
 |[],s,e,m,h,h1=>⟨h.symm,h1,by rw[h];rfl⟩
 |u::l,s,e,m,h,h1=>⟨h.1,h.2.1,Ch.more h.2.2 h1⟩
theorem Ch.mod{f:Nat×Nat×Nat->Nat×Nat×Nat}(a:∀u,(f u).1=u.1/\(f u).2.1=u.2.1):∀{l:List (Nat×Nat×Nat)}{s e:Nat}(i:Nat),Ch l s e->Ch (l.modify i f) s e
 |[],s,e,i,h=>by simpa using h
 |u::l,s,e,0,h=>by rw[List.modify_zero_cons];exact⟨(a u).1.trans h.1,by rw[(a u).2];exact h.2.1,by rw[(a u).2];exact h.2.2⟩
 |u::l,s,e,i+1,h=>by rw[List.modify_succ_cons];exact⟨h.1,h.2.1,Ch.mod a i h.2.2⟩
def put{α:Type}(p:Array α)(s:Nat)(l:List α)(k:Nat):Array α:=(l.zipIdx k).foldl (λa x=>a.setIfInBounds (s+x.2) x.1) p
theorem BB{α β:Type}(f:α->β)(s:Nat):∀(l:List α) (k:Nat) (p:Array α),put (p.map f) s (l.map f) k=(put p s l k).map f
 |[],k,p=>rfl
 |q::l,k,p=>by
  have e:(p.map f).setIfInBounds (s+k) (f q)=(p.setIfInBounds (s+k) q).map f:=by simp
  show put ((p.map f).setIfInBounds (s+k) (f q)) s (l.map f) (k+1)=_;rw[e];exact BB f s l (k+1) _
theorem FK{α:Type}(s:Nat):∀(l:List α) (k:Nat) (p:Array α),s+k+l.length<=p.size->(put p s l k).toList=p.toList.take (s+k)++l++p.toList.drop (s+k+l.length)
 |[],k,p,h=>by simp[put]
 | q :: l,k,p,h => by
  simp only[Bg]at h;have a:=FK s l (k+1) (p.setIfInBounds (s+k) q) (by simp;lia);show(put (p.setIfInBounds (s+k) q) s l (k+1)).toList=_;have hk:s+k<p.toList.length:=by simp;lia
  rw[a,Array.toList_setIfInBounds,show s+(k+1)=s+k+1 by lia,List.drop_set_of_lt (by lia),List.take_set,Qs,Cm hk];simp only[Bg,Option.toList_some];rw[show s+k+(l.length+1)=s+k+1+l.length by lia];have b:(p.toList.take (s+k)++[p.toList[s+k]]).set (s+k) q=p.toList.take (s+k)++[q]:=by
   have c:(p.toList.take (s+k)).length=s+k:=by rw[Ct];lia
   rw[Ew _ _ (by lia),c,Fx];rfl
  rw[b];simp
def Wf(n:Nat)(lo:Nat)(x:Pu):Prop:=Pm n x.p/\Ch x.pd.toList 0 lo/\lo<=n
def Pm.put{p:Array Nat}(b:Pm n p){s m e:Nat}{t:Array Nat}(h1:s<=m)(h2:m<=e)(i:e<=n)(a:t.toList.Perm ((p.extract s m).toList++(p.extract m e).toList)):Pm n (TS.put p s t.toList 0):=by
 have h:=b.sz;have hl:t.toList.length=e-s:=by rw[a.length_eq];simp;lia
 unfold Pm;rw[FK s t.toList 0 p (by lia)];refine Jq ?_ b;rw[hl,show s+0+(e-s)=e by lia,Pa];have g:=Dn e p.toList;have d:=Dn s (p.toList.take e);have c:=NM (p.toList.take e) s m h1;rw[Mr,Hq h2]at c;rw[Mr,Hq (by lia)]at d;rw[WQ,WQ,<-c]at a;have f:p.toList=p.toList.take s++(p.toList.take e).drop s++p.toList.drop e:=by rw[d,g]
 refine Jq (Ge _ (Dm _ a)) ?_;rw[<-f]
def D.set{F:En->Fa}{x y:Pu}(h:∀e,F e=stO e y):D n ck (λe=>(MonadStateOf.set (F e):StateT Fa Sz PUnit)) x (λ_=>⟨⟩) y:=λe _ E Q q=>by show kasC _ _ _ (MonadStateOf.set (F e):StateT Fa Sz PUnit) Q _ _;rw[h e];unfold kasC;exact As q
def ln{a b:Array Nat}{x:Pu}{A B:En->Array Keyed}(g:∀e,A e=e.of a)(f:∀e,B e=e.of b)(d:Al n a)(c:Al n b)(i:1<=a.size)(h:1<=b.size):X n ck (λe=>E4 (A e) (B e)) x (λt e=>e.of t) (λt y=>t.toList.Perm (a.toList++b.toList)/\Sd x y):=by rw[show A=λe=>e.of a from funext g,show B=λe=>e.of b from funext f];exact iO d c i h
def lE{a b:Array Nat}{x:Pu}{A B:En->Array Keyed}(g:∀e,A e=e.of a)(f:∀e,B e=e.of b)(d:Al n a)(c:Al n b)(i:1<=a.size)(h:1<=b.size):X n ck (λe=>E3 (A e) (B e)) x (λt e=>e.of t) (λt y=>t.toList.Perm (a.toList++b.toList)/\Sd x y):=by rw[show A=λe=>e.of a from funext g,show B=λe=>e.of b from funext f];exact kX d c i h
def Pm.al{p:Array Nat}(h:Pm n p):Al n p:=λi hi=>h.lt (by rw[<-h.sz];exact hi)
def Al.ext{p:Array Nat}(h:Al n p)(i j:Nat):Al n (p.extract i j):=λk hk=>by
 have a:k<min j p.size-i:=by simpa using hk
 have e:(p.extract i j).getD k 0=p.getD (i+k) 0:=by
  have h1:i+k<p.size:=by lia
  have c:p.getD (i+k) 0=p[i+k]:=by simp[Kl,h1]
  have b:(p.extract i j).getD k 0=(p.extract i j)[k]:=by simp[Kl,a]
  rw[c,b,Array.getElem_extract]
 rw[e];exact h _ (by lia)
def Ti{i lo:Nat}{x:Pu}(h:Wf n lo x)(hi:i+1<x.pd.size):X n ck (λ_=>mergeAt' i) x (λ(_:Unit) _=>b5) (λ_ y=>Wf n lo y):=by
 obtain⟨j,hc,hl⟩:=h;have hsz:=j.sz;obtain⟨c,l,pw,J⟩:∃c l pw,x.pd[i]'(by lia)=(c,l,pw):=⟨_,_,_,rfl⟩;obtain⟨f,o,qw,I⟩:∃f o qw,x.pd[i+1]'hi=(f,o,qw):=⟨_,_,_,rfl⟩;have H:x.pd[i]?=b0 (c,l,pw):=by rw[<-J];simp
 have G:x.pd[i+1]?=b0 (f,o,qw):=by rw[<-I];simp
 have s:x.pd.toList[i]?=b0 (c,l,pw):=by rw[<-H];simp
 have r:x.pd.toList[i+1]?=b0 (f,o,qw):=by rw[<-G];simp
 obtain⟨P,O,N,M⟩:=hc.two s r;dsimp only at P O N M;have F:=hc.join s r;dsimp only at F;have v:Wf n lo {x with pd:=(x.pd.setIfInBounds i (c,l+o,pw)).eraseIdxIfInBounds (i+1)}:=⟨j,by show Ch ((x.pd.setIfInBounds i (c,l+o,pw)).eraseIdxIfInBounds (i+1)).toList 0 lo;rw[show((x.pd.setIfInBounds i (c,l+o,pw)).eraseIdxIfInBounds (i+1)).toList=(x.pd.toList.set i (c,l+o,pw)).eraseIdx (i+1) by simp[Kj,hi]];exact F,hl⟩
 generalize E:({x with pd:=(x.pd.setIfInBounds i (c,l+o,pw)).eraseIdxIfInBounds (i+1)}:Pu)=y at v;refine X.go D.get ?_;have C:∀e:En,pendingOf (stO e x)=x.pd:=λe=>rfl;simp only[C,H,G];refine X.go (D.set (y:=y) λe=>by rw[<-E];rfl) ?_;have w:y.p=x.p:=by rw[<-E]
 refine X.go (D.elem (q:=x.p) (i:=f) (by lia)) (X.bind (gal (j.lt (by lia)) (by lia) (by lia) j.al) ?_);rintro k z ⟨hk,rfl⟩;refine X.is (λ_=>X.ret () v) λL=>?_;refine X.go (D.elem (q:=x.p) (i:=c+k+(l-k)-1) (by lia)) (X.bind (gal (j.lt (by lia)) (by lia) (by lia) j.al) ?_);rintro m z ⟨Q,rfl⟩;refine X.is (λ_=>X.ret () v) λK=>?_;have B:∀(t:Array Nat) (d:Pu),t.toList.Perm ((x.p.extract (c+k) f).toList++(x.p.extract f (f+m)).toList)->Sd z d->Wf n lo {d with p:=TS.put d.p (c+k) t.toList 0}:=λt d A u=>by refine⟨?_,by rw[u.2];exact v.2.1,hl⟩;rw[u.1,w];exact j.put (by lia) (by lia) (by lia) A
 have VE:∀(e:En) (t:Array Nat) (d:Pu),((e.of t).toList.zipIdx.foldl (λa x=>a.setIfInBounds (c+k+x.2) x.1) (e.of d.p))=e.of (TS.put d.p (c+k) t.toList 0):=λe t d=>by have h:=BB (Jd e.it) (c+k) t.toList 0 d.p;rw[show t.toList.map (Jd e.it)=(e.of t).toList by simp[En.of]]at h;exact h
 refine X.ite (λ_=>X.bind (ln (a:=x.p.extract (c+k) f) (b:=x.p.extract f (f+m)) (λe=>ZD e _ _ _) (λe=>ZD e _ _ _) (j.al.ext _ _) (j.al.ext _ _) (by simp;lia) (by simp;lia)) ?_) λ_=>X.bind (lE (a:=x.p.extract (c+k) f) (b:=x.p.extract f (f+m)) (λe=>ZD e _ _ _) (λe=>ZD e _ _ _) (j.al.ext _ _) (j.al.ext _ _) (by simp;lia) (by simp;lia)) ?_
 all_goals
  rintro t d ⟨A,u⟩;refine X.go (D.modify (y:={d with p:=TS.put d.p (c+k) t.toList 0}) λe=>?_) (X.go D.get (X.ret () (B t d A u)));show Jf e.κ ((e.of t).toList.zipIdx.foldl (λa x=>a.setIfInBounds (c+k+x.2) x.1) (e.of d.p)) d.pd d.g b3=_;rw[VE];rfl
end
section
variable{n:Nat}{ck:Nat->Nat->Bool}
theorem Wf.pw{x:Pu}{lo:Nat}(h:Wf n lo x)(i pw:Nat):Wf n lo {x with pd:=x.pd.modify i λu=>(u.1,u.2.1,pw)}:=by refine⟨h.1,?_,h.2.2⟩;show Ch (x.pd.modify i λu=>(u.1,u.2.1,pw)).toList 0 lo;rw[Array.toList_modify];exact Ch.mod (f:=λu=>(u.1,u.2.1,pw)) (λu=>⟨rfl,rfl⟩) i h.2.1
def Wf.more{x:Pu}{lo m:Nat}(h:Wf n lo x)(h1:1<=m)(h2:lo+m<=n):Wf n (lo+m) {x with pd:=x.pd.push (lo,m,0)}:=by refine⟨h.1,?_,h2⟩;show Ch (x.pd.push (lo,m,0)).toList 0 (lo+m);rw[Gr];exact h.2.1.more h1
def runs{x:Pu}(h:Wf n 0 x):X n ck (λ_=>sortRuns') x (λ(_:Unit) _=>()) (λ_ y=>Pm n y.p):=by
 refine X.go D.get ?_;have G:∀e:En,(arrOf (stO e x)).size=n:=λe=>by show(e.of x.p).size=n;rw[SQ,h.1.sz]
 have f:∀(e:En) (y:Pu),pendingOf (stO e y)=y.pd:=λe y=>rfl;simp only[G];generalize (sortPriv% PySem.Builtin.minRun) n n 0=o;refine X.bind (u:=λ(t:Nat) _=>(b3,t)) (S:=λt y=>Wf n t y) ?_ ?_
 ·refine X.range (I := λ_ t y => Wf n t y) (t := 0) (λt y h => h) h λi _ _ k lo y hw => ?_
  refine X.ite (λ_=>X.done lo hw) λq=>?_;dsimp only at q;refine X.bind (count hw.1 (by dsimp only;omega) (by dsimp only;omega)) ?_;rintro m z ⟨m1,m2,hz⟩;have g:Wf n lo z:=⟨hz.1,by rw[hz.2];exact hw.2.1,hw.2.2⟩;dsimp only at m2;have last:∀(m:Nat) (z:Pu),1<=m->lo+m<=n->Wf n lo z->1<=m/\lo+m<=n/\Wf n lo z:=λm z a b c=>⟨a,b,c⟩;refine X.ite (λ_=>X.go D.rule (X.bind (bin g.1 (by dsimp only;omega)) λ_ C A=>X.ite (λl=>absurd l (by simp)) λ_=>?_)) λ_=>?_
  ·have w := last (min (n-lo) o) C (by omega) (by omega) ⟨A.1,by rw [A.2];exact g.2.1,g.2.2⟩
   obtain⟨v,s,r⟩:=w;refine X.go D.get ?_;simp only[f];cases M:C.pd.back? with
   |none=>exact X.go (D.modify (y:={C with pd:=C.pd.push (lo,(min (n-lo) o),0)}) λe=>rfl) (X.yield (lo+(min (n-lo) o)) (r.more v s))
   |some u=>
    obtain⟨s1,j,q1⟩:=u;dsimp only;generalize E:(sortPriv% PySem.Builtin.power) n (2*s1+j) (2*s1+j+j+min (n-lo) o) n=pw;refine X.bind (u:=λ(_:Unit) _=>(b3,())) (S:=λ_ y=>Wf n lo y) ?_ λ_ y d=>?_
    ·refine X.range (I := λ_ _ y => Wf n lo y) (t := ()) (λt y h => h) r λi _ _ k _ y d => ?_
     refine X.go D.get ?_;simp only[f];by_cases B:y.pd.size>1
     ·rw[if_pos B]
      cases L:y.pd[y.pd.size-2]? with
      |none=>exact X.done () d
      |some u=>
       obtain⟨K,J,H⟩:=u;dsimp only;exact X.ite (λ_=>X.done () d) λ_=>X.bind (Ti d (by omega)) λ_ y h=>X.ite (λl=>absurd l (by simp)) λ_=>X.yield () h
     ·rw[if_neg B]
      exact X.done () d
    ·refine X.go (D.modify (y := { y with pd := y.pd.modify (y.pd.size-1) λu => (u.1,u.2.1,pw) }) λe => rfl) ?_
     exact X.go (D.modify (y:={y with pd:=(y.pd.modify (y.pd.size-1) λu=>(u.1,u.2.1,pw)).push (lo,(min (n-lo) o),0)}) λe=>rfl) (X.yield (lo+min (n-lo) o) ((d.pw _ pw).more v s))
  ·have w := last m z m1 (by omega) g
   obtain⟨v,s,r⟩:=w;refine X.go D.get ?_;simp only[f];cases M:z.pd.back? with
   |none=>exact X.go (D.modify (y:={z with pd:=z.pd.push (lo,m,0)}) λe=>rfl) (X.yield (lo+m) (r.more v s))
   |some u=>
    obtain⟨s1,j,q1⟩:=u;dsimp only;generalize E:(sortPriv% PySem.Builtin.power) n (2*s1+j) (2*s1+j+j+m) n=pw;refine X.bind (u:=λ(_:Unit) _=>(b3,())) (S:=λ_ y=>Wf n lo y) ?_ λ_ y d=>?_
    ·refine X.range (I := λ_ _ y => Wf n lo y) (t := ()) (λt y h => h) r λi _ _ k _ y d => ?_
     refine X.go D.get ?_;simp only[f];by_cases B:y.pd.size>1
     ·rw[if_pos B]
      cases L:y.pd[y.pd.size-2]? with
      |none=>exact X.done () d
      |some u=>
       obtain⟨K,J,H⟩:=u;dsimp only;exact X.ite (λ_=>X.done () d) λ_=>X.bind (Ti d (by omega)) λ_ y h=>X.ite (λl=>absurd l (by simp)) λ_=>X.yield () h
     ·rw[if_neg B]
      exact X.done () d
    ·refine X.go (D.modify (y := { y with pd := y.pd.modify (y.pd.size-1) λu => (u.1,u.2.1,pw) }) λe => rfl) ?_
     exact X.go (D.modify (y:={y with pd:=(y.pd.modify (y.pd.size-1) λu=>(u.1,u.2.1,pw)).push (lo,m,0)}) λe=>rfl) (X.yield (lo+m) ((d.pw _ pw).more v s))
 ·intro lo y hw
  refine X.bind (u:=λ(_:Unit) _=>(b3,())) (S:=λ_ y=>Wf n lo y) ?_ λ_ y h=>X.ret () h.1;refine X.range (I:=λ_ _ y=>Wf n lo y) (t:=()) (λt y h=>h) hw λi _ _ k _ y hw=>?_;refine X.go D.get ?_;simp only[f];refine X.ite (λ_=>X.done () hw) λq=>?_;have F:∀(c:Prop) [Decidable c],(if c then y.pd.size-2-1 else y.pd.size-2)+1<y.pd.size:=by intro c _;split<;>omega
  exact X.bind (Ti hw (F _)) λ_ y h=>X.ite (λl=>absurd l (by simp)) λ_=>X.yield () h
end
def Pm.id(n:Nat):Pm n (Bm n).toArray:=by unfold Pm;simp
def xS(n:Nat):Pu:=⟨(Bm n).toArray,#[],7⟩
def FO(n:Nat)(ck:Nat->Nat->Bool):∃y:Pu,Pm n y.p/\D n ck (λ_=>sortRuns') (xS n) (λ_=>()) y:=by obtain⟨t,y,h,d⟩:=runs (n:=n) (ck:=ck) (x:=xS n) ⟨Pm.id n,rfl,Dx _⟩;exact⟨y,h,d⟩
noncomputable def srt(n:Nat)(ck:Nat->Nat->Bool):List Nat:=if 2<=n then(FO n ck).choose.p.toList else Bm n
def FZ(n:Nat)(ck:Nat->Nat->Bool):(srt n ck).Perm (Bm n):=by
 unfold srt;split
 ·exact(FO n ck).choose_spec.1
 ·exact .refl _
section
variable{prog:Bh}{w:Sm}{A:Dh}{E:Se->Ah->Prop}{s:Ah}
def ll(vs:List Se):(Bm vs.length).map (λi=>vs.getD i Value.none)=vs:=by
 refine Oi λi=>?_;by_cases h:i<vs.length
 ·simp[h]
 ·simp[h]
def iH{a:Sf}{vs:List Se}{v:Nat}{κ:Pr}{ck:Nat->Nat->Bool}{P:PySem.Fin->Ah->Prop}(g:s.heap.get? a=b0 (Hf "list" vs.toArray v))(hz:vs.length<=sizeLine)(hk:2<=vs.length->∀h':Sq,(∀b o,b≠a->s.heap.get? b=b0 o->h'.get? b=b0 o)->∀u:Pr->Ah->Prop,u κ {s with heap:=h'}->Sg (Sk prog w) A (keyKind' vs.toArray) u E {s with heap:=h'})(hc:∀h':Sq,(∀b o,b≠a->s.heap.get? b=b0 o->h'.get? b=b0 o)->∀i j,i<vs.length->j<vs.length->∀C:Bool->Ah->Prop,C (ck i j) {s with heap:=h'}->Sg (Sk prog w) A (keyLt' κ (vs.getD i Value.none) (vs.getD j Value.none)) C (λ_ _=>False) {s with heap:=h'})(h:P (.done (.ret .none)) {s with heap:=sortedHeap s.heap a vs ((srt vs.length ck).map λi=>vs.getD i Value.none).toArray}):Sg (Sk prog w) A (Fo.«list.sort» ⟨[.ref a],[]⟩) P E s:=by
 have lt:=Av g;have hsz:vs.toArray.size=vs.length:=by simp
 obtain⟨I,f⟩:∃k,(s.heap.update a (Df λ_=> #[])).get? a=b0 (Hf "list" #[] k):=⟨_,get?_update_seq g (λ_=> #[])⟩;have keep:∀b o,b≠a->s.heap.get? b=b0 o->(((s.heap.update a (Df λ_=> #[])).push (Hf "tuple" vs.toArray 0)).push (Hf "list" #[] 0)).get? b=b0 o:=λb o H m=>
  Ad _ (Ad _ (by rw[Nd _ _ _ _ H];exact m))
 have c:(((s.heap.update a (Df λ_=> #[])).push (Hf "tuple" vs.toArray 0)).push (Hf "list" #[] 0)).get? a=b0 (Hf "list" #[] I):=Ad _ (Ad _ f);have J:∀l:List Se,l.length=vs.length->l.toArray.size<=sizeLine+1:=λl hl=>by rw[Aq];lia
 rw[list_sort_plain];refine(Ac (listItems_at g rfl ?_));refine(Ac (Nr g rfl ?_ (by rw[Aq];lia) (Dx _)));refine(Ac (Ql f rfl ?_));refine(Ac (wpAny_newTuple ?_ (by show vs.length<=_;exact hz)));refine(Ac (wpAny_newList (Bv ?_) (Dx _)))
 ·show (Sg (Sk prog w) A _ P E { s with heap := (((s.heap.update a (Df λ_ => #[])).push (Hf "tuple" vs.toArray 0)).push (Hf "list" #[] 0)) })
  dsimp only;have K:((srt vs.length ck).map λi=>vs.getD i Value.none).length=vs.length:=by rw[Ce,(FZ _ _).length_eq,Ig]
  by_cases h2:vs.toArray.size<2
  ·have G : ((srt vs.length ck).map λi => vs.getD i Value.none) = vs := by unfold srt;rw[if_neg (by lia)];exact ll vs
   rw[G]at h;rw[if_pos h2,if_pos h2];refine(Ac (As ?_));rw[StateT.run_pure];refine(Ac (As ?_));dsimp only;have D:(vs.toArray.zip vs.toArray).map (·.2)=vs.toArray:=by apply Pn.mp;simp;exact List.map_snd_zip (Au _)
   rw[D];refine(Ac (Ql c rfl (Ac (Nr c rfl ?_ (hsz2:=by rw[Aq];lia)))));simp only[bne_self_eq_false,Du,if_false];exact As h
  ·rw[if_neg h2,if_neg h2]
   refine(Ac (hk (by lia) _ keep _ ?_));have z:2<=vs.length:=by lia
   have spec:=(FO vs.length ck).choose_spec;have t:srt vs.length ck=(FO vs.length ck).choose.p.toList:=by unfold srt;rw[if_pos z]
   generalize (FO vs.length ck).choose=y at spec t;let e:En:=⟨prog,w,A,{s with heap:=(((s.heap.update a (Df λ_=> #[])).push (Hf "tuple" vs.toArray 0)).push (Hf "list" #[] 0))},κ,Oo vs⟩
   have r:e.Ok vs.length ck:=λi j hi F C q=>by show Sg (Sk prog w) A (keyLt' κ (Jd (Oo vs) i).1 (Jd (Oo vs) j).1) C _ _;rw[Qm,Qm];exact hc _ keep i j hi F C q
   have n:Jf κ (vs.toArray.zip vs.toArray) #[] 7 b3=stO e (xS vs.length):=by have q:=kas_range (Oo vs);rw[pairsOf_size]at q;show Jf κ (Oo vs) #[] 7 b3=Jf κ ((List.toArray (Bm vs.length)).map (Jd (Oo vs))) #[] 7 b3;rw[q]
   rw[n];have B:(e.of y.p).map (·.2)=((srt vs.length ck).map λi=>vs.getD i Value.none).toArray:=by apply Pn.mp;rw[t,Array.map_map,Array.toList_map];exact Jn λi _=>by show(Jd (Oo vs) i).2=_;rw[Qm]
   have run:=spec.2 e r E (λ_ d s'=>d=stO e y/\s'=e.s) ⟨rfl,rfl⟩;refine(Ac (Cu run ?_ λ_ _ x=>x));rintro ⟨⟨⟩,d⟩ s' ⟨rfl,rfl⟩;show(Sg (Sk prog w) A _ P E {s with heap:=(((s.heap.update a (Df λ_=> #[])).push (Hf "tuple" vs.toArray 0)).push (Hf "list" #[] 0))});dsimp only;rw[show(arrOf (stO e y))=e.of y.p from rfl,B];refine(Ac (Ql c rfl (Ac (Nr c rfl ?_ (hsz2:=by rw[Aq];lia)))));rw[show failedOf (stO e y)=b3 from rfl];simp only[bne_self_eq_false,Du,if_false];exact As h
end
section
variable{prog:Bh}{w:Sm}{A:Dh}{E:Se->Ah->Prop}{s:Ah}
def FW{l:Sf}{vs:List Se}{κ:Pr}{ck:Nat->Nat->Bool}{Q:Se->Ah->Prop}(hl:s.heap.IsList l vs.toArray)(hz:vs.length<=sizeLine)(hk:2<=vs.length->∀(A:Dh) (E:Se->Ah->Prop) (h':Sq),(∀b o,s.heap.get? b=b0 o->h'.get? b=b0 o)->∀e:Pr->Ah->Prop,e κ {s with heap:=h'}->Sg (Sk prog w) A (keyKind' vs.toArray) e E {s with heap:=h'})(hc:∀(A:Dh) (h':Sq),(∀b o,s.heap.get? b=b0 o->h'.get? b=b0 o)->∀i j,i<vs.length->j<vs.length->∀C:Bool->Ah->Prop,C (ck i j) {s with heap:=h'}->Sg (Sk prog w) A (keyLt' κ (vs.getD i Value.none) (vs.getD j Value.none)) C (λ_ _=>False) {s with heap:=h'})(h:Q (.ref (s.heap.objs.size+1)) {s with heap:=sortedAll s.heap vs ((srt vs.length ck).map λi=>vs.getD i Value.none).toArray}):Sg (Sk prog w) A (call (.builtin "sorted") [.ref l]) Q E s:=by
 refine(Calls.call_function_entry kind_sorted plain_sorted entry_sorted (args_sorted1 _) ?_);unfold Fo.«sorted»;refine(Ac (m:=checkCount "sorted" 1 1 _) (As (Ac (collect_list hl (Ac (wpAny_newList ?_ (by exact hz))) hz))));have c:((s.heap.push (Hf "list" #[] 0)).update s.heap.objs.size (Df (· ++vs.toArray))).objs.size=s.heap.objs.size+1:=by rw[Heap.size_update,size_push']
 have d:(((s.heap.push (Hf "list" #[] 0)).update s.heap.objs.size (Df (· ++vs.toArray))).push (Hf "list" vs.toArray 0)).get? (s.heap.objs.size+1)=b0 (Hf "list" vs.toArray 0):=by rw[<-c];exact Ax _ rfl
 have keep:∀b o,s.heap.get? b=b0 o->(((s.heap.push (Hf "list" #[] 0)).update s.heap.objs.size (Df (· ++vs.toArray))).push (Hf "list" vs.toArray 0)).get? b=b0 o/\b≠s.heap.objs.size+1:=λb o q=>by have a:b<s.heap.objs.size:=Av q;refine⟨?_,Bn (Op a)⟩;rw[Ih _ _ _ (by rw[c];exact(Bn (Op a))),Nd _ _ _ _ (Bn a),Ih _ _ _ (Bn a)];exact q
 show(Sg _ _ _ _ _ {s with heap:=((s.heap.push (Hf "list" #[] 0)).update s.heap.objs.size (Df (· ++vs.toArray))).push (Hf "list" vs.toArray 0)});rw[c];refine(Ac (Bv (Eo slot_list_sort ⟨_,d,rfl⟩ entry_list_sort (iH (κ:=κ) (ck:=ck) d hz (λf h' k'=>hk f _ _ h' λb o q=>k' b o (keep b o q).2 (keep b o q).1) (λh' k'=>hc _ h' λb o q=>k' b o (keep b o q).2 (keep b o q).1) ⟨_,rfl,?_⟩) (args_list_sort _))));exact(As ⟨_,rfl,h⟩)
def EW(p q:Int×Int):Bool:=if p.1=q.1 then decide (p.2<q.2)else decide (p.1<q.1)
def jG{x y:Sf}{a b c d:Int}{t u t' j:Tok}{C:Bool->Ah->Prop}(i:IsTup s.heap x #[.int a t,.int b u])(g:IsTup s.heap y #[.int c t',.int d j])(h:C (EW (a,b) (c,d)) s):Sg (Sk prog w) A (keyLt' (tuples' b5) (.ref x) (.ref y)) C E s:=by
 obtain⟨o,i,_,n,dx⟩:=i;obtain⟨l,g,_,m,k⟩:=g;refine kat_lt i dx g k ?_;refine kat_cons (Ld (kat_go (λe=>kat_yes ?_) λe=>kat_no ?_))
 ·have e : a = c := by simpa using e
  refine kat_cons (Ld (kat_go (λf=>kat_yes (kat_nil ?_)) λf=>kat_no ?_))
  ·have f : b = d := by simpa using f
   have:EW (a,b) (c,d)=ba:=by simp[EW,e,f]
   rw[this]at h;exact h
  ·refine kat_one _ _ (lt_int ?_)
   have:EW (a,b) (c,d)=decide (b<d):=by simp[EW,e]
   rw[this]at h;exact h
 ·have e : ¬ a = c := by simpa using e
  have:EW (a,b) (c,d)=decide (a<c):=by simp[EW,e]
  rw[this]at h;exact oneLt_int h
def PrI(h:Sq):List Se->List (Int×Int)->Prop
 |[],[]=>True
 |v::vs,p::ps=>(∃a t u,v=.ref a/\IsTup h a #[.int p.1 t,.int p.2 u])/\PrI h vs ps
 |_,_=>False
theorem PrI.keep{h h':Sq}(k:∀b o,h.get? b=b0 o->h'.get? b=b0 o):∀{vs:List Se}{ps:List (Int×Int)},PrI h vs ps->PrI h' vs ps
 |[],[],_=>trivial
 |_::_,_::_,⟨⟨a,t,u,e,q⟩,r⟩=>⟨⟨a,t,u,e,q.keeps k⟩,PrI.keep k r⟩
 |[],_::_,r=>r.elim
 |_::_,[],r=>r.elim
theorem PrI.at{h:Sq}:∀{vs:List Se}{ps:List (Int×Int)}{i:Nat},PrI h vs ps->i<vs.length->∃a t u,vs.getD i Value.none=.ref a/\IsTup h a #[.int (ps.getD i (0,0)).1 t,.int (ps.getD i (0,0)).2 u]
 |[],[],i,_,hi=>by simp at hi
 |_::_,_::_,0,r,_=>r.1
 |v::vs,p::ps,i+1,r,hi=>by
  have:=PrI.at (i:=i) r.2 (by simpa using hi)
  simpa using this
 |[],_::_,i,r,_=>r.elim
 |_::_,[],i,r,_=>r.elim
theorem PrI.tups{h:Sq}:∀{vs:List Se}{ps:List (Int×Int)},PrI h vs ps->∃fs,KatTups h vs fs/\fs.length=vs.length/\∀v∈fs,∃i t,v=.int i t
 |[],[],_=>⟨[],trivial,rfl,λ_ h=>by cases h⟩
 |_::_,_::_,⟨⟨a,t,u,e,o,d,c,n,hd⟩,r⟩=>by
  obtain⟨fs,h1,h2,f⟩:=PrI.tups r;subst e;refine⟨.int _ t::fs,KatTups.cons d c hd rfl h1,by simp[h2],λv b=>?_⟩;rcases Aj.mp b with rfl|b
  ·exact⟨_,_,rfl⟩
  ·exact f v b
 |[],_::_,r=>r.elim
 |_::_,[],r=>r.elim
def ckP(ps:List (Int×Int))(i j:Nat):Bool:=EW (ps.getD i (0,0)) (ps.getD j (0,0))
def HU{l:Sf}{vs:List Se}{ps:List (Int×Int)}{Q:Se->Ah->Prop}(hl:s.heap.IsList l vs.toArray)(hz:vs.length<=sizeLine)(c:PrI s.heap vs ps)(h:Q (.ref (s.heap.objs.size+1)) {s with heap:=sortedAll s.heap vs ((srt vs.length (ckP ps)).map λi=>vs.getD i Value.none).toArray}):Sg (Sk prog w) A (call (.builtin "sorted") [.ref l]) Q E s:=by
 refine FW (κ:=tuples' b5) hl hz (λp A E h' k' r q=>?_) (λA h' k' i j hi g C q=>?_) h
 ·obtain⟨fs,h1,h2,k⟩:=(c.keep k').tups
  refine kat_kind (s:={s with heap:=h'}) (T:=.type "int") h1 (by lia) (λv f=>?_) (by decide) q;obtain⟨i,t,rfl⟩:=k v f;exact Looks.now
 ·obtain⟨a,t,u,n,e⟩:=(c.keep k').at hi
  obtain⟨b,t',o,m,d⟩:=(c.keep k').at g;rw[n,m];exact jG (s:={s with heap:=h'}) e d q
end
end TS
namespace L2
open PySem PySem.Spec PyProof.Rows
variable{X:Cx}{K:Ao}
noncomputable def prD:cM->Option (Int×Int)
 |.tup [.int a,.int b]=>b0 (a,b)
 |_=>b3
def LL:List cM->Option (List (Int×Int))
 |[]=>b0 []
 |d::ds=>(prD d).bind λp=>(LL ds).map λps=>p::ps
def PrV(K:Ao)(H:Hp):List V->List (Int×Int)->Prop
 |[],[]=>True
 |v::vs,p::ps=>(∃a,v=.ref a/\UV K H a [.int p.1,.int p.2])/\PrV K H vs ps
 |_,_=>False
def gG{d:cM}{p:Int×Int}(h:prD d=b0 p):d=.tup [.int p.1,.int p.2]:=by
 unfold prD at h;split at h
 ·cases h;rfl
 ·cases h
theorem A9{H:Hp}{N:Sf->Prop}:∀{xs:List V}{ds:List cM}{ps:List (Int×Int)},bT K N H xs ds->LL ds=b0 ps->PrV K H xs ps
 |_,_,_,.nil,h=>by cases h;trivial
 | _,_,ps,@bT.cons _ _ _ v vs d ds h t,e => by
  have e:(prD d).bind (λp=>(LL ds).map λps=>p::ps)=b0 ps:=e;cases h1:prD d with
  |none=>rw[h1]at e;cases e
  |some p=>
   rw[h1]at e;have e:(LL ds).map (λps=>p::ps)=b0 ps:=e;cases h2:LL ds with
   |none=>rw[h2]at e;cases e
   |some qs=>
    rw[h2]at e;cases e;have:=gG h1
    subst this;refine⟨?_,A9 t h2⟩;cases h.onT with
    |tup sq r=>
     cases r with
     |cons b r=>
      cases b.onI;cases r with
      |cons a r=>
       cases a.onI;cases r;exact⟨_,rfl,sq⟩
theorem PrV.prI{H:Hp}{aa:List (Sf×Sr)}{σ:St}{s:Ah}(I:bP X aa σ H s):∀{xs:List V}{us:List Se}{ps:List (Int×Int)},PrV X.K H xs ps->a7 xs us->TS.PrI s.heap us ps
 |[],_,[],_,.nil=>trivial
 | _ :: _,_,_ :: _,⟨⟨a,e,q⟩,r⟩,.cons h t => by
  subst e;cases h;obtain⟨its,b,i,_⟩:=I.tuple q;cases b with
  |cons g b=>
   obtain⟨d,rfl⟩:=g;cases b with
   |cons f b=>
    obtain⟨c,rfl⟩:=f;cases b;exact⟨⟨a,d,c,rfl,i⟩,PrV.prI I r t⟩
 |[],_,_::_,h,_=>h.elim
 |_::_,_,[],h,_=>h.elim
theorem PrV.len{H:Hp}:∀{xs:List V}{ps:List (Int×Int)},PrV K H xs ps->xs.length=ps.length
 |[],[],_=>rfl
 |_::_,_::_,r=>by simp[PrV.len r.2]
 |[],_::_,r=>r.elim
 |_::_,[],r=>r.elim
theorem JZ{xs:List V}{us:List Se}(r:a7 xs us):∀l:List Nat,(∀i∈l,i<xs.length)->a7 (l.map λi=>xs.getD i .non) (l.map λi=>us.getD i Value.none)
 |[],_=>.nil
 |i::l,h=>by
  have hi:=h i Aw;obtain⟨u,h1,h2⟩:=a7.get (i:=i) (x:=xs[i]) r (by simp[hi]);refine .cons ?_ (JZ r l λj a=>h j (Ap _ a));have c:xs.getD i .non=xs[i]:=by simp[hi]
  have b:us.getD i Value.none=u:=by simp[h1]
  show aW (xs.getD i .non) (us.getD i Value.none);rw[c,b];exact h2
noncomputable def FY(ps:List (Int×Int)):List Nat:=TS.srt ps.length (TS.ckP ps)
def RP(ps:List (Int×Int)):(FY ps).Perm (Bm ps.length):=TS.FZ _ _
def Wl(K:Ao):RC:=λxs H Q=>∃(p:Sf) (ys:List V) (ps:List (Int×Int)),xs=[.ref p]/\W7 K H p ys/\PrV K H ys ps/\∀l:Sf,H l=b3->Q (.ref l) (aG H l (.lst ((FY ps).map λi=>ys.getD i .non)))
def jE(h:X.K=K:=by rfl):Z2 X (.builtin "sorted") (Wl K):=by
 subst h;intro aa s σ H xs us Q I r h;obtain⟨p,ys,ps,rfl,j,d,q⟩:=h;obtain⟨u,rfl,f⟩:=UR r;cases f;obtain⟨its,c,g,hz⟩:=I.list j;have n:=c.length;have k:=d.len;have l:H (s.heap.objs.size+1)=b3:=I.hok.fresh (Gk _);refine TS.HU g.isList (by lia) (d.prI I c) ?_;rw[show its.length=ps.length by lia];obtain⟨e,m⟩:=sortedAll_at s.heap its ((TS.srt ps.length (TS.ckP ps)).map λi=>its.getD i Value.none).toArray;refine⟨.ref (s.heap.objs.size+1),_,I.laid (a:=s.heap.objs.size+1) (o:=.lst ((FY ps).map λi=>ys.getD i .non)) (t':=s.toks) (λb o=>sortedAll_old) (Gk _) ?_,rfl,q _ l⟩;refine⟨by rw[Ce,(RP ps).length_eq,Ig];lia,(FY ps).map λi=>its.getD i Value.none,e,JZ c _ λi hi=>?_,?_⟩
 ·have:=Dq.mp ((RP ps).mem_iff.mp hi)
  lia
 ·rw[m]
  rfl
noncomputable def C5:cM->Option cM
 |.lst ds=>(LL ds).bind λps=>b0 (.lst ((FY ps).map λi=>ds.getD i .non))
 |_=>b3
theorem JN{H:Hp}{N:Sf->Prop}{xs:List V}{ds:List cM}(r:bT K N H xs ds):∀l:List Nat,bT K N H (l.map λi=>xs.getD i .non) (l.map λi=>ds.getD i .non)
 |[]=>.nil
 | i :: l => by
  have one:∀{xs:List V}{ds:List cM}(i:Nat),bT K N H xs ds->aU K N H N (xs.getD i .non) (ds.getD i .non):=by
   intro xs ds i r;induction r using bT.rec (motive_1:=λ_ _ _ _=>True) generalizing i with
   |nil=>simpa using aU.non
   |cons h t _ a=>cases i with
    |zero=>simpa using h
    |succ i=>simpa using a i
   |_=>trivial
  exact .cons (one i r) (JN r l)
def lp:CalN K (Wl K) C5:=by
 intro H N M x d c Q e h k;cases d with
 |lst ds=>
  have h:((LL ds).bind λps=>b0 (cM.lst ((FY ps).map λi=>ds.getD i .non)))=b0 c:=h;cases h1:LL ds with
  |none=>rw[h1]at h;cases h
  |some ps=>
   rw[h1]at h;cases h;obtain⟨a,xs,rfl,sq,r⟩:=e.lstE;exact⟨a,xs,ps,rfl,sq,A9 r h1,λl b=>k l _ _ b (JN r _) rfl⟩
 |_=>cases h
def dC:typeLookup (.type "list") ("keys":Si)=pure b3:=am_miss_of_fast (by decide+kernel)
section
variable{prog:Bh}{w:Sm}{A:Dh}{E:Se->Ah->Prop}{s:Ah}
def jV{a:Sf}{o:Sr}{xs:Array Se}{k:Nat}{Q:Option Se->Ah->Prop}(l:s.heap.get? a=b0 o)(hc:o.cls=.type "list")(n:o.data=.seq xs k)(hd:o.dict=b3)(r:A.handled=b3)(h:∀h' tk,(∀b j,s.heap.get? b=b0 j->h'.get? b=b0 j)->Q b3 {s with heap:=h',toks:=tk}):Sg (Sk prog w) A (getAttr? (.ref a) "keys") Q E s:=by
 obtain⟨c,dct,dat,p⟩:=o;simp only at hc n hd;subst hc n hd;obtain⟨q,g,d,tk,os⟩:=s;have m:∀f,(⟨q,g,d,f,os⟩:Ah).TypeIs (.ref a) "list":=λ_=>⟨_,l,rfl⟩;have f1:=sub_AttributeError;have f3:=F.slot_list_getattribute.lookup;have y:=F.slot_list_getattribute.bind (.ref a);have x:=am_list_getattr_none;unfold getAttr? getAttrBy? getAttrBy
 (repeat (any_goals (first|assumption|exact m _|((with_reducible show Sg _ _ (call (Value.builtin "list.__getattribute__") _ _) _ _ _);refine He F.slot_list_getattribute (m _) am_entry_list_getattribute (F.args_list_getattribute_2 _ _) (meets_getattribute_miss_list a xs k p "keys" _ dC (by decide) (by size_fits)) ⟨l,r,λh' f e i=>?_⟩)|wp_step)))
 obtain⟨u,t,v⟩:=i.there;show(Sg _ _ (Nt _ _ _ _ _ _ _) _ _ _);unfold Nt
 (repeat (any_goals (first|assumption|wp_step)))
 exact h _ _ i.keeps
end
def IU:entryFor table "dict.update.loop"=b0 Fo.«dict.update.loop» :=entryFor_of_tree (by kernel_rfl)
def RM:plainId "dict.update.loop"=b5:=by decide+kernel
def PrK(prog:Bh)(w:Sm)(h:Sq):List Se->List (aS×Se)->Prop
 |[],[]=>True
 |v::vs,p::ps=>(∃a key,v=.ref a/\IsTup h a #[key,p.2]/\(Z9 prog w).is p.1 key=b5)/\PrK prog w h vs ps
 |_,_=>False
section
variable{prog:Bh}{w:Sm}{A:Dh}{E:Se->Ah->Prop}{s:Ah}
theorem PrK.keep{h h':Sq}{C:Sf->Prop}(k:∀b o,C b->h.get? b=b0 o->h'.get? b=b0 o):∀{vs:List Se}{ps:List (aS×Se)},(∀a,Bq a∈vs->C a)->PrK prog w h vs ps->PrK prog w h' vs ps
 |[],[],_,_=>trivial
 |_::_,_::_,c,⟨⟨a,key,e,⟨o,f,r⟩,q⟩,d⟩=>⟨⟨a,key,e,⟨o,k a o (c a (by rw[e];exact Aw)) f,r⟩,q⟩,PrK.keep k (λa g=>c a (Ap _ g)) d⟩
 |[],_::_,_,r=>r.elim
 |_::_,[],_,r=>r.elim
def C7{a:Sf}{k v:Se}{Q:List Se->Ah->Prop}(h:IsTup s.heap a #[k,v])(q:Q [k,v] s):Sg (Sk prog w) A (Ll (.ref a)) Q E s:=by obtain⟨o,b,hc,n,hd⟩:=h;unfold Ll;refine(Ac (Ka (T:= "tuple") ⟨o,b,hc⟩ ?_));rw[if_pos (by decide)];exact(Ac (Fd b hd (As q)))
theorem Vh{R:Result->Ah->Prop}{I D:Sf}{fp wr:List Sf}{items:Array Se}{St:Nat->Sq->Prop}(W:Walks prog w A.in1 I fp wr items.size (λi v=>items[i]?=b0 v) St)(c:D∉fp):∀(vs:List Se) (ps:List (aS×Se)) (j:Nat) (i:Int) (s:Ah) (kvs:List (aS×Se)),items.toList.drop j=vs->j+vs.length=items.size->St j s.heap->s.heap.DictOf (Z9 prog w) D kvs->kvs.length+vs.length<=sizeLine->PrK prog w s.heap vs ps->(∀a,Bq a∈vs->a∉wr/\a≠D)->(∀g tk,g.DictOf (Z9 prog w) D (ps.foldl (λl p=>Rr l p.1 p.2) kvs)->(∀b o,b∉wr->b≠D->s.heap.get? b=b0 o->g.get? b=b0 o)->R (.ok (.ret .none)) {s with heap:=g,toks:=tk})->Mv (Sk prog w) A (.builtin "dict.update.loop" ⟨[.ref D,.ref I,rawInt i,.none],[]⟩) R s
 | [],ps,j,i,s,kvs,e,E,f,hd,hz,m,u,H => by
  have d:D∉wr:=λz=>c (W.sub _ z);cases ps with
  |cons p ps=>exact m.elim
  |nil=>
   refine codeAny_builtin IU (by rw[Mk RM _];show(Sg _ A.in1 (pyNext (.ref I)>>=_) _ _ s);refine(Ac (W.done s _ _ (by rw[show items.size=j by simpa using E.symm];exact f) λg tk kept=>?_));show(Sg _ A.in1 (Builtin.Dict.addKeywords D []>>=_) _ _ _);refine(Ac (As (As ?_)));obtain⟨o,es,J,B,r⟩:=hd;exact H g tk ⟨o,es,J,kept _ _ d B,r⟩ λb o k _ e=>kept b o k e)
 | v :: vs,ps,j,i,s,kvs,e,E,f,hd,hz,m,u,H => by
  have d:D∉wr:=λz=>c (W.sub _ z);cases ps with
  |nil=>exact m.elim
  |cons p ps=>
   obtain⟨⟨a,key,rfl,O,hk⟩,m⟩:=m;obtain⟨N,X⟩:=u a Aw;simp only[Bg]at E hz;have U:items[j]?=b0 (.ref a):=by
    have:=congrArg (λl=>l[0]?) e
    simpa using this
   have V:items.toList.drop (j+1)=vs:=by
    have:=congrArg List.tail e
    simpa using this
   refine codeAny_builtin IU (by
    rw[Mk RM _];show(Sg _ A.in1 (pyNext (.ref I)>>=_) _ _ s);refine(Ac (W.item j s _ _ (by lia) f λv g tk pv P kept=>?_));obtain rfl:v=.ref a:=by rw[U]at pv;cases pv;rfl
    obtain⟨o,B,r⟩:=O;obtain⟨M,es,J,y,L⟩:=hd;refine(Ac (Bv (Ac (wpAny_tryCatch (C7 (s:={s with heap:=g,toks:=tk}) ⟨o,kept _ _ N B,r⟩ ?_)))));refine(Bv (wpAny_dictSet_pairs (s:={s with heap:=g,toks:=tk}) (kvs:=kvs) hk ⟨M,es,J,kept _ _ d y,L⟩ (λS G n=>?_) (by lia)));have K:∀b o,b∉wr->b≠D->s.heap.get? b=b0 o->S.get? b=b0 o:=λb o k q e=>(n.2 b q).trans (kept b o k e);refine(As ⟨plainId_quiet RM _,Vh W c vs ps (j+1) (i+1) _ (Rr kvs p.1 p.2) V (by lia) (W.frame _ _ _ P λb t o e=>(n.2 b (λz=>c (by rw[<-z];exact t))).trans e) G ?_ (PrK.keep (C:=λb=>b∉wr/\b≠D) (λb o t e=>K b o t.1 t.2 e) (λa h=>u a (Ap _ h)) m) (λa h=>u a (Ap _ h)) ?_⟩)
    ·have:=stored_length_le kvs p.1 p.2
     lia
    ·exact λQ x F T=>H Q x F λb o k q e=>T b o k q (K b o k q e))
end
section
variable{prog:Bh}{w:Sm}{A:Dh}{E:Se->Ah->Prop}{s:Ah}
def CM{l:Sf}{vs:List Se}{ps:List (aS×Se)}{Q:Se->Ah->Prop}(K:A.handled=b3)(O:PlainL s.heap l vs.toArray)(hz:vs.length<=sizeLine)(u:PrK prog w s.heap vs ps)(h:∀g tk,g.DictOf (Z9 prog w) s.heap.objs.size (ps.foldl (λl p=>Rr l p.1 p.2) [])->(∀b o,s.heap.get? b=b0 o->g.get? b=b0 o)->Q (.ref s.heap.objs.size) {s with heap:=g,toks:=tk}):Sg (Sk prog w) A (call (.type "dict") [.ref l]) Q E s:=by
 refine(callType_codes (Q₁:=λobj d=>obj=.ref s.heap.objs.size/\d={s with heap:=s.heap.push {cls:=.type "dict",data:=.dict #[]}}) F.kt_called_dict (F.kt_typeCall_dict_1 _) F.entry_dict_init (kt_code_dict_new _ ⟨rfl,rfl⟩) ?_);rintro obj d ⟨rfl,rfl⟩;have I:(s.heap.push {cls:=.type "dict",data:=.dict #[]}).DictOf (Z9 prog w) s.heap.objs.size []:=Qc s.heap;obtain⟨o,n,J,hc,hd,M⟩:=O;have r:(s.heap.push {cls:=.type "dict",data:=.dict #[]}).get? l=b0 o:=Ad _ J;refine⟨I.typeIs,F.args_dict_init_2 _ _,?_⟩;unfold Fo.«dict.__init__»;refine(Ac ?_);unfold Builtin.Dict.selfAndRest;refine(Ac (wpAny_notOrdered_dict I.typeIs ?_));show(Sg _ _ (pure (s.heap.objs.size,[Bq l])) _ _ _);refine(As ?_);show(Sg _ _ (Kz "dict.__init__" s.heap.objs.size (.ref l) [] .none) _ _ _);unfold Kz;refine(Ac (Ka (T:= "list") ⟨o,r,hc⟩ ?_));rw[if_pos (by decide)];refine(Ac (jV r hc M hd (by simp[K]) λf B y=>?_));simp only[Option.isNone_none,if_true];refine(Ac (Hy ?_));have R:f.get? l=b0 o:=y _ _ r;have od:f.get? s.heap.objs.size=b0 {cls:=.type "dict",data:=.dict #[]}:=y _ _ (Ax _ rfl);have j:s.heap.objs.size<f.objs.size:=Av od;have k:l<s.heap.objs.size:=Av J;have x:f.IsList l vs.toArray:=⟨o,R,hc,n,M⟩;have L:∀b c,s.heap.get? b=b0 c->f.get? b=b0 c:=λb c q=>y b c (Ad _ q);have i:∀b c,s.heap.get? b=b0 c->b∉[f.objs.size]/\b≠s.heap.objs.size:=λb c q=>by
  have:=Av q
  exact⟨λz=>by rw[An.mp z]at this;exact absurd (Oz this j) (Cp _),λz=>by rw[z]at this;exact Cp _ this⟩
 have G:∀{vs:List Se}{ps:List (aS×Se)},PrK prog w s.heap vs ps->∀a,Bq a∈vs->∃c,s.heap.get? a=b0 c:=by
  intro vs;induction vs with
  |nil=>intro ps _ a t;cases t
  |cons v vs S=>
   intro ps u a t;cases ps with
   |nil=>exact u.elim
   |cons p ps=>
    rcases Aj.mp t with e|t
    ·obtain⟨⟨b,key,V,⟨c,m,_⟩,_⟩,_⟩:=u
     rw[V]at e;cases e;exact⟨c,m⟩
    ·exact S u.2 a t
 refine(Ac (Gp (s:={s with heap:=f,toks:=B}) x ?_));have W:=Walks.list (prog:=prog) (w:=w) (A:=A.in1.in1) (by simp[K]) f.objs.size l (Bn (Oz k j)) vs.toArray;refine(As ⟨plainId_quiet RM _,Vh (A:=A.in1) W (λz=>?_) vs ps 0 0 _ [] (by simp) (by simp) ⟨⟨_,Ax _ rfl,rfl,rfl⟩,x.push _⟩ ?_ (by simpa using hz) (PrK.keep (C:=λ_=>True) (λb c _ q=>Ad _ (L b c q)) (λ_ _=>trivial) u) (λa t=>?_) λg tk H kept=>⟨rfl,h g tk H λb c q=>?_⟩⟩)
 ·rcases Aj.mp z with z|z
  ·exact absurd j (by rw[<-z];exact Cp _)
  ·rw[<- An.mp z]at k
   exact Cp _ k
 ·obtain⟨P,es,U,D,N⟩:=I
  exact⟨P,es,U,Ad _ (y _ _ D),N⟩
 ·obtain⟨c,m⟩:=G u a t
  exact i a c m
 ·exact kept b c (i b c q).1 (i b c q).2 (Ad _ (L b c q))
end
variable{X:Cx}{K:Ao}{H:Hp}{σ:St}{s:Ah}{aa:List (Sf×Sr)}{ml:List Nat}{pa ta ia:Bool}{fa:VF}{a:Sj}{p' pos:Pos}
def kprD:cM->Option (aS×cM)
 |.tup [k,v]=>(WC k).map λa=>(a,v)
 |_=>b3
def OS:List cM->Option (List (aS×cM))
 |[]=>b0 []
 |d::ds=>(kprD d).bind λp=>(OS ds).map λps=>p::ps
def GK(K:Ao)(H:Hp):List V->List (aS×V)->Prop
 |[],[]=>True
 |v::vs,p::ps=>(∃a,v=.ref a/\UV K H a [kV p.1,p.2])/\GK K H vs ps
 |_,_=>False
def l6{d:cM}{p:aS×cM}(h:kprD d=b0 p):∃k,d=.tup [k,p.2]/\WC k=b0 p.1:=by
 unfold kprD at h;split at h
 ·rename_i k v
  cases e:WC k with
  |none=>rw[e]at h;cases h
  |some a=>rw[e]at h;cases h;exact⟨k,rfl,e⟩
 ·cases h
theorem EU{N:Sf->Prop}:∀{xs:List V}{ds:List cM}{kds:List (aS×cM)},bT K N H xs ds->OS ds=b0 kds->∃kvs:List (aS×V),GK K H xs kvs/\kvs.map Cg=kds.map Cg/\bT K N H (kvs.map Dd) (kds.map Dd)
 |_,_,_,.nil,h=>by cases h;exact⟨[],trivial,rfl,.nil⟩
 | _,_,kds,@bT.cons _ _ _ v vs d ds h t,e => by
  have e:(kprD d).bind (λp=>(OS ds).map λps=>p::ps)=b0 kds:=e;obtain⟨p,h1,e⟩:=Aa.mp e;have e:(OS ds).map (λps=>p::ps)=b0 kds:=e;obtain⟨qs,h2,e⟩:=Am.mp e;cases e;obtain⟨kvs,g,f,c⟩:=EU t h2;obtain⟨k,rfl,hk⟩:=l6 h1;cases h.onT with
  |tup sq r=>
   cases r with
   |cons b r=>
    cases r with
    |cons a r=>
     cases r;have i:=b.key hk;subst i;exact⟨(p.1,_)::kvs,⟨⟨_,rfl,sq⟩,g⟩,by simp[f],.cons a c⟩
theorem GK.prK(I:bP X aa σ H s):∀{xs:List V}{us:List Se}{kvs:List (aS×V)},GK X.K H xs kvs->a7 xs us->∃ps:List (aS×Se),KV kvs ps/\PrK X.prog X.w s.heap us ps
 |[],_,[],_,.nil=>⟨[],.nil,trivial⟩
 | _ :: _,_,p :: _,⟨⟨b,e,q⟩,r⟩,.cons h t => by
  subst e;cases h;obtain⟨ps,g,f⟩:=GK.prK I r t;obtain⟨its,a,i,_⟩:=I.tuple q;cases a with
  |cons d a=>
   cases a with
   |cons c a=>
    cases a;exact⟨(p.1,_)::ps,.cons ⟨rfl,c⟩ g,⟨b,_,rfl,i,K6 d⟩,f⟩
 |[],_,_::_,h,_=>h.elim
 |_::_,_,[],h,_=>h.elim
theorem GK.len:∀{xs:List V}{ps:List (aS×V)},GK K H xs ps->xs.length=ps.length
 |[],[],_=>rfl
 |_::_,_::_,r=>by simp[GK.len r.2]
 |[],_::_,r=>r.elim
 |_::_,[],r=>r.elim
def Uq(K:Ao):RC:=λxs H Q=>∃(p:Sf) (ys:List V) (kvs:List (aS×V)),xs=[.ref p]/\W7 K H p ys/\GK K H ys kvs/\(kvs.map Cg).Nodup/\∀l:Sf,H l=b3->Q (.ref l) (aG H l (.dK kvs))
def jN(hc:X.calm=b5)(h:X.K=K:=by rfl):Z2 X (.type "dict") (Uq K):=by subst h;intro aa s σ H xs us Q I r h;obtain⟨p,ys,kvs,rfl,l,d,k,q⟩:=h;obtain⟨u,rfl,e⟩:=UR r;cases e;obtain⟨its,c,j,hz⟩:=I.list l;have t:=c.length;have m:=d.len;obtain⟨ps,i,f⟩:=d.prK I c;refine CM (I.ok.hd hc) j (by lia) f λg tk hd kept=>?_;have n:U0 [] kvs=kvs:=NY (acc:=[]) (by simpa using k);have b:=KV.merge i (kvs:=[]) (vs:=[]) .nil;rw[n]at b;exact⟨.ref s.heap.objs.size,_,I.laid (a:=s.heap.objs.size) (o:=.dK kvs) (t':=tk) kept (Au _) (CN (by lia) (beq_eq_false_iff_ne.mpr (Dj (Bn I.big))) b hd),rfl,q _ (I.hok.fresh (Au _))⟩
def AY:cM->Option cM
 |.lst ds=>(OS ds).bind λkds=>if(kds.map Cg).Nodup then b0 (.dct (kds.map Cg) (kds.map Dd))else b3
 |_=>b3
def CalD(K:Ao)(r:RC)(o:cM->Option cM):Prop:=∀(H:Hp) (N M:Sf->Prop) (x:V) (d c:cM) (Q:VK),aU K N H M x d->o d=b0 c->
 (∀p (kvs:List (aS×V)) ds,H p=b3->bT K N H (kvs.map Dd) ds->c=.dct (kvs.map Cg) ds->Q (.ref p) (aG H p (.dK kvs)))->r [x] H Q
def eZ:CalD K (Uq K) AY:=by
 intro H N M x d c Q j h k;cases d with
 |lst ds=>
  have h:((OS ds).bind λkds=>if(kds.map Cg).Nodup then b0 (cM.dct (kds.map Cg) (kds.map Dd))else b3)=b0 c:=h;obtain⟨kds,h1,h⟩:=Aa.mp h;have h:(if(kds.map Cg).Nodup then b0 (cM.dct (kds.map Cg) (kds.map Dd))else b3)=b0 c:=h;split at h
  ·rename_i i
   cases h;obtain⟨a,xs,rfl,sq,r⟩:=j.lstE;obtain⟨kvs,g,e,f⟩:=EU r h1;exact⟨a,xs,kvs,rfl,sq,g,by rw[e];exact i,λl b=>k l kvs _ b f (by rw[e])⟩
  ·cases h
 |_=>cases h
def mkDK{B:Bs}{O:Nat->Option Sf}{H1:Hp}{δ':Ev}{p:Sf}{pu:Bool}{kvs:List (aS×V)}{ds:List cM}(S:Z0 K ml B O H1 σ δ')(f:Fr (OA O) H H1)(s:pu=b5->aD H H1)(a:H1 p=b3)(r:bT K (Nn B O) H1 (kvs.map Dd) ds):ResN K ml B O H σ pu (aG H1 p (.dK kvs)) δ' p (.dct (kvs.map Cg) ds):=
 ⟨S.laid a,f.trans (cD a).fr,λz=>(s z).trans (cD a),.dct bU ((r.away a _ _ WD).same (cD a)),S.new a,S.fresh a⟩
def jh(r:X.K=K)(hc:X.calm=b5)(n:Gl X "dict")(m:X.mg "dict"=b3)(g:Bj "dict"=b0 (.type "dict"))(o:PE X a (TV K ml pa ta b5 fa))(l:("dict":Si)≠ "__name__":=by decide)(e:(("dict":Si)==("__debug__":Si))=ba:=by decide)(b:SE X a []:=by rfl):PE X (.Call (.Name "dict" p') [a] [] pos) (TN K ml pa (f1 AY fa)):=
 (V1 (jN hc r) n m g (bL o ZU b) l e b).imp λσ H Q h=>by obtain⟨B,O,δ,d,δ',S,q,k⟩:=h;obtain⟨x,h1,h2⟩:=KU q;refine⟨B,O,δ,x,δ',S,h1,λf H1 c=>eZ H1 _ _ f x d Q c.rep h2 λp kvs ds j i b=>?_⟩;subst b;exact k p _ (mkDK c.sta c.frm c.pur j i)
noncomputable def MV:List (Option Nat)->List cM->Nat->Option cM
 |none::_,d::_,0=>b0 d
 |none::sh,_::ds,j+1=>MV sh ds j
 |some k::sh,ds,j+1=>MV sh (ds.drop k) j
 |_,_,_=>b3
section
variable{X:Cx}{K:Ao}{ml:List Nat}{a b:Sj}{es:List Sj}{H:Hp}{ps:Bool}{δ:Ev}{pos af:Pos}{i j jj:Nat}
theorem PX.getV{sub:Sf->Option (List V)}{N:Sf->Prop}:∀{xs vs:List V}{sh:List (Option Nat)}{ds:List cM}{d:cM}{j:Nat},PX sub xs sh vs->bT K N H vs ds->MV sh ds j=b0 d->∃v,xs[j]?=b0 v/\aU K N H N v d
 |_,_,_,_,_,_,.nil,_,h=>by simp[MV]at h
 |_,_,_,_,_,0,.val _ _,.cons r _,h=>by simp only[MV,Ki]at h;subst h;exact⟨_,rfl,r⟩
 |_,_,_,_,_,j+1,.val _ t,.cons _ r,h=>by obtain⟨v,b,a⟩:=PX.getV (j:=j) t r (by simpa[MV]using h);exact⟨v,by simpa using b,a⟩
 |_,_,_,_,_,0,.lst _ _ _,_,h=>by simp[MV]at h
 |_,_,_,ds,_,j+1,.lst (zs:=zs) _ _ t,r,h=>by
  have:=r.drop zs.length
  rw[Io]at this;obtain⟨v,b,a⟩:=PX.getV (j:=j) t this (by simpa[MV]using h);exact⟨v,by simpa using b,a⟩
def M3{α:Type}{xs:List α}{j:Nat}{v:α}(h:xs[j]?=b0 v):VC xs (j:Int)=b0 v:=by have hl:=(Af.mp h).1;unfold VC K4;rw[if_pos (by lia),if_pos (by lia)];simpa using h
def fNv(i j:Nat):VF:=λδ=>match δ[i]? with
 |some (.ow (.nst sh ds))=>(MV sh ds j).map λd=>(d,δ)
 |_=>b3
def Th(l:PE X a (WF i))(h:PE X b (tC (.int (j:Int))))(m:X.K=K:=by rfl)(g:V5 b:=by exact λ_ _=>rfl):PE X (.Subscript a b pos) (TV K ml b5 b5 b5 (fNv i j)):=by
 refine(LI (kIxL m) l h g).imp λσ H Q c=>?_;obtain⟨B,O,δ,d,δ',S,q,k⟩:=c;unfold fNv at q;split at q
 ·rename_i sh ds hd
  obtain⟨d',h1,q⟩:=Am.mp q;cases q;obtain⟨x,p,o,w⟩:=S.ow i _ hd;cases w with
  |nst q0 r=>
   obtain⟨xs,sub,e,_,sp⟩:=q0;obtain⟨v,n,f⟩:=sp.getV r h1;exact⟨.ref x,o,x,xs,j,v,rfl,rfl,.inl (.inl (.inr ⟨xs,sub,xs,rfl,.inr ⟨e,rfl⟩⟩)),M3 n,k v H (Res.refl S f)⟩
 ·cases q
def fNl(i j:Nat):VF:=λδ=>(part δ i j).map λd=>(d,δ)
def Xv(l:PE X a (WF i))(h:PE X b (tC (.int (j:Int))))(m:X.K=K:=by rfl)(g:V5 b:=by exact λ_ _=>rfl):PE X (.Subscript a b pos) (TV K ml b5 ba b5 (fNl i j)):=by
 refine(LI (kIxL m) l h g).imp λσ H Q c=>?_;obtain⟨B,O,δ,d,δ',S,q,k⟩:=c;unfold fNl at q;obtain⟨d',h1,q⟩:=Am.mp q;cases q;obtain⟨sh,ds,es,o,n,rfl⟩:=UM h1;obtain⟨x,u,t,w⟩:=S.ow i _ o;cases w with
 |nst q0 r=>
  obtain⟨xs,sub,e,ow,sp⟩:=q0;obtain⟨p,zs,s,f,rz⟩:=sp.getL r n;exact⟨.ref x,t,x,xs,j,.ref p,rfl,rfl,.inl (.inl (.inr ⟨xs,sub,xs,rfl,.inr ⟨e,rfl⟩⟩)),M3 s,k _ H (Res.refl S (.fzm (xs:=zs) (.inr ⟨x,xs,sub,ow p zs f,e,λz=>z,f⟩) rz))⟩
def aP(i j:Nat)(fs:TD):TD:=λδ=>(part δ i j).bind λ_=>(fs δ).map λq=>(.p i j::q.1,q.2)
def Ud{fs:TD}{as:List AV}{δ':Ev}(q:aP i j fs δ=b0 (as,δ')):∃d a,part δ i j=b0 d/\fs δ=b0 (a,δ')/\as=.p i j::a:=by unfold aP at q;obtain⟨d,h1,q⟩:=Aa.mp q;obtain⟨p2,h2,q⟩:=Am.mp q;cases q;exact⟨d,_,h1,h2,rfl⟩
def RL{B:Bs}{O:Nat->Option Sf}{σ:St}{d:cM}(S:Z0 K ml B O H σ δ)(h:part δ i j=b0 d):∃x xs sub v,σ[i]?=b0 (b0 (.ref x))/\H x=b0 (.nst xs sub)/\xs[j]?=b0 v:=by
 obtain⟨sh,ds,es,b,a,rfl⟩:=UM h;obtain⟨x,k,f,w⟩:=S.ow i _ b;cases w with
 |nst q0 r=>
  obtain⟨xs,sub,e,ow,sp⟩:=q0;obtain⟨p,zs,c,g,rz⟩:=sp.getL r a;exact⟨x,xs,sub,_,f,e,c⟩
def mH{fs:TD}(o:PE X a (WF i))(n:PE X b (tC (.int (j:Int))))(m:PA X es (TAG K ml b5 fs))(r:X.K=K:=by rfl)(h:V5 b:=by exact λ_ _=>rfl)(l:Bb (.Subscript a b pos::es) X.env=(ba,eval (.Subscript a b pos) X.env)::Bb es X.env:=by rfl):PA X (.Subscript a b pos::es) (TAG K ml b5 (aP i j fs)):=by refine(bL (LI (kIxL r) o n h) m l).imp λσ H Q c=>?_;obtain⟨B,O,δ,as,δ2,S,q,k⟩:=c;obtain⟨d,s,h1,h2,rfl⟩:=Ud q;obtain⟨x,xs,sub,v,g,e,f⟩:=RL S h1;exact⟨.ref x,g,x,xs,j,v,rfl,rfl,.inl (.inl (.inr ⟨xs,sub,xs,rfl,.inr ⟨e,rfl⟩⟩)),M3 f,B,O,δ,_,_,S,h2,λvs H2 R2=>k _ H2 ⟨R2.sta,R2.frm,R2.pur,.p g (R2.pur rfl _ _ e) f R2.rep⟩⟩
def kT{W:Hp->Sf->Hp->Prop}{fs:TD}(t:PE X a (WF i))(s:PE X b (tC (.int (j:Int))))(o:PA X es (DY K ml b5 W fs))(w:X.K=K:=by rfl)(l:V5 b:=by exact λ_ _=>rfl)(n:Bb (.Subscript a b pos::es) X.env=(ba,eval (.Subscript a b pos) X.env)::Bb es X.env:=by rfl):PA X (.Subscript a b pos::es) (DY K ml b5 W (aP i j fs)):=by refine(bL (LI (kIxL w) t s l) o n).imp λσ H Q f=>?_;obtain⟨B,O,δ,as,δ2,S,q,k⟩:=f;obtain⟨d,y,h1,h2,rfl⟩:=Ud q;obtain⟨x,xs,sub,v,h,e,g⟩:=RL S h1;exact⟨.ref x,h,x,xs,j,v,rfl,rfl,.inl (.inl (.inr ⟨xs,sub,xs,rfl,.inr ⟨e,rfl⟩⟩)),M3 g,B,O,δ,_,_,S,h2,λvs H2 R2 c u m p r=>k (v::vs) H2 ⟨R2.sta,R2.frm,R2.pur,.p h (R2.pur rfl _ _ e) g R2.rep⟩ (v::c) u (by rw[m];rfl) p r⟩
end
def PJ(sub:Sf->Option (List V))(p:Sf)(ys:List V):Sf->Option (List V):=λq=>if q=p then b0 ys else sub q
section
variable{X:Cx}{aa:List (Sf×Sr)}{σ:St}{H:Hp}{s:Ah}{x p:Sf}{xs ys zs:List V}{sub:Sf->Option (List V)}{its its':List Se}{n n':Nat}{f:Sr->Sr}
def bP.nst(I:bP X aa σ H s)(h:H x=b0 (.nst xs sub)):(xs.length<=sizeLine/\∃(its:List Se) (n:Nat),a7 xs its/\s.heap.get? x=b0 {cls:=.type "list",data:=.seq its.toArray n})∧ ∀p zs,sub p=b0 zs->p≠x/\H p=b0 (.own x)/\zs.length<=sizeLine/\∃(its:List Se) (n:Nat),a7 zs its/\s.heap.get? p=b0 {cls:=.type "list",data:=.seq its.toArray n}:=
 (show ZJ X.prog X.w H s.heap x (.nst xs sub) from I.hok x _ h)
def bP.nstTop(I:bP X aa σ H s)(h:H x=b0 (.nst xs sub))(j:s.heap.get? x=b0 {cls:=.type "list",data:=.seq its.toArray n})(c:f {cls:=.type "list",data:=.seq its.toArray n}={cls:=.type "list",data:=.seq its'.toArray n'})(r:a7 ys its')(hz:ys.length<=sizeLine)(t:Nat):bP X aa σ (aG H x (.nst ys sub)) {s with heap:=s.heap.update x f,toks:=t}:=by
 have e:(s.heap.update x f).get? x=b0 {cls:=.type "list",data:=.seq its'.toArray n'}:=by rw[Gh f j (by rw[c]<;>rfl),c]
 obtain⟨_,k⟩:=I.nst h;refine I.write (x:=x) (e:=x) (by rw[h];trivial) (.inl rfl) (λb u l q=>(Dv _ _ (Dj l)).trans q) ⟨_,e⟩ ⟨⟨hz,its',n',r,e⟩,λp zs d=>?_⟩;obtain⟨a,w,o,i,m,v,g⟩:=k p zs d;exact⟨a,by rw[bC a];exact w,o,i,m,v,(Dv _ _ (Dj a)).trans g⟩
def bP.nstSub(I:bP X aa σ H s)(h:H x=b0 (.nst xs sub))(B:sub p=b0 zs)(C:s.heap.get? p=b0 {cls:=.type "list",data:=.seq its.toArray n})(l:f {cls:=.type "list",data:=.seq its.toArray n}={cls:=.type "list",data:=.seq its'.toArray n'})(r:a7 ys its')(hz:ys.length<=sizeLine)(t:Nat):bP X aa σ (aG H x (.nst xs (PJ sub p ys))) {s with heap:=s.heap.update p f,toks:=t}:=by
 have e:(s.heap.update p f).get? p=b0 {cls:=.type "list",data:=.seq its'.toArray n'}:=by rw[Gh f C (by rw[l]<;>rfl),l]
 obtain⟨⟨z,A,y,w,E⟩,k⟩:=I.nst h;obtain⟨d,j,_⟩:=k p zs B;refine I.write (x:=x) (e:=p) (by rw[h];trivial) (.inr j) (λb u D q=>(Dv _ _ (Dj D)).trans q) ⟨_,e⟩ ⟨⟨z,A,y,w,(Dv _ _ d).trans E⟩,λq ws c=>?_⟩;unfold PJ at c;split at c
 ·rename_i a
  subst a;cases c;exact⟨d,by rw[bC d];exact j,hz,its',n',r,e⟩
 ·rename_i a
  obtain⟨o,G,F,i,m,v,g⟩:=k q ws c;exact⟨o,by rw[bC o];exact G,F,i,m,v,(Dv _ _ (Dj a)).trans g⟩
def kM:V->V->V->Hp->(Hp->Prop)->Prop:=λo i v H Q=>∃x xs sub k j,o=.ref x/\i=.int k/\H x=b0 (.nst xs sub)/\K4 xs.length k=b0 j/\Q (aG H x (.nst (xs.set j v) sub))
def BW:PSet X kM:=by
 intro aa s σ H o i v x y u Q I l m g h;obtain⟨p,xs,sub,k,j,rfl,rfl,b,w,q⟩:=h;cases l;obtain⟨t,rfl⟩:=m;obtain⟨⟨hz,its,n,r,a⟩,_⟩:=I.nst b;obtain⟨h1,h2,d,c⟩:=HF w;have hl:=r.length;have z:=QG;have f:bP X aa σ (aG H p (.nst (xs.set j v) sub)) {s with heap:=s.heap.update p (Df (·.setIfInBounds j u))}:=
  I.nstTop b a (K9 its n j u) (r.set g j) (by rw[Cf];exact hz) s.toks
 by_cases e:0<=k
 ·have hk:k.toNat=j:=by rw[Mw e c]at h1;exact Bu h1
  exact W.ki_setAt a e (by lia) (by rw[Aq,<-hl];exact c) (by rw[hk];exact⟨_,f,q⟩)
 ·have hk:(k+(its.toArray.size:Int)).toNat=j:=by rw[Lv (by lia) d]at h1;rw[Aq,<- hl];exact Bu h1
  exact W.ki_setBack a (by lia) (by rw[Aq,<-hl];exact d) (by lia) (by rw[hk];exact⟨_,f,q⟩)
def gI:V->List V->Hp->VK->Prop:=λo vs H Q=>∃p x xs sub zs y,o=.ref p/\vs=[y]/\H x=b0 (.nst xs sub)/\sub p=b0 zs/\zs.length<sizeLine/\Q .non (aG H x (.nst xs (PJ sub p (zs++[y]))))
def cO:MtM X "list.append" gI:=by intro aa s σ H x vs v us Q I g i h;obtain⟨p,x,xs,sub,zs,y,rfl,rfl,d,e,hz,k⟩:=h;cases g;obtain⟨u,rfl,j⟩:=i.one;obtain⟨_,l⟩:=I.nst d;obtain⟨_,_,_,c,m1,b,a⟩:=l p zs e;have m:=b.length;refine He Nk ⟨_,a,rfl⟩ Mx (Mi _ _) (Ob p c.toArray m1 u (by rw[Aq];lia)) ⟨a,?_⟩;exact⟨.non,_,I.nstSub d e a (f:=Df λz=>z.push u) (its':=c++[u]) (n':=m1+1) (by simp[Df]) (b.append (.cons j .nil)) (by rw[Ay,Bp];lia) s.toks,rfl,k⟩
end
noncomputable def MX:List (Option Nat)->List cM->Nat->cM->List cM
 |none::_,_::ds,0,d=>d::ds
 |none::sh,e::ds,j+1,d=>e::MX sh ds j d
 |some k::sh,ds,j+1,d=>ds.take k++MX sh (ds.drop k) j d
 |_,ds,_,_=>ds
noncomputable def O9:List (Option Nat)->List cM->Nat->List cM->List cM
 |some k::_,ds,0,es=>es++ds.drop k
 |none::sh,e::ds,j+1,es=>e::O9 sh ds j es
 |some k::sh,ds,j+1,es=>ds.take k++O9 sh (ds.drop k) j es
 |_,ds,_,_=>ds
section
variable{K:Ao}{H:Hp}{N:Sf->Prop}{sub:Sf->Option (List V)}
theorem PX.setV{v:V}{d:cM}(b:∀p,v≠ .ref p)(c:aU K N H N v d):∀{xs vs:List V}{sh:List (Option Nat)}{ds:List cM}{d0:cM}{j:Nat},PX sub xs sh vs->bT K N H vs ds->MV sh ds j=b0 d0->∃a,PX sub (xs.set j v) sh a/\bT K N H a (MX sh ds j d)
 |_,_,_,_,_,_,.nil,_,h=>by simp[MV]at h
 |_,_,_,_,_,0,.val _ t,.cons _ r,h=>⟨_,.val (λp e=>absurd e (b p)) t,.cons c r⟩
 |_,_,_,_,_,j+1,.val n t,.cons l r,h=>by obtain⟨a,g,f⟩:=PX.setV b c (j:=j) t r (by simpa[MV]using h);exact⟨_,.val n g,.cons l f⟩
 |_,_,_,_,_,0,.lst _ _ _,_,h=>by simp[MV]at h
 |_,_,_,ds,_,j+1,.lst (p:=p) (zs:=zs) hs ni t,r,h=>by
  have k:=r.take zs.length;have i:=r.drop zs.length;rw[Im]at k;rw[Io]at i;obtain⟨a,g,f⟩:=PX.setV b c (j:=j) t i (by simpa[MV]using h);refine⟨zs++a,.lst hs (λz=>?_) g,k.append f⟩;rcases Kf z with z|z
  ·exact ni z
  ·exact b p z.symm
theorem PX.keep{p:Sf}{ys:List V}:∀{xs vs:List V}{sh:List (Option Nat)},PX sub xs sh vs->V.ref p∉xs->sub p≠b3->PX (PJ sub p ys) xs sh vs
 |_,_,_,.nil,_,_=>.nil
 |_,_,_,.val (v:=v) n t,h,hp=>.val (λq e=>by unfold PJ;rw[if_neg λz=>h (by rw[e,z];exact Aw)];exact n q e) (PX.keep t (λz=>h (Ap _ z)) hp)
 |_,_,_,.lst (p:=q) hs ni t,h,hp=>.lst (by unfold PJ;rw[if_neg λz=>h (by rw[z];exact Aw)];exact hs) ni (PX.keep t (λz=>h (Ap _ z)) hp)
theorem PX.setL{p:Sf}{ys:List V}{d:List cM}(f:bT K N H ys d):∀{xs vs zs:List V}{sh:List (Option Nat)}{ds:List cM}{j:Nat},PX sub xs sh vs->bT K N H vs ds->xs[j]?=b0 (.ref p)->sub p=b0 zs->∃a,PX (PJ sub p ys) xs (sh.set j (b0 ys.length)) a/\bT K N H a (O9 sh ds j d)
 |_,_,_,_,_,_,.nil,_,h,_=>by simp at h
 |_,_,_,_,_,0,.val n _,_,h,b=>by simp at h;rw[n p h]at b;cases b
 | _,_,_,_,_,j + 1,.val (v := v) n t,.cons r0 r,h,b => by
  obtain⟨a,i,g⟩:=PX.setL f (j:=j) t r (by simpa using h) b;refine⟨_,.val (λq e=>?_) i,.cons r0 g⟩;have l:q≠p:=λz=>by
   have:=n q e
   rw[z,b]at this;cases this
  unfold PJ;rw[if_neg l];exact n q e
 |_,_,_,_,ds,0,.lst (p:=q) (zs:=ws) hs' ni t,r,h,b=>by simp at h;subst h;have c:=r.drop ws.length;rw[Io]at c;refine⟨ys++_,.lst (by unfold PJ;rw[if_pos rfl]) ni (t.keep ni (by rw[hs'];simp)),f.append c⟩
 |_,_,_,_,ds,j+1,.lst (p:=q) (zs:=ws) hs' ni t,r,h,b=>by have k:=r.take ws.length;have c:=r.drop ws.length;rw[Im]at k;rw[Io]at c;have h':=h;simp only[La]at h';obtain⟨a,i,g⟩:=PX.setL f (j:=j) t c h' b;refine⟨ws++a,.lst ?_ ni i,k.append g⟩;unfold PJ;rw[if_neg λz=>ni (by rw[z];exact Cn h')];exact hs'
end
section
variable{X:Cx}{K:Ao}{ml:List Nat}{a b c e:Sj}{es:List Sj}{H:Hp}{pa pb:Bool}{pos af:Pos}{i j:Nat}
def gK{N:Sf->Prop}{x:Sf}{us c:List V}{sub g:Sf->Option (List V)}{xs:List V}{ds:List cM}(e:H x=b0 (.nst us sub))(f:N x)(h:bT K N H xs ds):bT K N (aG H x (.nst c g)) xs ds:=
 h.fr (P:=λb=>b=x) (λb u q n=>by
  by_cases d:b=x
  ·subst d
   rw[e]at q;cases q;exact absurd (n rfl) λz=>z
  ·rw[bC d]
   exact q) λa z=>z▸f
def MO{B:Bs}{O:Nat->Option Sf}{x:Sf}{us a vs:List V}{sub b:Sf->Option (List V)}{sh:List (Option Nat)}{ds:List cM}(c:H x=b0 (.nst us sub))(e:O i=b0 x)(ow:∀p zs,b p=b0 zs->H p=b0 (.own x))(sp:PX b a sh vs)(r:bT K (Nn B O) H vs ds):QV K (Nn B O) (aG H x (.nst a b)) x (.nst sh ds):=by refine .nst ⟨a,b,bU,λp zs d=>?_,sp⟩ (gK c (.inr ⟨i,e⟩) r);have h:=ow p zs d;rw[bC (OV h c λz=>nomatch z)];exact h
def AQ{n j:Nat}(h:j<n):K4 n (j:Int)=b0 j:=by unfold K4;rw[if_pos (by lia),if_pos (by lia)];simp
def BV(i j:Nat)(fv:VF):VS:=λδ=>(fv δ).bind λp=>match p.1,p.2[i]? with
 |.int k,b0 (.ow (.nst sh ds))=>(MV sh ds j).map λ_=>.nx (p.2.set i (.ow (.nst sh (MX sh ds j (.int k)))))
 |_,_=>b3
def Yo{fv:VF}(E:PE X a (WF i))(hi:PE X b (tC (.int (j:Int))))(A:PE X c (TV K ml pb b5 b5 fv))(F:∀v,assign (.Subscript a b af) X.env v=(do
   let f<-Hv [v] (eval a X.env)
   let l<-Hv [v,f] (eval b X.env)
   Px af
   Hv [v,f,l] (Mt f l v)
   release [v,f,l] []):=by intro _;rfl)
  (C:Eg [.Subscript a b af] c pos.line X.env=pure ba:=by rfl) (hw:Eh [.Subscript a b af] c X.env=pure b3:=by rfl)
  (h1:(Sh [.Subscript a b af] X.env).map (·.2)=[assign (.Subscript a b af) X.env]:=by rfl):PS X (.Assign [.Subscript a b af] c pos) (TJ K ml (BV i j fv)):=
 (QL A (DB E hi BW F) C hw h1).imp λD σ H m => by
  obtain⟨B,O,δ,o,S,q,k⟩:=m;unfold BV at q;obtain⟨⟨z,δ1⟩,h1,q⟩:=Aa.mp q;simp only at q;split at q
  ·rename_i h sh ds hd
   obtain⟨d0,h2,q⟩:=Am.mp q;cases q;refine⟨B,O,δ,_,δ1,S,h1,λg H1 n=>?_⟩;obtain⟨x,t,J,w⟩:=n.sta.ow i _ hd;cases w with
   |nst q0 r=>
    obtain⟨xs,sub,e,ow,sp⟩:=q0;have s:aU K (Nn B O) H1 (Nn B O) g (.int h):=n.rep;have G:g=.int h:=s.onI;obtain⟨u,s1,y⟩:=sp.setV (v:=g) (d:=.int h) (λp z=>by rw[G]at z;cases z) s r h2;obtain⟨L,I,_⟩:=sp.getV r h2;exact⟨.ref x,J,x,xs,sub,j,j,rfl,rfl,e,AQ (Af.mp I).1,k σ _ O (n.sta.wrote t (λz=>z) (MO e t ow s1 y))⟩
  ·cases q
def BS(i j:Nat)(fs:OF):VS:=λδ=>(part δ i j).bind λ_=>(fs δ).bind λr=>match r.1,r.2[i]? with
 |[d],b0 (.ow (.nst sh ds))=>(K3 sh ds j).bind λzs=>if zs.length<16777216 then b0 (.nx (r.2.set i (.ow (.nst (sh.set j (b0 (zs.length+1))) (O9 sh ds j (zs++[d]))))))else b3
 |_,_=>b3
def Za{fs:OF}{ak ae bz:Pos}(ho:PE X a (WF i))(hi:PE X b (tC (.int (j:Int))))(ha:PA X (e::es) (TAV K ml b5 b5 fs))(hK:X.K=K:=by rfl)(hx:V5 b:=by exact λ_ _=>rfl)(bn:Gq (.Subscript a b bz) "append" X.env (eval (.Subscript a b bz) X.env)=eval (.Subscript a b bz) X.env:=by rfl)(c8:((Ex ae (Bb (e::es) X.env)).all (λx=> !x.1)&&(Mg ae (Ic [] X.env)).all (λx=>x.1.isSome)&&decide ((e::es).length+([]:List Ie).length+(if([]:List Ie).isEmpty then 0 else 1)<30))=b5:=by rfl)(bh:(ak.endLine==ae.line)=b5:=by rfl)(hs:SE X e es:=by rfl)(ar:(Ex ae (Bb es X.env)).any (·.1)=ba:=by rfl)(A:Gv (.Call (.Attribute (.Subscript a b bz) "append" ak) (e::es) [] ae) b3 pos.line X.env=pure ba:=by rfl):PS X (.Expr (.Call (.Attribute (.Subscript a b bz) "append" ak) (e::es) [] ae) pos) (TJ K ml (BS i j fs)):=by
 subst hK;refine(HM (kBm (K:=X.K) rfl Ho Be Bf cO (LI (kIxL rfl) ho hi hx) ha bn c8 bh hs ar) A).imp λD σ H E=>?_;obtain⟨B,O,δ,o,S,q,k⟩:=E;unfold BS at q;obtain⟨d0,J,q⟩:=Aa.mp q;obtain⟨⟨es',δ1⟩,h1,q⟩:=Aa.mp q;simp only at q;split at q
 ·rename_i d sh ds hd
  obtain⟨zs,h2,q⟩:=Aa.mp q;split at q
  ·rename_i hz
   cases q;obtain⟨x,xs,sub,v,P,ex,r⟩:=RL S J;obtain⟨Z,ds0,es0,e7,e8,_⟩:=UM J;obtain⟨x',G,n,W⟩:=S.ow i _ e7;rw[P]at n;cases n;cases W with
   |nst q0 r0=>
    obtain⟨U,gm,m,u,s⟩:=q0;rw[ex]at m;cases m;obtain⟨p,ws,N,f,_⟩:=s.getL r0 e8;rw[r]at N;cases N;refine⟨.ref x,P,x,xs,j,.ref p,rfl,rfl,.inl (.inl (.inr ⟨xs,sub,xs,rfl,.inr ⟨ex,rfl⟩⟩)),M3 r,.inl ⟨rfl,ws,.inl (.inl (.inr ⟨xs,sub,ws,rfl,.inl ⟨x,u p ws f,ex,f⟩⟩))⟩,B,O,δ,[d],δ1,S,h1,λvs H1 R=>?_⟩;have c:=R.pur rfl _ _ ex;obtain⟨x2,f1,_,w⟩:=R.sta.ow i _ hd;rw[G]at f1;cases f1;have rr:=R.rep;cases rr with
    | @cons y _ _ _ hv t=>
     cases t;cases w with
     |nst q1 I=>
      obtain⟨T,gl,l,h,g⟩:=q1;rw[c]at l;cases l;obtain⟨p',V,M,L,rz⟩:=g.getL I h2;rw[r]at M;cases M;rw[f]at L;cases L;have hl:=rz.length;obtain⟨Y,s1,s2⟩:=g.setL (rz.snoc hv) I r f;rw[Ay,Bp,hl]at s1;refine⟨p,x,xs,sub,ws,y,rfl,rfl,c,f,by rw[hl,Cr];exact hz,k σ _ O (R.sta.wrote G (λz=>z) (MO c G (λq Q F=>?_) s1 s2))⟩;unfold PJ at F;split at F
      ·rename_i C
       subst C;exact h _ _ f
      ·exact h _ _ F
  ·cases q
 ·cases q
end
def lq(l b j:Sf)(u:Array Se)(n m:Nat)(k:Int)(t:Tok)(y:0<=k)(h1:k<=u.size)(hz:u.size<=sizeLine)(a:l≠b):Meets (Fo.«list.__setitem__» ⟨[.ref l,.ref j,.ref b],[]⟩) (λ_ R s=>s.heap.get? l=b0 ⟨.type "list",b3,.seq u n,#[]⟩/\s.heap.get? b=b0 ⟨.type "list",b3,.seq #[] m,#[]⟩/\s.heap.get? j=b0 ⟨.type "slice",b3,.fields #[.int k t,.none,.none],#[]⟩/\R (.ok (.ret .none)) {s with heap:=s.heap.update l (Df λx=>x.extract 0 k.toNat++x.extract u.size)}):=
 .of_wp λprog w A R s h=>by
  obtain⟨v,g,d,tk,os⟩:=s;obtain⟨hl,p,o,h⟩:=h;have f1:=Po;have f2:=Kn;have f3:=Lm;have D:=Lb;have C:=Lc;have B:=slice_no_index;unfold Fo.«list.__setitem__»;wp_walk using Bw hl,Bw p,Bw o
  have r:Ko (.ref l) (.ref b)=ba:=by simp[Ko,a]
  have z:sliceIndices (rawInt k) Value.none Value.none u.size=pure (k,(u.size:Int),1):=by
   have:=sliceIndices_raw (b0 k) b3 b3 u.size (by simp)
   have e:max 0 (min (if k<0 then k+(u.size:Int)else k) (u.size:Int))=k:=by rw[if_neg (by omega)];omega
   simpa[rawPart,Hb,e]using this
  simp only[r,Du,if_false];wp_walk using Bw hl,Bw p,Bw o
  have q:Dz (u.size+(#[]:Array Se).size)=ba:=by simp[Dz];exact hz
  have i:(max k (u.size:Int)).toNat=u.size:=by omega
  rw[q];simp only[Du,if_false,i];have f:(λxs:Array Se=>xs.extract 0 k.toNat++ #[]++xs.extract u.size)=λxs=>xs.extract 0 k.toNat++xs.extract u.size:=by funext xs;simp
  rw[f];have c:(u.extract 0 k.toNat++u.extract u.size).size<=sizeLine+1:=by rw[Oq,Nu,Nu];omega
  refine Ac (wpAny_updateSeq hl rfl (hz:=hz) (_hz':=c) ?_);refine Ac (Nb ?_);exact As ⟨_,rfl,h⟩
section
variable{prog:Bh}{w:Sm}{A:Dh}{E:Se->Ah->Prop}{s:Ah}
def FT{l b a:Sf}{u:Array Se}{n m:Nat}{k:Int}{t:Tok}{Q:Unit->Ah->Prop}(g:0<=k)(h1:k<=u.size)(hz:u.size<=sizeLine)(c:l≠b)(hl:s.heap.get? l=b0 ⟨.type "list",b3,.seq u n,#[]⟩)(f:s.heap.get? b=b0 ⟨.type "list",b3,.seq #[] m,#[]⟩)(e:s.heap.get? a=b0 ⟨.type "slice",b3,.fields #[.int k t,.none,.none],#[]⟩)(h:Q () {s with heap:=s.heap.update l (Df λx=>x.extract 0 k.toNat++x.extract u.size)}):Sg (Sk prog w) A (Mt (.ref l) (.ref a) (.ref b)) Q E s:=by
 have d:s.heap.IsList l u:=PySem.IsL.isList hl;unfold Mt;refine Bv ?_;refine Ac (Ib d.typeIs (by decide) ?_);refine Ac (Cw (name:=Bk "__setitem__") d.typeIs Ot
  (He Ot d.typeIs entry_list_setitem (args_list_setitem _ _ _) (lq l b a u n m k t g h1 hz c) ⟨hl,f,e,?_⟩))
 exact As h
end
section
variable{X:Cx}{o lo:Sj}{to tl:TE}{pos p2:Pos}
def gCut(to tl:TE):TG:=λv σ H Q=>to σ H λx H1=>tl σ H1 λy H2=>∃b p a xs sub zs k,v=.ref b/\x=.ref p/\y=.int k/\H2 b=b0 (.lst [])/\H2 a=b0 (.nst xs sub)/\sub p=b0 zs/\0<=k/\k<=zs.length∧
 Q σ (aG H2 a (.nst xs (PJ sub p (zs.take k.toNat))))
def lA(A:PE X o to)(hl:PE X lo tl):PG X (.Subscript o (.Slice (b0 lo) b3 b3 p2) pos) (gCut to tl):=by
 intro aa s σ H v u Q I r h;rw[arm_assign_Subscript];refine Ac (Bv (Y7 (A aa s σ H _ I h) λK s1 ⟨x,H1,F,l,q1⟩=>?_));refine Ac (Bv (wpAny_Slice ?_));rw[evalPart_some,Nj];refine Y7 (hl aa s1 σ H1 _ F q1) λJ a ⟨y,H2,E,c,q2⟩=>As (As ?_);obtain⟨b,p,G,xs,sub,zs,k,rfl,rfl,rfl,j,g,i,C,h1,q⟩:=q2;cases r;cases l;obtain⟨t,rfl⟩:=c;have d:bP X aa σ H2 {a with heap:=a.heap.push {cls:=.type "slice",data:=.fields #[.int k t,.none,.none]}}:=E.kept (t':=a.toks) λb L q=>Ad _ q;obtain⟨_,w⟩:=d.nst g;obtain⟨_,m,hz,its,n,f,e⟩:=w p zs i;obtain⟨_,N,M,c,B,D⟩:=d.lstM j;cases c;have O:=f.length;refine Ac (Fy (Ac (Bv (FT (t:=t) C (by rw[Aq];lia) (by rw[Aq];lia) (OV m j λz=>nomatch z) e D (Ax _ rfl) ?_))));refine wpAny_release ⟨σ,_,d.nstSub g i e (its':=its.take k.toNat) (n':=if min k.toNat its.length=its.length then n else n+1) ?_ (f.take _) ?_ _,q⟩
 ·simp[Df]
 ·rw[Ct];lia
end
section
variable{X:Cx}{K:Ao}{ml:List Nat}{a b c e:Sj}{H:Hp}{pos af p2 bz:Pos}{i j:Nat}
def JO(i j:Nat)(fv fk:VF):VS:=λδ=>(fv δ).bind λp=>match p.1 with
 |.lst []=>(part p.2 i j).bind λ_=>(fk p.2).bind λr=>match r.1,r.2[i]? with
  |.int k,b0 (.ow (.nst sh ds))=>(K3 sh ds j).bind λzs=>if 0<=k/\k<=zs.length then b0 (.nx (r.2.set i (.ow (.nst (sh.set j (b0 k.toNat)) (O9 sh ds j (zs.take k.toNat))))))else b3
  |_,_=>b3
 |_=>b3
def eX{fv fk:VF}(ho:PE X a (WF i))(hi:PE X b (tC (.int (j:Int))))(hk:PE X e (TV K ml b5 b5 b5 fk))(hv:PE X c (TN K ml b5 fv))(hK:X.K=K:=by rfl)(hx:V5 b:=by exact λ_ _=>rfl)(hs:Eg [.Subscript (.Subscript a b bz) (.Slice (b0 e) b3 b3 p2) af] c pos.line X.env=pure ba:=by rfl)(hw:Eh [.Subscript (.Subscript a b bz) (.Slice (b0 e) b3 b3 p2) af] c X.env=pure b3:=by rfl)(h1:(Sh [.Subscript (.Subscript a b bz) (.Slice (b0 e) b3 b3 p2) af] X.env).map (·.2)=[assign (.Subscript (.Subscript a b bz) (.Slice (b0 e) b3 b3 p2) af) X.env]:=by rfl):PS X (.Assign [.Subscript (.Subscript a b bz) (.Slice (b0 e) b3 b3 p2) af] c pos) (TJ K ml (JO i j fv fk)):=by
 refine(QL hv (lA (LI (kIxL hK) ho hi hx) hk) hs hw h1).imp λD σ H E=>?_;obtain⟨B,O,δ,o,S,q,k⟩:=E;unfold JO at q;obtain⟨⟨z,g⟩,h0,q⟩:=Aa.mp q;simp only at q;split at q
 case h_2=>cases q
 obtain⟨d0,J,q⟩:=Aa.mp q;obtain⟨⟨dk,δ1⟩,h1,q⟩:=Aa.mp q;simp only at q;split at q
 case h_2=>cases q
 rename_i d sh ds hd;obtain⟨zs,h2,q⟩:=Aa.mp q;split at q
 case isFalse=>cases q
 rename_i hz;cases q;refine⟨B,O,δ,.lst [],g,S,h0,λpb H1 u=>?_⟩;have hb:H1 pb=b0 (.lst []):=by
  have w:=u.own;cases w with
  |lst Y W=>cases W;exact Y
 obtain⟨x,xs,sub,v,P,ex,t⟩:=RL u.sta J;obtain⟨sh0,ds0,es0,e7,e8,_⟩:=UM J;obtain⟨x',G,r,Z⟩:=u.sta.ow i _ e7;rw[P]at r;cases r;cases Z with
 |nst q0 r0=>
  obtain⟨U,gm,n,ow0,A⟩:=q0;rw[ex]at n;cases n;obtain⟨p,ws,N,s,_⟩:=A.getL r0 e8;rw[t]at N;cases N;refine⟨.ref x,P,x,xs,j,.ref p,rfl,rfl,.inl (.inl (.inr ⟨xs,sub,xs,rfl,.inr ⟨ex,rfl⟩⟩)),M3 t,B.add pb,O,g,.int d,δ1,u.sta,h1,λy H2 R=>?_⟩;have f:=R.pur rfl _ _ ex;have ey:y=.int d:=by exact R.rep.onI
  obtain⟨x2,f1,_,w⟩:=R.sta.ow i _ hd;rw[G]at f1;cases f1;cases w with
  |nst q1 I=>
   obtain⟨T,gl,m,l,h⟩:=q1;rw[f]at m;cases m;obtain⟨p',V,M,L,rz⟩:=h.getL I h2;rw[t]at M;cases M;rw[s]at L;cases L;have hl:=rz.length;obtain⟨vs',s1,s2⟩:=h.setL (rz.take d.toNat) I t s;have hm:(ws.take d.toNat).length=d.toNat:=by rw[Ct,hl];lia
   rw[hm]at s1;refine⟨pb,p,x,xs,sub,ws,d,rfl,rfl,ey,R.pur rfl _ _ hb,f,s,hz.1,by rw[hl];exact hz.2,k σ _ O (Z0.unadd (p:=pb) (R.sta.wrote (o:=.nst xs (PJ sub p (ws.take d.toNat))) G (λz=>z) (MO f G (λq Q F=>?_) s1 s2)))⟩;unfold PJ at F;split at F
   ·rename_i C
    subst C;exact l _ _ s
   ·exact l _ _ F
end
section
variable{X:Cx}{K:Ao}{ml:List Nat}{a b c e:Sj}{H:Hp}{pos af:Pos}{i j k:Nat}{pu:Bool}
def BU(i j k:Nat)(fs:OF):VS:=λδ=>(fs δ).bind λr=>match r.1,r.2[i]? with
 |[.int n,.int d],b0 (.ow (.nst sh ds))=>(MV sh ds j).bind λ_=>if k<r.2.length then b0 (.nx ((r.2.set i (.ow (.nst sh (MX sh ds j (.int n))))).set k (.va (.int d))))else b3
 |_,_=>b3
def iF{y:Si}{fs:OF}{f pt g:Pos}{kt k2}(hc:X.calm=b5)(W:X.N.Nodup)(hk:X.N[k]?=b0 y)(s:X.env.scope.names.lookup y=b0 .local)(T:PE X a (WF i))(hi:PE X b (tC (.int (j:Int))))(M:PA X [c,e] (TAV K ml pu b5 fs))(hK:X.K=K:=by rfl)(U:k∉ml:=by decide)(V:∀v,assign (.Subscript a b af) X.env v=(do
   let h<-Hv [v] (eval a X.env)
   let l<-Hv [v,h] (eval b X.env)
   Px af
   Hv [v,h,l] (Mt h l v)
   release [v,h,l] []):=by intro _;rfl)
  (P:Eg [.Tuple [.Subscript a b af,.Name y f] kt pt] (.Tuple [c,e] k2 g) pos.line X.env=pure ba:=by rfl) (hw:Eh [.Tuple [.Subscript a b af,.Name y f] kt pt] (.Tuple [c,e] k2 g) X.env=pure b3:=by rfl)
  (h1:(Sh [.Tuple [.Subscript a b af,.Name y f] kt pt] X.env).map (·.2)=[assign (.Tuple [.Subscript a b af,.Name y f] kt pt) X.env]:=by rfl)
  (h2:(Sh [.Subscript a b af,.Name y f] X.env).map (·.2)=assign (.Subscript a b af) X.env::(Sh [.Name y f] X.env).map (·.2):=by rfl)
  (h3:(Sh [.Name y f] X.env).map (·.2)=assign (.Name y f) X.env::(Sh [] X.env).map (·.2):=by rfl)
  (Z:(Sh [.Subscript a b af,.Name y f] X.env).length=2:=by rfl) (Y:(Sh [.Subscript a b af,.Name y f] X.env).findIdx? (·.1)=b3:=by rfl):
  PS X (.Assign [.Tuple [.Subscript a b af,.Name y f] kt pt] (.Tuple [c,e] k2 g) pos) (TJ K ml (BU i j k fs)):=by
 refine(QL (C9 M) (Wa hc (UN (DB T hi BW V) (UN (O7 W hk (.inl s) (.inr s)) HK h3) h2) Z Y) P hw h1).imp λD σ H m=>?_;obtain⟨B,O,δ,o,S,q,L⟩:=m;unfold BU at q;obtain⟨⟨zs,δ1⟩,h1,q⟩:=Aa.mp q;simp only at q;split at q
 case h_2=>cases q
 rename_i n d sh ds hd;obtain⟨d0,h2,q⟩:=Aa.mp q;split at q
 case isFalse=>cases q
 rename_i hl;cases q;refine⟨B,O,δ,_,δ1,S,h1,λvs H1 R=>?_⟩;have G:=R.rep;cases G with
 | @cons E _ _ _ J t=>
  cases t with
  | @cons C _ _ _ I t=>
   cases t;have e1:E=.int n:=J.onI;have e2:C=.int d:=I.onI;subst e1 e2;refine⟨by show 2<=sizeLine;decide,λp Q=>?_⟩;have u:=R.sta.same (cD (o:=.tup [.int n,.int d]) Q);obtain⟨x,f1,f2,w⟩:=u.ow i _ hd;cases w with
   |nst q0 r=>
    obtain⟨xs,sub,ex,ow,sp⟩:=q0;obtain⟨A,s1,F⟩:=sp.setV (v:=.int n) (d:=.int n) (λp z=>by cases z) (.int n) r h2;obtain⟨v0,e3,_⟩:=sp.getV r h2;have S3:=u.wrote (o:=.nst (xs.set j (.int n)) sub) f1 (λz=>z) (MO ex f1 ow s1 F);have S4:=S3.setVa (i:=k) (v:=.int d) (d:=.int d) U (.int d);exact⟨p,_,rfl,.inl (.inl (.inl bU)),rfl,_,_,rfl,.ref x,f2,x,xs,sub,j,j,rfl,rfl,ex,AQ (Af.mp e3).1,_,_,rfl,rfl,L _ _ _ S4⟩
end
section
variable{X:Cx}{aa:List (Sf×Sr)}{σ:St}{H:Hp}{s:Ah}{a q:Sf}{xs zs:List V}
def subq(q:Sf)(zs:List V):Sf->Option (List V):=λr=>if r=q then b0 zs else b3
def JT{q r:Sf}{zs ws:List V}(h:subq q zs r=b0 ws):r=q/\ws=zs:=by
 unfold subq at h;split at h
 ·rename_i e
  cases h;exact⟨e,rfl⟩
 ·cases h
def WR(H:Hp)(a q:Sf)(xs zs:List V):Hp:=aG (aG H q (.own a)) a (.nst xs (subq q zs))
def UL{b:Sf}(h1:b≠a)(h2:b≠q):WR H a q xs zs b=H b:=by unfold WR;rw[bC h1,bC h2]
def A5:WR H a q xs zs a=b0 (.nst xs (subq q zs)):=bU
def HJ(n:q≠a):WR H a q xs zs q=b0 (.own a):=by unfold WR;rw[bC n,bU]
def QU.WR{P:Bh}{w:Sm}{h:Sq}(ok:QU P w H h)(e:H a=b0 (.lst xs))(f:H q=b0 (.lst zs))(n:q≠a):QU P w (L2.WR H a q xs zs) h:=by
 intro b u d;by_cases h1:b=a
 ·subst h1
  rw[A5]at d;cases d;refine⟨ok b _ e,λr ws g=>?_⟩;obtain⟨rfl,rfl⟩:=JT g;obtain⟨z,k⟩:=(show ZJ P w H h r (.lst ws) from ok r _ f);exact⟨n,HJ n,z,k⟩
 ·by_cases h2:b=q
  ·subst h2
   rw[HJ n]at d;cases d;obtain⟨_,_,_,_,i⟩:=ok b _ f;exact⟨_,i⟩
  ·rw[UL h1 h2]at d
   refine(ok b u d).stay (λ_ _ _ z=>z) (λc hc=>?_) λc zs hc=>?_
   ·rw [UL (OV hc e λz => nomatch z) (OV hc f λz => nomatch z)]
    exact hc
   ·rw [UL (OV hc e λz => nomatch z) (OV hc f λz => nomatch z)]
    exact hc
def bP.WR(I:bP X aa σ H s)(e:H a=b0 (.lst xs))(d:H q=b0 (.lst zs))(n:q≠a):bP X aa σ (L2.WR H a q xs zs) s:=by
 have kp:∀b u,H b=b0 u->(∀ws,u≠ .lst ws)->L2.WR H a q xs zs b=b0 u:=λb u h h2=>by rw[UL (OV h e (h2 _)) (OV h d (h2 _))];exact h
 have fr:∀b o,s.heap.get? b=b0 o->H b=b3->L2.WR H a q xs zs b=b3:=λb o h c=>by rw[UL (YJ e c).symm (YJ d c).symm];exact c
 have u:Un X.fs [] H (L2.WR H a q xs zs) s.heap s.heap:=⟨λb o h _ _ _=>h,λb o h _ _ _=>⟨o.slots,h⟩,λb o h c _=>fr b o h c,λb o h _=>⟨o,h⟩,λb zs h=>kp b _ h (λ_ z=>nomatch z),λb o v h=>kp b _ h (λ_ z=>nomatch z),λb zs h=>⟨#[],by simpa using kp b _ h (λ_ z=>nomatch z)⟩⟩;exact I.un (h':=s.heap) (t':=s.toks) u (I.hok.WR e d n)
end
section
variable{X:Cx}{K:Ao}{ml:List Nat}{e:Sj}{H:Hp}{pos af:Pos}{n:Int}
def hX(n:Int):TE:=λ_ H Q=>∀q p,H q=b3->H p=b3->q≠p->Q (.ref p) (WR (aG (aG H q (.lst [])) p (.lst [.int n,.ref q])) p q [.int n,.ref q] [])
def lG(h:PE X e (tC (.int n)))(h1:Bb [e,.List [] af] X.env=(ba,eval e X.env)::Bb [.List [] af] X.env:=by rfl)(h2:Bb [.List [] af] X.env=(ba,eval (.List [] af) X.env)::Bb [] X.env:=by rfl):PE X (.List [e,.List [] af] pos) (hX n):=by
 intro aa s σ H Q I k;refine Y7 ((C8 (bL h (bL (C8 ZU) ZU h2) h1)) aa s σ H (λv H'=>∃q p,H q=b3/\H p=b3/\q≠p/\v=.ref p/\H'=aG (aG H q (.lst [])) p (.lst [.int n,.ref q])) I ?_) λu s1 ⟨v,H1,f,d,q1⟩=>?_
 ·refine ⟨by decide,λq b => ⟨by show 2 <= sizeLine;decide,λp a => ⟨q,p,b,?_,?_,rfl,rfl⟩⟩⟩
  ·have : p ≠ q := λz => by rw [z,bU]at a;cases a
   rwa[bC this]at a
  ·intro z
   rw[z,bU]at a;cases a
 ·obtain⟨q,p,b,a,c,rfl,rfl⟩:=q1
  exact⟨.ref p,_,f.WR bU ((bC c).trans bU) c,d,k q p b a c⟩
end
section
variable{X:Cx}{K:Ao}{ml:List Nat}{e a b c:Sj}{es:List Sj}{pa ps:Bool}{fa:VF}{H:Hp}{σ:St}{δ δ':Ev}{v:V}{d d0:cM}{p:Sf}{pos:Pos}{i j:Nat}
def Yv{n:Int}{q p:Sf}{N:Sf->Prop}(c:H q=b3)(d:H p=b3)(b:q≠p):QV K N (WR (aG (aG H q (.lst [])) p (.lst [.int n,.ref q])) p q [.int n,.ref q] []) p (.nst [b3,b0 0] [.int n]):=by refine .nst (vs:=[.int n]) ⟨_,_,A5,λr zs a=>?_,.val (λr z=>nomatch z) (.lst (zs:=[]) (vs:=[]) (by unfold subq;rw[if_pos rfl]) (λz=>nomatch z) .nil)⟩ (.cons (.int n) .nil);obtain⟨rfl,_⟩:=JT a;exact HJ b
def mR{n:Int}{q p:Sf}(c:H q=b3)(d:H p=b3):aD H (WR (aG (aG H q (.lst [])) p (.lst [.int n,.ref q])) p q [.int n,.ref q] []):=λb o a=>by
 have h1:b≠p:=λz=>by rw[z,d]at a;cases a
 have h2:b≠q:=λz=>by rw[z,c]at a;cases a
 rw[UL h1 h2,bC h1,bC h2];exact a
def lD{j:Nat}{n:Int}{i c:Pos}(t:PE X a (tC (.int n)))(s:PE X b (WF j))(m:Bb [.List [a,.List [] c] i,b] X.env=(ba,eval (.List [a,.List [] c] i) X.env)::Bb (b::[]) X.env:=by rfl)(f:SE X b []:=by rfl)(h1:Bb [a,.List [] c] X.env=(ba,eval a X.env)::Bb [.List [] c] X.env:=by rfl)(h2:Bb [.List [] c] X.env=(ba,eval (.List [] c) X.env)::Bb [] X.env:=by rfl):
  PA X [.List [a,.List [] c] i,b] (TAGG K ml b5 (.nst [b3,b0 0] [.int n]) (aE (fV j) bR)):=(bL (lG t h1 h2) (bL s ZU f) m).imp λσ H Q g=>by
 obtain⟨B,O,δ,as,δ2,S,q,k⟩:=g;unfold aE at q;obtain⟨z,h1,q⟩:=Aa.mp q;cases q;unfold fV at h1;split at h1
 ·rename_i d hd
  cases h1;intro q p l h o;obtain⟨v,e,r⟩:=S.va j _ hd;exact⟨v,e,k [v] H ⟨S,Fr.refl _ _,λ_=>aD.refl _,.d r .nil⟩ [] v rfl p _ ⟨h,mR l h,λN=>Yv l h o⟩⟩
 ·cases h1
def lX{x:Si}{d j i:Nat}{qs:List Si}{mF:List Nat}{F:bW}{u:Sf}{p':Pos}{fs:TD}(D:Def X.prog X.w K X.mg X.base x d qs (spV K (mF++[i]) (i+2) F) u)(l:X5 j X.A)(s:PA X (e::es) (TAGG K ml ps d0 fs))(t:X.K=K:=by rfl)(n:∀j∈mF,j<i:=by decide)(hk:d<=j:=by decide)(o:Gl X x:=by rfl)(c:ND x:=by decide)(r:SE X e es:=by rfl)(b:(Ex pos (Bb es X.env)).any (·.1)=ba:=by rfl):PE X (.Call (.Name x p') (e::es) [] pos) (TV K ml (ps&&mF.isEmpty) b5 b5 (cA (i+1) mF (CW d0 i F) fs)):=by subst t;refine(O0 D l hk o s c r b).imp λσ H Q h=>?_;obtain⟨B,O,δ,as,δ',S,q,k⟩:=RQ h;refine⟨B,O,δ,as,δ',S,q,λvs H' R a v g p H2 hw=>?_⟩;obtain⟨m,f,own⟩:=hw;subst g;have z:spV X.K mF (i+1) (CW d0 i F) ((a++[v])++[]) H' Q E0:=k _ H' R;show spV X.K (mF++[i]) (i+2) F ((a++[.ref p,v])++[]) H2 Q E0;rw[Cz]at z⊢;exact FX n m f own z
end
def recV(f:bW->bW):Nat->bW
 |0=>λ_=>b3
 |n+1=>f (recV f n)
def OX{P:Bh}{w:Sm}{K:Ao}{mg:Si->Option Se}{base:Sq}{k n:Nat}{f:Sf}{fd:Ey}{ps:List Si}{ml:List Nat}:S9 P w K mg base CX0 k f fd ps (spV K ml n λ_=>b3):=by
 refine⟨λvs H Q E h=>?_,λA outer s H args us vs Q E _ _ _ _ h=>?_⟩<;>
 ·obtain⟨_,_,_,_,_,_,h,_⟩:=h
  cases h
section
variable{X:Cx}{K:Ao}{ml:List Nat}{e a b c:Sj}{es:List Sj}{ps:Bool}{H H':Hp}{v:V}{d:cM}{p:Sf}{pos:Pos}
noncomputable def insE(i:Nat)(F:bW):bW:=λds=>(F (ds.take i++ .dct [] []::ds.drop i)).map λq=>(q.1,q.2.drop 1)
def k6{i:Nat}{F:bW}{c:List V}{Q:VK}{E:XK}(s:H p=b3)(h:spV K [i] (i+1) (insE i F) (c++[v]) H Q E):spV K [i,i+1] (i+2) F (c++[.ref p,v]) (aG H p (.dK [])) Q E:=by
 obtain⟨Z,ds,r,os,hl,A,G,k⟩:=h;obtain⟨l,d,rfl⟩:∃l d,ds=l++[d]:=⟨ds.dropLast,ds.getLast (λz=>by rw[z]at hl;cases hl),(Gg _).symm⟩;have m:l.length=i:=by simpa using hl
 have y:c.length=i:=by have:=A.len;simp at this;lia
 unfold insE at G;rw[Md m,Qi m]at G;obtain⟨⟨r',N⟩,h0,G⟩:=Am.mp G;cases G;have lo:∀(j:Nat),j<i->(c++[.ref p,v])[j]?=(c++[v])[j]? :=λj g=>by rw[Ae (by lia),Ae (by lia)]
 have C:(c++[.ref p,v])[i]?=b0 (.ref p):=by rw[At (by lia),y,Fx];rfl
 have n:(c++[.ref p,v])[i+1]?=b0 v:=by rw[At (by lia),y,show i+1-i=1 by lia];rfl
 have t:(c++[v])[i]?=b0 v:=by rw[At (by lia),y,Fx];rfl
 have Y:∀(j:Nat),j<i->(l++ .dct [] []::[d])[j]?=(l++[d])[j]? :=λj g=>by rw[Ae (by lia),Ae (by lia)]
 have X:(l++ .dct [] []::[d])[i]?=b0 (.dct [] []):=by rw[At (by lia),m,Fx];rfl
 have W:(l++ .dct [] []::[d])[i+1]?=b0 d:=by rw[At (by lia),m,show i+1-i=1 by lia];rfl
 have U:(l++[d])[i]?=b0 d:=by rw[At (by lia),m,Fx];rfl
 obtain⟨a,ea,wa,za⟩:=A.ow i d (An.mpr rfl) U;rw[t]at ea;cases ea;have ap:a≠p:=λz=>by obtain⟨o,q,_⟩:=wa.soft;rw[z,s]at q;cases q
 have hP:∀b,VA [i,i+1] (c++[.ref p,.ref a]) b->VA [i] (c++[.ref a]) b∨b=p:=λb q0=>by
  obtain⟨j,g,e⟩:=q0;rcases Aj.mp g with g|g
  ·rw[g,C]at e
   cases e;exact .inr rfl
  ·rw[An.mp g,n]at e
   cases e;exact .inl ⟨i,An.mpr rfl,t⟩
 have S:∀b,VA [i] (c++[.ref a]) b->VA [i,i+1] (c++[.ref p,.ref a]) b:=λb q0=>by obtain⟨j,g,e⟩:=q0;rw[An.mp g,t]at e;cases e;exact⟨i+1,Ap _ (An.mpr rfl),n⟩
 have R:∀b,Zp Z [i,i+1] (c++[.ref p,.ref a]) b->Zp Z [i] (c++[.ref a]) b∨b=p:=λb h=>by
  rcases h with h|h
  ·exact .inl (.inl h)
  ·exact(hP b h).imp .inr id
 have B:∀b,Zp Z [i] (c++[.ref a]) b->Zp Z [i,i+1] (c++[.ref p,.ref a]) b:=λb h=>h.imp id (S b);refine⟨Z,l++ .dct [] []::[d],_,N,by simp[m],⟨by simp;lia,λj g=>?_,λj x g e=>?_,λj x g e=>?_,λj1 j2 b h1 h2 D T=>?_,λa h=>let ⟨o,q⟩:=A.zin a h;⟨o,cD s _ _ q⟩⟩,h0,λu H' f w rr=>k u H' (λb o P hc=>f b o (cD s _ _ P) λz=>?_) (λkk j b o D T e3=>?_) (rr.mono B B)⟩
 ·rcases Aj.mp g with g|g
  ·rw[g]
   simp;lia
  ·rw[An.mp g]
   simp;lia
 ·have O : j ≠ i := λz => g (Aj.mpr (.inl z))
  have hjk:j≠i+1:=λz=>g (Aj.mpr (.inr (An.mpr z)));have h1:j<i:=by
   have:=(Af.mp e).1
   simp at this;lia
  rw[Y j h1]at e;obtain⟨u,D,r1⟩:=A.va j x (λz=>O (An.mp z)) e;exact⟨u,by rw[lo j h1];exact D,(r1.away s _ _ R R).same (cD s)⟩
 ·rcases Aj.mp g with g|g
  ·subst g
   rw[X]at e;cases e;exact⟨p,C,.dct (kvs:=[]) bU .nil,λz=>by obtain⟨o,q⟩:=A.zin p z;rw[s]at q;cases q⟩
  ·rw[An.mp g,W]at e
   cases e;exact⟨a,by rw[An.mp g];exact n,wa.awayS s (cD s) R,za⟩
 ·have go : ∀ j,j ∈ [i,i + 1] -> (c ++ [.ref p,.ref a])[j]? = b0 (.ref b) -> (j = i /\ b = p) ∨ (j = i + 1 /\ b = a) := λj g e => by
   rcases Aj.mp g with g|g
   ·rw[g,C]at e
    cases e;exact .inl ⟨g,rfl⟩
   ·have g:=An.mp g
    rw[g,n]at e;cases e;exact .inr ⟨g,rfl⟩
  rcases go j1 h1 D with⟨M,J⟩|⟨M,J⟩<;>rcases go j2 h2 T with⟨L,I⟩|⟨L,I⟩
  ·rw[M,L]
  ·exact absurd (I.symm.trans J) ap
  ·exact absurd (J.symm.trans I) ap
  ·rw[M,L]
 ·rcases hP b z with z|z
  ·exact hc z
  ·rw[z,s]at P
   cases P
 ·have hk:kk=0:=by
   have:=(Af.mp D).1
   simpa using this
  subst hk;cases D;refine(w 1 (i+1) b o rfl ?_ (by rw[List.getElem?_drop]at e3;exact e3)).mono B;rw[n,<-t];exact T
def lc{j:Nat}{f:Pos}(i:PE X b (WF j))(g:Bb (.Dict [] [] f::b::[]) X.env=(ba,eval (.Dict [] [] f) X.env)::Bb (b::[]) X.env:=by rfl)(a:SE X b []:=by rfl):
  PA X [.Dict [] [] f,b] (TAGE K ml b5 (aO j bR)):=(bL LH (bL i ZU a) g).imp λσ H Q c=>by
 obtain⟨B,O,δ,as,δ2,S,q,k⟩:=c;obtain⟨d,l,h1,h2,rfl⟩:=Zx q;cases h2;obtain⟨v,e⟩:=S.slot h1;intro p h;exact⟨v,e,k [v] H ⟨S,Fr.refl _ _,λ_=>aD.refl _,.o e .nil⟩ [] v rfl p _ ⟨h,rfl⟩⟩
def jw{x:Si}{d j i:Nat}{qs:List Si}{F:bW}{s:Sf}{p':Pos}{fs:TD}(D:Def X.prog X.w K X.mg X.base x d qs (spV K [i,i+1] (i+2) F) s)(g:X5 j X.A)(o:PA X (e::es) (TAGE K ml ps fs))(r:X.K=K:=by rfl)(hk:d<=j:=by decide)(m:Gl X x:=by rfl)(c:ND x:=by decide)(n:SE X e es:=by rfl)(b:(Ex pos (Bb es X.env)).any (·.1)=ba:=by rfl):PE X (.Call (.Name x p') (e::es) [] pos) (TV K ml (ps&&[i].isEmpty) b5 b5 (cA (i+1) [i] (insE i F) fs)):=by subst r;refine(O0 D g hk m o c n b).imp λσ H Q h=>?_;obtain⟨B,O,δ,as,δ',S,q,k⟩:=RQ h;refine⟨B,O,δ,as,δ',S,q,λvs H' R a v f p H2 hw=>?_⟩;obtain⟨l,rfl⟩:=hw;subst f;have z:spV X.K [i] (i+1) (insE i F) ((a++[v])++[]) H' Q E0:=k _ H' R;show spV X.K [i,i+1] (i+2) F ((a++[.ref p,v])++[]) (aG H' p (.dK [])) Q E0;rw[Cz]at z⊢;exact k6 l z
end
def Zg(l b:Sf)(u v:Array Se)(n m:Nat)(a:Array (Option Se))(f:¬(!u.isEmpty&&Dz (u.size+v.size))=b5)(h1:u.size<=sizeLine)(h2:(u++v).size<=sizeLine+1):Meets (Fo.«list.extend» ⟨[.ref l,.ref b],[]⟩) (λ_ R s=>s.heap.get? l=b0 ⟨.type "list",b3,.seq u n,#[]⟩/\s.heap.get? b=b0 ⟨.type "list",b3,.seq v m,a⟩/\R (.ok (.ret .none)) {s with heap:=s.heap.update l (Df λx=>x++v)}):=
 .of_wp λprog w A R s h=>by
  obtain⟨e,g,d,tk,os⟩:=s;obtain⟨hl,c,h⟩:=h;have f1:=Po;have f2:=Kn;have f3:=Lm;have j:=Lb;have i:=Lc;wp_walk using(wpAny_updateSeq hl rfl (hz:=h1) (_hz':=h2)),Bw hl,Bw c
  exact⟨_,rfl,h⟩
def Tj(K:Ao):V->List V->Hp->VK->Prop:=λx vs H Q=>∃l b xs zs,x=.ref l/\vs=[.ref b]/\H l=b0 (.lst xs)/\W7 K H b zs/\xs.length+zs.length<=sizeLine/\Q .non (aG H l (.lst (xs++zs)))
def lb{X:Cx}:MtM X "list.extend" (Tj X.K):=by
 intro aa s σ H x vs v us Q I i j h;obtain⟨l,b,xs,zs,rfl,rfl,d,p,hz,q⟩:=h;cases i;obtain⟨u,rfl,k⟩:=j.one;cases k;obtain⟨z,its,n,r,hl,e⟩:=I.lstM d;obtain⟨a,c,⟨⟨cls,w,data,g⟩,m,t,hc,hd,f⟩,_⟩:=I.list p;simp only at hc hd f;subst hc hd f;have o:=c.length;have hsz:its.toArray.size+a.toArray.size<=sizeLine:=by rw[Aq,Aq];lia
 refine He F.slot_list_extend ⟨_,e,rfl⟩ F.entry_list_extend (F.args_list_extend_2 _ _) (Zg l b its.toArray a.toArray n m g (by rw[mJ hsz,Bool.and_false];exact Ei) (by rw[Aq];lia) (by rw[Oq];lia)) ⟨e,t,?_⟩
 refine⟨.non,_,I.lset (its':=its++a) d e (by simp) (r.append c) ?_,rfl,q⟩;rw[Ay];lia
def Wc{X:Cx}{K:Ao}(h:X.K=K):MtM X "list.extend" (Tj K):=by subst h;exact lb
noncomputable def mExt:List cM->List cM->Option (List cM)
 |ds,[.lst es]=>if ds.length+es.length<=16777216 then b0 (ds++es)else b3
 |_,_=>b3
def Wr{K:Ao}:MuV K (Tj K) mExt:=by
 intro H N l xs vs ds es e Q hl f a c h k;cases c with
 |nil=>cases h
 | @cons v vs d es hd t=>
  cases t with
  |cons _ _=>cases d<;>cases h
  |nil=>
   cases d with
   |lst es=>
    simp only[mExt]at h;split at h
    ·rename_i hz
     cases h;obtain⟨b,zs,rfl,sq,r⟩:=hd.lstE;exact⟨l,b,xs,zs,rfl,rfl,hl,sq,by rw[a.length,r.length,Cr];exact hz,k _ _ (a.append r)⟩
    ·cases h
   |_=>cases h
def QM{α:Type}(k:Nat)(xs:List α):List α:=(Ak k xs).flatten
def cX{α:Type}(k:Nat)(xs:List α):(QM k xs).length=xs.length*k:=by
 unfold QM;induction k with
 |zero=>simp
 |succ k a=>rw[Cy,Fu,Ay,a,Nat.mul_succ,Kb]
def a7.repV{xs:List V}{us:List Se}(r:a7 xs us)(k:Nat):a7 (QM k xs) (QM k us):=by
 unfold QM;induction k with
 |zero=>exact .nil
 |succ k a=>rw[Cy,Cy,Fu,Fu];exact r.append a
def bT.rep{K:Ao}{N:Sf->Prop}{H:Hp}{xs:List V}{ds:List cM}(r:bT K N H xs ds)(k:Nat):bT K N H (QM k xs) (QM k ds):=by
 unfold QM;induction k with
 |zero=>exact .nil
 |succ k a=>rw[Cy,Cy,Fu,Fu];exact r.append a
section
variable{X:Cx}{K:Ao}
def Tl(K:Ao):R2:=λx y H Q=>∃l xs k,x=.ref l/\y=.int k/\W7 K H l xs/\(0<=k/\k<2 ^ 62)/\xs.length*k.toNat<=16777216/\∀p,H p=b3->Q (.ref p) (aG H p (.lst (QM k.toNat xs)))
def lL:VY X (Fn .Mult) (Tl X.K):=by
 intro aa s σ H x y v u Q I g f h;obtain⟨l,xs,x,rfl,rfl,i,⟨k,j⟩,hz,q⟩:=h;cases g;obtain⟨t,rfl⟩:=f;obtain⟨its,r,⟨⟨cls,p,data,c⟩,n,a,hc,hd,d⟩,_⟩:=I.list i;simp only at hc hd d;subst hc hd d;have hl:=r.length;have hsz:its.toArray.size*x.toNat<=16777216:=by rw[Aq,<-hl];exact hz
 refine wpAny_binaryOp_repeat_ref (T:= "list") (U:= "int") (by decide) ⟨_,a,rfl⟩ (λs'=>Rf s' x t) noFill_list_mul F.fills_int_mul Qn repeat_list F.slot_int_index.lookup
  (He Qn (Rf s x t) F.entry_int_rmul (F.args_int_rmul_2 _ _) (lm_int_rmul_list_any x t l its.toArray n b3 c) ⟨a,rfl,⟨_,a,rfl⟩,?_⟩)
 refine He F.slot_list_mul ⟨_,a,rfl⟩ F.entry_list_mul (F.args_list_mul_2 _ _) (lm_list_mul_any l its.toArray n b3 c x t (by simp[Builtin.List.listFitsIndex];lia) (by lia) (by simp[Dz,sizeLine];lia)) ⟨a,?_⟩;rw[listMul_foldl_if];refine⟨.ref s.heap.objs.size,_,I.laid (t':=s.toks) (o:=.lst (QM x.toNat xs)) (λb m e=>Ad _ e) (Au _) ?_,rfl,q _ (I.hok.fresh (Au _))⟩;exact⟨by rw[cX,Cr];exact hz,QM x.toNat its,0,r.repV _,Ax _ rfl⟩
def kRep(h:X.K=K:=by rfl):VY X (Fn .Mult) (Tl K):=by subst h;exact lL
noncomputable def AZ:cM->cM->Option cM
 |.lst ds,.int k=>if(0<=k/\k<2 ^ 62)/\ds.length*k.toNat<=16777216 then b0 (.lst (QM k.toNat ds))else b3
 |_,_=>b3
def jO:OpC K (Tl K) AZ:=by
 intro H N M M' x y d e c Q j g h k;cases d with
 |lst ds=>
  cases e with
  |int i=>
   simp only[AZ]at h;split at h
   ·rename_i hz
    cases h;obtain⟨a,xs,rfl,q1,f⟩:=j.lstE;cases g.onI;exact⟨a,xs,i,rfl,rfl,q1,hz.1,by rw[f.length];exact hz.2,λp b=>k _ _ (cD b) λM l=>.lst bU (λz=>by obtain⟨o,q⟩:=l _ z;rw[b]at q;cases q) ((f.rep _).same (cD b))⟩
   ·cases h
  |_=>cases h
 |_=>cases h
end
end L2
namespace L2
open PySem
section
variable{α β:Type}{d x y z c:cM}{δ δ1 δ':Ev}{fa fb fc:VF}{o o':cM->cM->Option cM}{i j k n:Nat}{s:Sl}{b:Bool}{ds:List cM}
def q0(r:Option α)(δ:Ev):Option (α×Ev):=r.map λc=>(c,δ)
@[simp] theorem q0_s{a:α}:q0 (b0 a) δ=b0 (a,δ):=rfl
@[simp] theorem fC_e:fC d δ=b0 (d,δ):=rfl
noncomputable def qV:Option Sl->Ev->Option (cM×Ev)
 |some (.va d),δ=>b0 (d,δ)
 |_,_=>b3
noncomputable def qO:Option Sl->Ev->Option (cM×Ev)
 |some (.va d),δ=>b0 (d,δ)
 |some (.ow d),δ=>b0 (d,δ)
 |_,_=>b3
@[simp] theorem fV_e:fV i δ=qV δ[i]? δ:=by unfold fV qV;split<;>simp_all
@[simp] theorem fO_e:fO i δ=qO δ[i]? δ:=by unfold fO qO;split<;>simp_all
@[simp] theorem qV_s:qV (b0 (.va d)) δ=b0 (d,δ):=rfl
@[simp] theorem qO_o:qO (b0 (.ow d)) δ=b0 (d,δ):=rfl
def q1(o:cM->Option cM)(r:Option (cM×Ev)):Option (cM×Ev):=r.bind λp=>q0 (o p.1) p.2
@[simp] theorem f1_e{o:cM->Option cM}:f1 o fa δ=q1 o (fa δ):=rfl
@[simp] theorem q1_s{o:cM->Option cM}:q1 o (b0 (x,δ))=q0 (o x) δ:=rfl
def q2(o:cM->cM->Option cM)(r:Option (cM×Ev))(fb:VF):Option (cM×Ev):=r.bind λp=>(fb p.2).bind λq=>q0 (o p.1 q.1) q.2
def q2b(o:cM->cM->Option cM)(x:cM)(r:Option (cM×Ev)):Option (cM×Ev):=r.bind λq=>q0 (o x q.1) q.2
@[simp] theorem f2_e:f2 o fa fb δ=q2 o (fa δ) fb:=rfl
@[simp] theorem q2_s:q2 o (b0 (x,δ)) fb=q2b o x (fb δ):=rfl
@[simp] theorem tU:q2b o x (b0 (y,δ))=q0 (o x y) δ:=rfl
noncomputable def q3(o o':cM->cM->Option cM)(r:Option (cM×Ev))(fb fc:VF):Option (cM×Ev):=r.bind λp=>(fb p.2).bind λq=>(o p.1 q.1).bind λz=>match z with
 |.bl b5=>(fc q.2).bind λs=>(o' q.1 s.1).map λu=>(u,s.2)
 |.bl ba=>b0 (.bl ba,q.2)
 |_=>b3
def q3b(o o':cM->cM->Option cM)(x:cM)(r:Option (cM×Ev))(fc:VF):Option (cM×Ev):=q3 o o' (b0 (x,[])) (λ_=>r) fc
noncomputable def q3c(o':cM->cM->Option cM)(y:cM)(δ:Ev)(fc:VF):Option cM->Option (cM×Ev)
 |some (.bl b5)=>q2b o' y (fc δ)
 |some (.bl ba)=>b0 (.bl ba,δ)
 |_=>b3
@[simp] theorem f3_e:f3 o o' fa fb fc δ=q3 o o' (fa δ) fb fc:=rfl
@[simp] theorem q3_s:q3 o o' (b0 (x,δ)) fb fc=q3b o o' x (fb δ) fc:=rfl
@[simp] theorem pQ:q3b o o' x (b0 (y,δ)) fc=q3c o' y δ fc (o x y):=by
 simp only[q3b,q3,Ai];cases o x y with
 |none=>rfl
 |some z=>cases z with
  |bl b=>cases b<;>rfl
  |_=>rfl
@[simp] theorem qj:q3c o' y δ fc (b0 (.bl b5))=q2b o' y (fc δ):=rfl
@[simp] theorem pX:q3c o' y δ fc (b0 (.bl ba))=b0 (.bl ba,δ):=rfl
noncomputable def qc(r:Option (cM×Ev))(fs:OF):Option (List cM×Ev):=r.bind λp=>(fs p.2).map λq=>(p.1::q.1,q.2)
noncomputable def qcb(x:cM)(r:Option (List cM×Ev)):Option (List cM×Ev):=r.map λq=>(x::q.1,q.2)
@[simp] theorem r6:bS δ=b0 ([],δ):=rfl
@[simp] theorem sj{fs:OF}:cG fa fs δ=qc (fa δ) fs:=rfl
@[simp] theorem qc_s{fs:OF}:qc (b0 (x,δ)) fs=qcb x (fs δ):=rfl
@[simp] theorem pK:qcb x (b0 (ds,δ))=b0 (x::ds,δ):=rfl
noncomputable def qT(g:List cM->cM)(r:Option (List cM×Ev)):Option (cM×Ev):=r.bind λp=>if p.1.length<=16777216 then b0 (g p.1,p.2)else b3
@[simp] theorem pI{fs:OF}:aJ fs δ=qT .tup (fs δ):=rfl
@[simp] theorem o0{fs:OF}:ZA fs δ=qT .lst (fs δ):=rfl
@[simp] theorem qT_s{g:List cM->cM}:qT g (b0 (ds,δ))=if ds.length<=16777216 then b0 (g ds,δ)else b3:=rfl
noncomputable def qB:Option (cM×Ev)->Option (Bool×Ev)
 |some (.bl k,δ)=>b0 (k,δ)
 |_=>b3
@[simp] theorem fB_e:fB fa δ=qB (fa δ):=by
 unfold fB qB;cases fa δ with
 |none=>rfl
 |some p=>
  obtain⟨d,e⟩:=p;cases d<;>rfl
@[simp] theorem qB_s:qB (b0 (.bl b,δ))=b0 (b,δ):=rfl
variable{tb tb':VB}{g g':VS}
noncomputable def qAnd(r:Option (Bool×Ev))(y:VB):Option (Bool×Ev):=r.bind λp=>if p.1=b5 then y p.2 else b0 (ba,p.2)
noncomputable def qOr(r:Option (Bool×Ev))(y:VB):Option (Bool×Ev):=r.bind λp=>if p.1=b5 then b0 (b5,p.2)else y p.2
noncomputable def qNot(r:Option (Bool×Ev)):Option (Bool×Ev):=r.map λp=>(!p.1,p.2)
@[simp] theorem rK:UF tb tb' δ=qAnd (tb δ) tb':=rfl
@[simp] theorem qu:D2 tb tb' δ=qOr (tb δ) tb':=rfl
@[simp] theorem rl:UG tb δ=qNot (tb δ):=rfl
@[simp] theorem Xy:V6 δ=b0 (b5,δ):=rfl
@[simp] theorem oM:qAnd (b0 (b5,δ)) tb=tb δ:=rfl
@[simp] theorem rZ:qAnd (b0 (ba,δ)) tb=b0 (ba,δ):=rfl
@[simp] theorem oa:qOr (b0 (b5,δ)) tb=b0 (b5,δ):=rfl
@[simp] theorem oS:qOr (b0 (ba,δ)) tb=tb δ:=rfl
@[simp] theorem nw:qNot (b0 (b,δ))=b0 (!b,δ):=rfl
noncomputable def qA(r:Option (cM×Ev))(y:VF):Option (cM×Ev):=r.bind λp=>match p.1 with
 |.bl b5=>y p.2
 |.bl ba=>b0 (.bl ba,p.2)
 |_=>b3
@[simp] theorem rQ:NO fa fb δ=qA (fa δ) fb:=rfl
@[simp] theorem qA_t:qA (b0 (.bl b5,δ)) fb=fb δ:=rfl
@[simp] theorem qA_f:qA (b0 (.bl ba,δ)) fb=b0 (.bl ba,δ):=rfl
def qI(r:Option (Bool×Ev))(x y:VF):Option (cM×Ev):=r.bind λp=>if p.1=b5 then x p.2 else y p.2
@[simp] theorem tq:KH tb fa fb δ=qI (tb δ) fa fb:=rfl
@[simp] theorem qI_t:qI (b0 (b5,δ)) fa fb=fa δ:=rfl
@[simp] theorem qI_f:qI (b0 (ba,δ)) fa fb=fb δ:=rfl
def qS(r:Option Ou)(g:VS):Option Ou:=r.bind λo=>match o with
 |.nx δ'=>g δ'
 |o=>b0 o
@[simp] theorem pq:aI δ=b0 (.nx δ):=rfl
@[simp] theorem Xa:b8 g g' δ=qS (g δ) g':=rfl
@[simp] theorem qS_n:qS (b0 (.nx δ)) g=g δ:=rfl
@[simp] theorem qS_r:qS (b0 (.rt d δ)) g=b0 (.rt d δ):=rfl
def qJ(r:Option (Bool×Ev))(x y:VS):Option Ou:=r.bind λp=>if p.1=b5 then x p.2 else y p.2
@[simp] theorem Wi:YN tb g g' δ=qJ (tb δ) g g':=rfl
@[simp] theorem qJ_t:qJ (b0 (b5,δ)) g g'=g δ:=rfl
@[simp] theorem qJ_f:qJ (b0 (ba,δ)) g g'=g' δ:=rfl
noncomputable def qRet(r:Option (cM×Ev)):Option Ou:=r.map λp=>.rt p.1 p.2
def Xr(r:Option (cM×Ev)):Option Ou:=r.map λp=>.nx p.2
@[simp] theorem qq:bK fa δ=qRet (fa δ):=rfl
@[simp] theorem sC:qRet (b0 (d,δ))=b0 (.rt d δ):=rfl
@[simp] theorem qt:BQ fa δ=Xr (fa δ):=rfl
@[simp] theorem sW:Xr (b0 (d,δ))=b0 (.nx δ):=rfl
noncomputable def qx(f:cM->Sl)(r:Option (cM×Ev)):Option (Sl×Ev):=r.map λp=>(f p.1,p.2)
@[simp] theorem xV_e:xV fa δ=qx .va (fa δ):=rfl
@[simp] theorem xO_e:xO fa δ=qx .ow (fa δ):=rfl
@[simp] theorem qx_s{f:cM->Sl}:qx f (b0 (d,δ))=b0 (f d,δ):=rfl
noncomputable def qSet(i:Nat)(r:Option (Sl×Ev)):Option Ou:=r.bind λp=>if i<p.2.length then b0 (.nx (p.2.set i p.1))else b3
@[simp] theorem pZ{x:VX}:aK i x δ=qSet i (x δ):=rfl
@[simp] theorem rY:qSet i (b0 (s,δ))=if i<δ.length then b0 (.nx (δ.set i s))else b3:=rfl
noncomputable def qP2(i j:Nat)(r:Option (Sl×Ev))(y:VX):Option Ou:=r.bind λp=>(y p.2).bind λq=>if i<q.2.length/\j<q.2.length then b0 (.nx ((q.2.set j q.1).set i p.1))else b3
noncomputable def qP2b(i j:Nat)(s:Sl)(r:Option (Sl×Ev)):Option Ou:=r.bind λq=>if i<q.2.length/\j<q.2.length then b0 (.nx ((q.2.set j q.1).set i s))else b3
@[simp] theorem o7{x y:VX}:LV i j x y δ=qP2 i j (x δ) y:=rfl
@[simp] theorem sQ{y:VX}:qP2 i j (b0 (s,δ)) y=qP2b i j s (y δ):=rfl
@[simp] theorem nj{s':Sl}:qP2b i j s (b0 (s',δ))=if i<δ.length/\j<δ.length then b0 (.nx ((δ.set j s').set i s))else b3:=rfl
noncomputable def qP3(i j k:Nat)(r:Option (Sl×Ev))(y z:VX):Option Ou:=r.bind λp=>(y p.2).bind λq=>(z q.2).bind λr=>if i<r.2.length/\j<r.2.length/\k<r.2.length then b0 (.nx (((r.2.set k r.1).set j q.1).set i p.1))else b3
noncomputable def qP3b(i j k:Nat)(s:Sl)(r:Option (Sl×Ev))(z:VX):Option Ou:=r.bind λq=>(z q.2).bind λr=>if i<r.2.length/\j<r.2.length/\k<r.2.length then b0 (.nx (((r.2.set k r.1).set j q.1).set i s))else b3
noncomputable def qP3c(i j k:Nat)(s s':Sl)(r:Option (Sl×Ev)):Option Ou:=r.bind λr=>if i<r.2.length/\j<r.2.length/\k<r.2.length then b0 (.nx (((r.2.set k r.1).set j s').set i s))else b3
@[simp] theorem rV{x y z:VX}:LW i j k x y z δ=qP3 i j k (x δ) y z:=rfl
@[simp] theorem qk{y z:VX}:qP3 i j k (b0 (s,δ)) y z=qP3b i j k s (y δ) z:=rfl
@[simp] theorem oz{s':Sl}{z:VX}:qP3b i j k s (b0 (s',δ)) z=qP3c i j k s s' (z δ):=rfl
@[simp] theorem tE{s' a:Sl}:qP3c i j k s s' (b0 (a,δ))=if i<δ.length/\j<δ.length/\k<δ.length then b0 (.nx (((δ.set k a).set j s').set i s))else b3:=rfl
@[simp] theorem P1:gN i d δ=b0 (δ.set i (.va d)):=rfl
def qg(r:Option Ev)(a:VGs)(ds:List cM):Option Ev:=r.bind λδ1=>a ds δ1
@[simp] theorem sU:Y4 [] δ=b0 δ:=rfl
@[simp] theorem nZ{gg:VG}{a:VGs}:bG gg a (d::ds) δ=qg (gg d δ) a ds:=rfl
@[simp] theorem qg_s{a:VGs}:qg (b0 δ) a ds=a ds δ:=rfl
@[simp] theorem sT{a:VGs}:OC n a (.tup ds) δ=if ds.length=n then a ds δ else b3:=rfl
@[simp] theorem oh{a:VGs}:OC n a (.lst ds) δ=if ds.length=n then a ds δ else b3:=rfl
noncomputable def qAsg(r:Option (cM×Ev))(gg:VG):Option Ou:=r.bind λp=>(gg p.1 p.2).map Ou.nx
@[simp] theorem rA{gg:VG}:LS fa gg δ=qAsg (fa δ) gg:=rfl
@[simp] theorem oT{gg:VG}:qAsg (b0 (d,δ)) gg=(gg d δ).map Ou.nx:=rfl
def qM(i:Nat)(m:List cM->List cM->Option (List cM))(r:Option (List cM))(δ:Ev)(fs:OF):Option Ou:=r.bind λ_=>(fs δ).bind λp=>(VD p.2 i).bind λds=>(m ds p.1).map λa=>.nx (p.2.set i (.ow (.lst a)))
def qMb(i:Nat)(m:List cM->List cM->Option (List cM))(r:Option (List cM×Ev)):Option Ou:=r.bind λp=>(VD p.2 i).bind λds=>(m ds p.1).map λa=>.nx (p.2.set i (.ow (.lst a)))
noncomputable def qMc(i:Nat)(m:List cM->List cM->Option (List cM))(es:List cM)(δ:Ev)(r:Option (List cM)):Option Ou:=r.bind λds=>(m ds es).map λa=>.nx (δ.set i (.ow (.lst a)))
noncomputable def qMd(i:Nat)(δ:Ev)(r:Option (List cM)):Option Ou:=r.map λa=>.nx (δ.set i (.ow (.lst a)))
@[simp] theorem nO{m:List cM->List cM->Option (List cM)}{fs:OF}:VT i m fs δ=qM i m (VD δ i) δ fs:=rfl
@[simp] theorem qM_s{m:List cM->List cM->Option (List cM)}{fs:OF}:qM i m (b0 ds) δ fs=qMb i m (fs δ):=rfl
@[simp] theorem sf{m:List cM->List cM->Option (List cM)}{es:List cM}:qMb i m (b0 (es,δ))=qMc i m es δ (VD δ i):=rfl
@[simp] theorem mU{m:List cM->List cM->Option (List cM)}{es:List cM}:qMc i m es δ (b0 ds)=qMd i δ (m ds es):=rfl
@[simp] theorem sZ:qMd i δ (b0 ds)=b0 (.nx (δ.set i (.ow (.lst ds)))):=rfl
noncomputable def qOl:Option Sl->Option (List cM)
 |some (.ow (.lst ds))=>b0 ds
 |_=>b3
@[simp] theorem qb:VD δ i=qOl δ[i]? :=by unfold VD qOl;split<;>simp_all
@[simp] theorem q9:qOl (b0 (.ow (.lst ds)))=b0 ds:=rfl
@[simp] theorem tQ:UJ ds [d]=if ds.length<16777216 then b0 (ds++[d])else b3:=rfl
noncomputable def qOd:Option Sl->Option (List aS×List cM)
 |some (.ow (.dct ks ds))=>b0 (ks,ds)
 |_=>b3
@[simp] theorem tD:WL δ i=qOd δ[i]? :=by unfold WL qOd;split<;>simp_all
@[simp] theorem pE{ks:List aS}:qOd (b0 (.ow (.dct ks ds)))=b0 (ks,ds):=rfl
def qL(i:Nat)(r:Option (cM×Ev))(a:VF):Option Ou:=r.bind λp=>(VD p.2 i).bind λ_=>(a p.2).bind λq=>(VD q.2 i).bind λds=>match q.1 with
 |.int k=>(K4 ds.length k).map λj=>.nx (q.2.set i (.ow (.lst (ds.set j p.1))))
 |_=>b3
def qLb(i:Nat)(x:cM)(r:Option (List cM))(δ:Ev)(a:VF):Option Ou:=r.bind λ_=>(a δ).bind λq=>(VD q.2 i).bind λds=>match q.1 with
 |.int k=>(K4 ds.length k).map λj=>.nx (q.2.set i (.ow (.lst (ds.set j x))))
 |_=>b3
def qLc(i:Nat)(x:cM)(r:Option (cM×Ev)):Option Ou:=r.bind λq=>(VD q.2 i).bind λds=>match q.1 with
 |.int k=>(K4 ds.length k).map λj=>.nx (q.2.set i (.ow (.lst (ds.set j x))))
 |_=>b3
def qLd(i:Nat)(x:cM)(k:Int)(δ:Ev)(r:Option (List cM)):Option Ou:=r.bind λds=>(K4 ds.length k).map λj=>.nx (δ.set i (.ow (.lst (ds.set j x))))
@[simp] theorem oU{a fv:VF}:FQ i a fv δ=qL i (fv δ) a:=rfl
@[simp] theorem qL_s{a:VF}:qL i (b0 (x,δ)) a=qLb i x (VD δ i) δ a:=rfl
@[simp] theorem ql{a:VF}:qLb i x (b0 ds) δ a=qLc i x (a δ):=rfl
@[simp] theorem mZ{k:Int}:qLc i x (b0 (.int k,δ))=qLd i x k δ (VD δ i):=rfl
@[simp] theorem sY{k:Int}:qLd i x k δ (b0 ds)=(K4 ds.length k).map λj=>.nx (δ.set i (.ow (.lst (ds.set j x)))):=rfl
def qi(r:Option (cM×Ev)):Option (List cM×Ev):=r.bind λp=>(WM p.1).map λds=>(ds,p.2)
@[simp] theorem pW:WB fa δ=qi (fa δ):=rfl
@[simp] theorem qi_t:qi (b0 (.tup ds,δ))=b0 (ds,δ):=rfl
@[simp] theorem qi_l:qi (b0 (.lst ds,δ))=b0 (ds,δ):=rfl
noncomputable def qr1:Option (cM×Ev)->Option (List cM×Ev)
 |some (.int j,δ)=>if -4611686018427387904<=j/\j<4611686018427387904 then b0 (X8 0 j.toNat,δ)else b3
 |_=>b3
@[simp] theorem sk:iR1 fa δ=qr1 (fa δ):=by
 unfold iR1 qr1;cases fa δ with
 |none=>rfl
 |some p=>
  obtain⟨d,e⟩:=p;cases d<;>rfl
@[simp] theorem qE{j:Int}:qr1 (b0 (.int j,δ))=if -4611686018427387904<=j/\j<4611686018427387904 then b0 (X8 0 j.toNat,δ)else b3:=rfl
def qe(r:Option (cM×Ev)):Option (List cM×Ev):=r.bind λp=>(WM p.1).map λds=>(Y6 0 ds,p.2)
@[simp] theorem sP:OQ fa δ=qe (fa δ):=rfl
@[simp] theorem qe_t:qe (b0 (.tup ds,δ))=b0 (Y6 0 ds,δ):=rfl
@[simp] theorem qe_l:qe (b0 (.lst ds,δ))=b0 (Y6 0 ds,δ):=rfl
def qz(r:Option (cM×Ev))(g:VF):Option (List cM×Ev):=r.bind λp=>(g p.2).bind λq=>(WM p.1).bind λds=>(WM q.1).map λes=>(QZ ds es,q.2)
def qzb(x:cM)(r:Option (cM×Ev)):Option (List cM×Ev):=r.bind λq=>(WM x).bind λds=>(WM q.1).map λes=>(QZ ds es,q.2)
@[simp] theorem p6:iZip fa fb δ=qz (fa δ) fb:=rfl
@[simp] theorem qz_s:qz (b0 (x,δ)) fb=qzb x (fb δ):=rfl
@[simp] theorem rf:qzb x (b0 (y,δ))=(WM x).bind λds=>(WM y).map λes=>(QZ ds es,δ):=rfl
@[simp] theorem ng:WM (.tup ds)=b0 ds:=rfl
@[simp] theorem qQ:WM (.lst ds)=b0 ds:=rfl
def qF(r:Option (List cM×Ev))(gg:VG)(g:VS):Option Ou:=r.bind λp=>Y3 gg g p.1 p.2
@[simp] theorem lH{a:VI}{gg:VG}:QX a gg g δ=qF (a δ) gg g:=rfl
@[simp] theorem qF_s{gg:VG}:qF (b0 (ds,δ)) gg g=Y3 gg g ds δ:=rfl
def qK(ix:List Nat)(nl:Nat)(r:Option (List cM×Ev))(gg:VG)(tb:VB)(fe:VF):Option (cM×Ev):=r.bind λp=>(ZK ix.length nl gg tb fe p.1 [] (Z7 ix p.2)).map λq=>(.lst q.1,XG ix q.2 p.2)
def qKb(ix:List Nat)(δ:Ev)(r:Option (List cM×Ev)):Option (cM×Ev):=r.map λq=>(.lst q.1,XG ix q.2 δ)
@[simp] theorem p5{ix:List Nat}{nl:Nat}{a:VI}{gg:VG}:ZG ix nl a gg tb fa δ=qK ix nl (a δ) gg tb fa:=rfl
@[simp] theorem qK_s{ix:List Nat}{nl:Nat}{gg:VG}:qK ix nl (b0 (ds,δ)) gg tb fa=qKb ix δ (ZK ix.length nl gg tb fa ds [] (Z7 ix δ)):=rfl
@[simp] theorem mX{ix:List Nat}:qKb ix δ (b0 (ds,δ1))=b0 (.lst ds,XG ix δ1 δ):=rfl
variable{as:List AV}{fs:TD}{mF:List Nat}{F:bW}
noncomputable def qa(r:Option (cM×Ev))(fs:TD):Option (List AV×Ev):=r.bind λp=>(fs p.2).map λq=>(.d p.1::q.1,q.2)
noncomputable def qab(x:AV)(r:Option (List AV×Ev)):Option (List AV×Ev):=r.map λq=>(x::q.1,q.2)
@[simp] theorem kf:bR δ=b0 ([],δ):=rfl
@[simp] theorem D0:aE fa fs δ=qa (fa δ) fs:=rfl
@[simp] theorem qa_s:qa (b0 (x,δ)) fs=qab (.d x) (fs δ):=rfl
@[simp] theorem Tw{a:AV}:qab a (b0 (as,δ))=b0 (a::as,δ):=rfl
def qao(j:Nat)(r:Option cM)(δ:Ev)(fs:TD):Option (List AV×Ev):=r.bind λ_=>qab (.o j) (fs δ)
@[simp] theorem aO_e:aO j fs δ=qao j (slot δ j) δ fs:=rfl
@[simp] theorem kr:qao j (b0 d) δ fs=qab (.o j) (fs δ):=rfl
noncomputable def qsl:Option Sl->Option cM
 |some (.va d)=>b0 d
 |some (.ow d)=>b0 d
 |_=>b3
@[simp] theorem oA:slot δ j=qsl δ[j]? :=by unfold slot qsl;split<;>simp_all
@[simp] theorem sN:qsl (b0 (.va d))=b0 d:=rfl
@[simp] theorem oY:qsl (b0 (.ow d))=b0 d:=rfl
@[simp] theorem oP:WJ δ []=b0 []:=rfl
@[simp] theorem oC:WJ δ (.d d::as)=(WJ δ as).map λds=>d::ds:=rfl
@[simp] theorem rP:WJ δ (.o j::as)=(slot δ j).bind λd=>(WJ δ as).map λds=>d::ds:=rfl
def Vb(n:Nat)(mF:List Nat)(F:bW)(r:Option (List AV×Ev)):Option (cM×Ev):=r.bind λp=>(WJ p.2 p.1).bind λds=>if ds.length=n/\T1 mF p.1 p.2=b5 then(F ds).bind λq=>if UW mF p.1 q.1 q.2=b5 then b0 (q.1,VE p.1 mF q.2 p.2)else b3 else b3
def qCb(n:Nat)(mF:List Nat)(F:bW)(as:List AV)(δ:Ev)(r:Option (List cM)):Option (cM×Ev):=r.bind λds=>if ds.length=n/\T1 mF as δ=b5 then(F ds).bind λq=>if UW mF as q.1 q.2=b5 then b0 (q.1,VE as mF q.2 δ)else b3 else b3
def qCc(mF:List Nat)(as:List AV)(δ:Ev)(r:Option (cM×List cM)):Option (cM×Ev):=r.bind λq=>if UW mF as q.1 q.2=b5 then b0 (q.1,VE as mF q.2 δ)else b3
@[simp] theorem MI:cA n mF F fs δ=Vb n mF F (fs δ):=rfl
@[simp] theorem lB:Vb n mF F (b0 (as,δ))=qCb n mF F as δ (WJ δ as):=rfl
@[simp] theorem Yb:qCb n mF F as δ (b0 ds)=if ds.length=n/\T1 mF as δ=b5 then qCc mF as δ (F ds)else b3:=rfl
@[simp] theorem kK{os:List cM}:qCc mF as δ (b0 (d,os))=if UW mF as d os=b5 then b0 (d,VE as mF os δ)else b3:=rfl
@[simp] theorem si:AW δ as i=(match as[i]? with
 |some (.o j)=>match δ[j]? with
  |some (.ow _)=>b5
  |_=>ba
 |_=>ba):=rfl
@[simp] theorem rM:VO []=[]:=rfl
@[simp] theorem sB:VO (.d d::as)=VO as:=rfl
@[simp] theorem tI:VO (.o j::as)=j::VO as:=rfl
@[simp] theorem oN:T1 mF as δ=(mF.all (AW δ as)&&decide (VO as).Nodup):=rfl
@[simp] theorem pH:XF mF [] i=b5:=rfl
@[simp] theorem nv:XF mF (.d d::as) i=XF mF as (i+1):=rfl
@[simp] theorem rh:XF mF (.o j::as) i=(decide (i∈mF)&&XF mF as (i+1)):=rfl
@[simp] theorem tO{os:List cM}:UW mF as d os=((XF mF as 0 || d.hard)&&(XF mF as 0 || os.all SI)&&decide (mF.length=os.length)):=rfl
@[simp] theorem nX{os:List cM}:VE as [] os δ=δ:=by cases os<;>rfl
@[simp] theorem rT{os:List cM}{is:List Nat}:VE as (i::is) (d::os) δ=(match as[i]? with
  |some (.o j)=>VE as is os (δ.set j (.ow d))
  |_=>VE as is os δ):=rfl
@[simp] theorem rN:dflt F d ds=F (ds++[d]):=rfl
noncomputable def qins(r:Option (cM×List cM)):Option (cM×List cM):=r.map λq=>(q.1,q.2.dropLast)
@[simp] theorem tu:insD i F ds=qins (F (ds.take i++ .dct [] []::ds.drop i)):=rfl
@[simp] theorem sK{os:List cM}:qins (b0 (d,os))=b0 (d,os.dropLast):=rfl
def qH(n:Nat)(mF:List Nat)(tb:List (Si×bW))(fs:TD)(δ:Ev):Option Sl->Option (cM×Ev)
 |some (.va (.fn x))=>(U9 tb x).bind λF=>cA n mF F fs δ
 |_=>b3
@[simp] theorem pj{tb:List (Si×bW)}:KW n mF tb i fs δ=qH n mF tb fs δ δ[i]? :=by unfold KW qH;split<;>simp_all
@[simp] theorem qH_s{tb:List (Si×bW)}{x:Si}:qH n mF tb fs δ (b0 (.va (.fn x)))=(U9 tb x).bind λF=>cA n mF F fs δ:=rfl
@[simp] theorem nu:pNo δ=b0 (b3,δ):=rfl
noncomputable def qpS:Option (cM×Ev)->Option (Option Int×Ev)
 |some (.int i,δ)=>b0 (b0 i,δ)
 |_=>b3
@[simp] theorem oZ:A3 fa δ=qpS (fa δ):=by
 unfold A3 qpS;cases fa δ with
 |none=>rfl
 |some p=>
  obtain⟨d,e⟩:=p;cases d<;>rfl
@[simp] theorem tM{i:Int}:qpS (b0 (.int i,δ))=b0 (b0 i,δ):=rfl
def qSl(r:Option (cM×Ev))(a b:VP):Option (cM×Ev):=r.bind λp=>(a p.2).bind λl=>(b l.2).bind λu=>(oSl p.1 l.1 u.1).map λc=>(c,u.2)
def qSlb(x:cM)(r:Option (Option Int×Ev))(a:VP):Option (cM×Ev):=r.bind λl=>(a l.2).bind λu=>(oSl x l.1 u.1).map λc=>(c,u.2)
def qSlc(x:cM)(l:Option Int)(r:Option (Option Int×Ev)):Option (cM×Ev):=r.bind λu=>q0 (oSl x l u.1) u.2
@[simp] theorem sF{a b:VP}:AF fa a b δ=qSl (fa δ) a b:=rfl
@[simp] theorem pU{a b:VP}:qSl (b0 (x,δ)) a b=qSlb x (a δ) b:=rfl
@[simp] theorem tz{l:Option Int}{a:VP}:qSlb x (b0 (l,δ)) a=qSlc x l (a δ):=rfl
@[simp] theorem rC{l u:Option Int}:qSlc x l (b0 (u,δ))=q0 (oSl x l u) δ:=rfl
@[simp] theorem qP{l u:Option Int}:oSl (.tup ds) l u=b0 (.tup (T2 ds l u)):=rfl
noncomputable def qSt(i j:Nat):Option (cM×Ev)->Option Ou
 |some (.tup (d::ds),δ)=>b0 (.nx ((δ.set i (.va d)).set j (.va (.lst ds))))
 |_=>b3
@[simp] theorem qU:JQ i j fa δ=qSt i j (fa δ):=by
 unfold JQ qSt;cases fa δ with
 |none=>rfl
 |some p=>
  obtain⟨d,e⟩:=p;cases d with
  |tup ds=>cases ds<;>rfl
  |_=>rfl
@[simp] theorem qr:qSt i j (b0 (.tup (d::ds),δ))=b0 (.nx ((δ.set i (.va d)).set j (.va (.lst ds)))):=rfl
def qDg(i:Nat)(r:Option (List aS×List cM))(δ:Ev)(fk a:VF):Option (cM×Ev):=r.bind λ_=>(fk δ).bind λp=>(a p.2).bind λq=>(WC p.1).bind λk=>(WL q.2 i).map λz=>((bA z.1 z.2 k).getD q.1,q.2)
def qDgb(i:Nat)(r:Option (cM×Ev))(a:VF):Option (cM×Ev):=r.bind λp=>(a p.2).bind λq=>(WC p.1).bind λk=>(WL q.2 i).map λz=>((bA z.1 z.2 k).getD q.1,q.2)
def qDgc(i:Nat)(x:cM)(r:Option (cM×Ev)):Option (cM×Ev):=r.bind λq=>(WC x).bind λk=>(WL q.2 i).map λz=>((bA z.1 z.2 k).getD q.1,q.2)
@[simp] theorem rH:G5 i fa fb δ=qDg i (WL δ i) δ fa fb:=rfl
@[simp] theorem qR{z:List aS×List cM}:qDg i (b0 z) δ fa fb=qDgb i (fa δ) fb:=rfl
@[simp] theorem oE:qDgb i (b0 (x,δ)) fb=qDgc i x (fb δ):=rfl
@[simp] theorem sJ:qDgc i x (b0 (y,δ))=(WC x).bind λk=>(WL δ i).map λz=>((bA z.1 z.2 k).getD y,δ):=rfl
def qDp(i:Nat)(r:Option (cM×Ev))(fk:VF):Option Ou:=r.bind λp=>(WL p.2 i).bind λ_=>(fk p.2).bind λq=>(WC q.1).bind λk=>(WL q.2 i).bind λz=>if z.1.length<16777216/\z.1.Nodup then b0 (.nx (q.2.set i (.ow (let r:=YA z.1 z.2 k p.1;.dct r.1 r.2))))else b3
def qDpb(i:Nat)(x:cM)(r:Option (List aS×List cM))(δ:Ev)(fk:VF):Option Ou:=r.bind λ_=>(fk δ).bind λq=>(WC q.1).bind λk=>(WL q.2 i).bind λz=>if z.1.length<16777216/\z.1.Nodup then b0 (.nx (q.2.set i (.ow (let r:=YA z.1 z.2 k x;.dct r.1 r.2))))else b3
def qDpc(i:Nat)(x:cM)(r:Option (cM×Ev)):Option Ou:=r.bind λq=>(WC q.1).bind λk=>(WL q.2 i).bind λz=>if z.1.length<16777216/\z.1.Nodup then b0 (.nx (q.2.set i (.ow (.dct (YA z.1 z.2 k x).1 (YA z.1 z.2 k x).2))))else b3
@[simp] theorem tF{fk fv:VF}:LU i fk fv δ=qDp i (fv δ) fk:=rfl
@[simp] theorem oF{fk:VF}:qDp i (b0 (x,δ)) fk=qDpb i x (WL δ i) δ fk:=rfl
@[simp] theorem mY{z:List aS×List cM}{fk:VF}:qDpb i x (b0 z) δ fk=qDpc i x (fk δ):=rfl
@[simp] theorem o6:qDpc i x (b0 (y,δ))=(WC y).bind λk=>(WL δ i).bind λz=>if z.1.length<16777216/\z.1.Nodup then b0 (.nx (δ.set i (.ow (.dct (YA z.1 z.2 k x).1 (YA z.1 z.2 k x).2))))else b3:=rfl
@[simp] theorem og{i:Int}:WC (.int i)=b0 (.inl i):=rfl
@[simp] theorem nG{s:Si}:WC (.str s)=b0 (.inr s):=rfl
def qPc(r:Option (cM×Ev))(fv:VF)(fs:DZ):Option (List (aS×cM)×Ev):=r.bind λp=>(WC p.1).bind λk=>(fv p.2).bind λq=>(fs q.2).map λr=>((k,q.1)::r.1,r.2)
noncomputable def qPcb(k:Option aS)(δ:Ev)(fv:VF)(fs:DZ):Option (List (aS×cM)×Ev):=k.bind λk=>(fv δ).bind λq=>(fs q.2).map λr=>((k,q.1)::r.1,r.2)
noncomputable def qPcc(k:aS)(r:Option (cM×Ev))(fs:DZ):Option (List (aS×cM)×Ev):=r.bind λq=>(fs q.2).map λr=>((k,q.1)::r.1,r.2)
noncomputable def qPcd(k:aS)(x:cM)(r:Option (List (aS×cM)×Ev)):Option (List (aS×cM)×Ev):=r.map λr=>((k,x)::r.1,r.2)
@[simp] theorem ny:Tf δ=b0 ([],δ):=rfl
@[simp] theorem nI{fs:DZ}:N4 fa fb fs δ=qPc (fa δ) fb fs:=rfl
@[simp] theorem qv{fs:DZ}:qPc (b0 (x,δ)) fb fs=qPcb (WC x) δ fb fs:=rfl
@[simp] theorem r9{k:aS}{fs:DZ}:qPcb (b0 k) δ fb fs=qPcc k (fb δ) fs:=rfl
@[simp] theorem sr{k:aS}{fs:DZ}:qPcc k (b0 (x,δ)) fs=qPcd k x (fs δ):=rfl
@[simp] theorem pO{k:aS}{a:List (aS×cM)}:qPcd k x (b0 (a,δ))=b0 ((k,x)::a,δ):=rfl
noncomputable def qD(r:Option (List (aS×cM)×Ev)):Option (cM×Ev):=r.bind λp=>if(p.1.map Cg).Nodup/\p.1.length<=15 then b0 (.dct (p.1.map Cg) (p.1.map Dd),p.2)else b3
@[simp] theorem pf{fs:DZ}:AE fs δ=qD (fs δ):=rfl
@[simp] theorem qD_s{a:List (aS×cM)}:qD (b0 (a,δ))=if(a.map Cg).Nodup/\a.length<=15 then b0 (.dct (a.map Cg) (a.map Dd),δ)else b3:=rfl
noncomputable def qLr(r:Option (cM×Ev))(fb fc:VF):Option (cM×Ev):=r.bind λp=>(fb p.2).bind λq=>(fc q.2).bind λr=>match p.1,q.1,r.1 with
 |.int i,.int j,.int k=>if(0<k/\k<1073741824)/\W1 i j k<9223372036854775808 then b0 (.int (W1 i j k),r.2)else b3
 |_,_,_=>b3
def qLrb(x:cM)(r:Option (cM×Ev))(fc:VF):Option (cM×Ev):=qLr (b0 (x,[])) (λ_=>r) fc
def qLrc(x y:cM)(r:Option (cM×Ev)):Option (cM×Ev):=qLr (b0 (x,[])) (λ_=>b0 (y,[])) (λ_=>r)
@[simp] theorem rR:G6 fa fb fc δ=qLr (fa δ) fb fc:=rfl
@[simp] theorem tJ:qLr (b0 (x,δ)) fb fc=qLrb x (fb δ) fc:=rfl
@[simp] theorem qp:qLrb x (b0 (y,δ)) fc=qLrc x y (fc δ):=rfl
@[simp] theorem qm{i j k:Int}:qLrc (.int i) (.int j) (b0 (.int k,δ))=if(0<k/\k<1073741824)/\W1 i j k<9223372036854775808 then b0 (.int (W1 i j k),δ)else b3:=rfl
def qRun(ml:List Nat):Option Ou->Option (cM×List cM)
 |some (.rt d δ)=>(SR ml δ).map λos=>(d,os)
 |some (.nx δ)=>(SR ml δ).map λos=>(.non,os)
 |_=>b3
def b6{ml:List Nat}:aT n ml g ds=qRun ml (g (bV ml n ds)):=by
 unfold aT qRun;cases g (bV ml n ds)with
 |none=>rfl
 |some o=>cases o<;>rfl
@[simp] theorem nS{ml:List Nat}:qRun ml (b0 (.rt d δ))=(SR ml δ).map λos=>(d,os):=rfl
@[simp] theorem pD{ml:List Nat}:qRun ml (b0 (.nx δ))=(SR ml δ).map λos=>(.non,os):=rfl
def qow:Option Sl->Option cM
 |some (.ow d)=>b0 d
 |_=>b3
@[simp] theorem nk:SR [] δ=b0 []:=rfl
@[simp] theorem sI{ml:List Nat}:SR (i::ml) δ=(qow δ[i]?).bind λd=>(SR ml δ).map λos=>d::os:=by
 unfold SR;rw[Qr];cases h:(δ[i]? :Option Sl)with
 |none=>rfl
 | some s => cases s with
  |no=>rfl
  |va d=>rfl
  |ow d=>
   show(Option.bind _ λos=>b0 (d::os))=Option.map (λos=>d::os) _;cases (List.mapM _ ml:Option (List cM))<;>rfl
@[simp] theorem sL:qow (b0 (.ow d))=b0 d:=rfl
end
section
variable{i j:Int}{x y:Si}{ds es:List cM}
@[simp] theorem oI_e{C:Int->Int->Bool}{g:Int->Int->cM}:oI C g (.int i) (.int j)=if C i j=b5 then b0 (g i j)else b3:=rfl
@[simp] theorem nN:aV (.int i) (.int j)=b0 (.int (i+j)):=rfl
@[simp] theorem sw:aV (.tup ds) (.tup es)=if ds.length+es.length<=16777216 then b0 (.tup (ds++es))else b3:=rfl
@[simp] theorem tR:aV (.lst ds) (.lst es)=if ds.length+es.length<=16777216 then b0 (.lst (ds++es))else b3:=rfl
@[simp] theorem nB{g:Int->Int->Int}:o2I g (.int i) (.int j)=b0 (.int (g i j)):=rfl
@[simp] theorem rp:YU (.tup ds)=b0 (.int ds.length):=rfl
@[simp] theorem rq:YU (.lst ds)=b0 (.int ds.length):=rfl
@[simp] theorem sA:NB (.lst ds)=b0 (.lst ds):=rfl
@[simp] theorem pP:SO (.lst ds)=b0 (.tup ds):=rfl
@[simp] theorem p9:bX (.tup ds) (.int i)=VC ds i:=rfl
@[simp] theorem Vo:bX (.lst ds) (.int i)=VC ds i:=rfl
@[simp] theorem dZ{ks:List aS}:bX (.dct ks ds) (.int i)=bA ks ds (.inl i):=rfl
@[simp] theorem sV{ks:List aS}:bX (.dct ks ds) (.str x)=bA ks ds (.inr x):=rfl
@[simp] theorem nR:GF (.int i)=b5:=rfl
@[simp] theorem tN:NV "int" "bool"=b0 ba:=by decide+kernel
@[simp] theorem tK:NV "int" "int"=b0 b5:=by decide+kernel
@[simp] theorem sS:NV "tuple" "tuple"=b0 b5:=by decide+kernel
@[simp] theorem qC:NV "str" "str"=b0 b5:=by decide+kernel
@[simp] theorem rL:NV "list" "list"=b0 b5:=by decide+kernel
@[simp] theorem qN{n:String}:TF (.int i) (.ty n)=(NV "int" n).map cM.bl:=rfl
@[simp] theorem pF{n:String}:TF (.tup ds) (.ty n)=(NV "tuple" n).map cM.bl:=rfl
@[simp] theorem tL{n:String}:TF (.lst ds) (.ty n)=(NV "list" n).map cM.bl:=rfl
@[simp] theorem q8{n:String}:TF (.str x) (.ty n)=(NV "str" n).map cM.bl:=rfl
@[simp] theorem pR:LC .non .non=b0 (.bl b5):=rfl
@[simp] theorem pJ:LC (.int i) .non=b0 (.bl ba):=rfl
@[simp] theorem rE:LC (.tup ds) .non=b0 (.bl ba):=rfl
@[simp] theorem tG:UK .non .non=b0 (.bl ba):=rfl
@[simp] theorem nF:UK (.int i) .non=b0 (.bl b5):=rfl
@[simp] theorem nW:UK (.str x) .non=b0 (.bl b5):=rfl
@[simp] theorem rn:UK (.tup ds) .non=b0 (.bl b5):=rfl
end
section
variable{d x:cM}{δ δ1:Ev}{r acc:List cM}{gg:VG}{tb:VB}{fe:VF}{n nl:Nat}{g:VS}
def qk1(n nl:Nat)(gg:VG)(tb:VB)(fe:VF)(r acc:List cM)(o:Option Ev):Option (List cM×Ev):=o.bind λδ1=>(tb δ1).bind λp=>if p.1=b5 then(fe p.2).bind λq=>if acc.length<16777216 then ZK n nl gg tb fe r (acc++[q.1]) (q.2.take n)else b3 else ZK n nl gg tb fe r acc (p.2.take n)
def qk2(n nl:Nat)(gg:VG)(tb:VB)(fe:VF)(r acc:List cM)(o:Option (Bool×Ev)):Option (List cM×Ev):=o.bind λp=>if p.1=b5 then(fe p.2).bind λq=>if acc.length<16777216 then ZK n nl gg tb fe r (acc++[q.1]) (q.2.take n)else b3 else ZK n nl gg tb fe r acc (p.2.take n)
def qk3(n nl:Nat)(gg:VG)(tb:VB)(fe:VF)(r acc:List cM)(o:Option (cM×Ev)):Option (List cM×Ev):=o.bind λq=>if acc.length<16777216 then ZK n nl gg tb fe r (acc++[q.1]) (q.2.take n)else b3
@[simp] theorem sM:ZK n nl gg tb fe [] acc δ=b0 (acc,δ):=rfl
@[simp] theorem Q7:ZK n nl gg tb fe (d::r) acc δ=qk1 n nl gg tb fe r acc (gg d (δ++GD nl)):=rfl
@[simp] theorem JM:qk1 n nl gg tb fe r acc (b0 δ)=qk2 n nl gg tb fe r acc (tb δ):=rfl
@[simp] theorem BD:qk2 n nl gg tb fe r acc (b0 (b5,δ))=qk3 n nl gg tb fe r acc (fe δ):=rfl
@[simp] theorem Uw:qk2 n nl gg tb fe r acc (b0 (ba,δ))=ZK n nl gg tb fe r acc (δ.take n):=rfl
@[simp] theorem BE:qk3 n nl gg tb fe r acc (b0 (x,δ))=if acc.length<16777216 then ZK n nl gg tb fe r (acc++[x]) (δ.take n)else b3:=rfl
def qf1(gg:VG)(g:VS)(r:List cM)(o:Option Ev):Option Ou:=o.bind λδ1=>(g δ1).bind (XE (Y3 gg g r))
def qf2(gg:VG)(g:VS)(r:List cM)(o:Option Ou):Option Ou:=o.bind (XE (Y3 gg g r))
@[simp] theorem Vn:Y3 gg g [] δ=b0 (.nx δ):=rfl
@[simp] theorem YT:Y3 gg g (d::r) δ=qf1 gg g r (gg d δ):=rfl
@[simp] theorem W9:qf1 gg g r (b0 δ)=qf2 gg g r (g δ):=rfl
@[simp] theorem VR:qf2 gg g r (b0 (.nx δ))=Y3 gg g r δ:=rfl
@[simp] theorem so:qf2 gg g r (b0 (.rt d δ))=b0 (.rt d δ):=rfl
@[simp] theorem sy{ss:Ev}:XG [] ss δ=δ:=by cases ss<;>rfl
@[simp] theorem oO{i:Nat}{is:List Nat}{ss:Ev}:XG (i::is) (.ow d::ss) δ=XG is ss (δ.set i (.ow d)):=rfl
@[simp] theorem tj{i:Nat}{is:List Nat}{ss:Ev}:XG (i::is) (.va d::ss) δ=XG is ss δ:=rfl
end
@[simp] theorem AX:GD 1=[.no]:=rfl
@[simp] theorem Xp:GD 2=[.no,.no]:=rfl
@[simp] theorem oJ:X8 0 3=[.int 0,.int 1,.int 2]:=rfl
def WV{α:Type}{xs:List α}{i:Int}(a:0<=i)(h1:i<xs.length):VC xs i=xs[i.toNat]? :=by unfold VC K4;rw[if_pos a,if_pos h1];rfl
def CD{α:Type}{xs:List α}{i:Int}(a:0<=i)(h1:i<xs.length):∃x∈xs,VC xs i=b0 x:=by
 rw[WV a h1];have h:i.toNat<xs.length:=by lia
 exact⟨xs[i.toNat],Gz _,Cm h⟩
section
variable{F:bW}{fa fb fc:VF}{δ:Ev}{x y z d o:cM}{j:Nat}
noncomputable def qcr(δ:Ev):Option (cM×List cM)->Option (cM×Ev)
 |some (d,[])=>b0 (d,δ)
 |_=>b3
@[simp] theorem sH:qcr δ (b0 (d,[]))=b0 (d,δ):=rfl
def CI{n:Nat}{ds:List cM}{as:List AV}(h:WJ δ as=b0 ds)(a:ds.length=n)(b:VO as=[])(c:XF [] as 0=b5):qCb n [] F as δ (b0 ds)=qcr δ (F ds):=by
 have hc:T1 [] as δ=b5:=by simp[b]
 rw[Yb,if_pos ⟨a,hc⟩];cases F ds with
 |none=>rfl
 |some q=>
  obtain⟨r,os⟩:=q;rw[kK];cases os with
  |nil=>simp[c,qcr]
  |cons o os=>simp[qcr]
def qx1(F:bW)(r:Option (cM×Ev)):Option (cM×Ev):=r.bind λp=>qcr p.2 (F [p.1])
@[simp] theorem mT:qx1 F (b0 (x,δ))=qcr δ (F [x]):=rfl
@[simp high] theorem call1:cA 1 [] F (aE fa bR) δ=qx1 F (fa δ):=by
 rw[MI,D0];cases fa δ with
 |none=>rfl
 |some p=>exact CI (as:=[.d p.1]) rfl rfl rfl rfl
def qx2(F:bW)(r:Option (cM×Ev))(fb:VF):Option (cM×Ev):=r.bind λp=>(fb p.2).bind λq=>qcr q.2 (F [p.1,q.1])
def qx2b(F:bW)(x:cM)(r:Option (cM×Ev)):Option (cM×Ev):=r.bind λq=>qcr q.2 (F [x,q.1])
@[simp] theorem kW:qx2 F (b0 (x,δ)) fb=qx2b F x (fb δ):=rfl
@[simp] theorem rJ:qx2b F x (b0 (y,δ))=qcr δ (F [x,y]):=rfl
@[simp high] theorem call2:cA 2 [] F (aE fa (aE fb bR)) δ=qx2 F (fa δ) fb:=by
 rw[MI,D0];cases fa δ with
 |none=>rfl
 |some p=>
  rw[qa_s,D0,kW];cases fb p.2 with
  |none=>rfl
  |some q=>exact CI (as:=[.d p.1,.d q.1]) rfl rfl rfl rfl
def qx3(F:bW)(r:Option (cM×Ev))(fb fc:VF):Option (cM×Ev):=r.bind λp=>(fb p.2).bind λq=>(fc q.2).bind λs=>qcr s.2 (F [p.1,q.1,s.1])
def qx3b(F:bW)(x:cM)(r:Option (cM×Ev))(fc:VF):Option (cM×Ev):=r.bind λq=>(fc q.2).bind λs=>qcr s.2 (F [x,q.1,s.1])
def qx3c(F:bW)(x y:cM)(r:Option (cM×Ev)):Option (cM×Ev):=r.bind λs=>qcr s.2 (F [x,y,s.1])
@[simp] theorem jq:qx3 F (b0 (x,δ)) fb fc=qx3b F x (fb δ) fc:=rfl
@[simp] theorem k9:qx3b F x (b0 (y,δ)) fc=qx3c F x y (fc δ):=rfl
@[simp] theorem pT:qx3c F x y (b0 (z,δ))=qcr δ (F [x,y,z]):=rfl
@[simp high] theorem call3:cA 3 [] F (aE fa (aE fb (aE fc bR))) δ=qx3 F (fa δ) fb fc:=by
 rw[MI,D0];cases fa δ with
 |none=>rfl
 |some p=>
  rw[qa_s,D0,jq];cases fb p.2 with
  |none=>rfl
  |some q=>
   rw[qa_s,D0,k9];cases fc q.2 with
   |none=>rfl
   |some s=>exact CI (as:=[.d p.1,.d q.1,.d s.1]) rfl rfl rfl rfl
noncomputable def qw3(j:Nat)(δ:Ev):Option (cM×List cM)->Option (cM×Ev)
 |some (r,[o])=>b0 (r,δ.set j (.ow o))
 |_=>b3
def qw2(F:bW)(j:Nat)(x y:cM)(δ:Ev):Option Sl->Option (cM×Ev)
 |some (.ow d)=>qw3 j δ (F [x,d,y])
 |_=>b3
def qwb(F:bW)(j:Nat)(x:cM)(r:Option (cM×Ev)):Option (cM×Ev):=r.bind λq=>qw2 F j x q.1 q.2 q.2[j]?
def qwa(F:bW)(j:Nat)(x:cM)(δ:Ev)(fb:VF)(s:Option cM):Option (cM×Ev):=s.bind λ_=>qwb F j x (fb δ)
def qw(F:bW)(j:Nat)(r:Option (cM×Ev))(fb:VF):Option (cM×Ev):=r.bind λp=>qwa F j p.1 p.2 fb (slot p.2 j)
@[simp] theorem nV:qw3 j δ (b0 (x,[o]))=b0 (x,δ.set j (.ow o)):=rfl
@[simp] theorem qW:qw2 F j x y δ (b0 (.ow d))=qw3 j δ (F [x,d,y]):=rfl
@[simp] theorem kG:qwb F j x (b0 (y,δ))=qw2 F j x y δ δ[j]? :=rfl
@[simp] theorem kP:qwa F j x δ fb (b0 d)=qwb F j x (fb δ):=rfl
@[simp] theorem qw_s:qw F j (b0 (x,δ)) fb=qwa F j x δ fb (slot δ j):=rfl
@[simp high] theorem callO:cA 3 [1] F (aE fa (aO j (aE fb bR))) δ=qw F j (fa δ) fb:=by
 rw[MI,D0];cases fa δ with
 |none=>rfl
 |some p=>
  obtain⟨x,δ1⟩:=p;rw[qa_s,aO_e,qw_s];cases h:slot δ1 j with
  |none=>rfl
  |some d0=>
   rw[kr,D0,kP];cases fb δ1 with
   |none=>rfl
   |some q=>
    obtain⟨y,δ2⟩:=q;rw[kG,qa_s,kf,Tw,Tw,Tw,lB];cases h2:δ2[j]? with
    |none=>simp[h2,qsl,qCb,qw2]
    |some s=>
     cases s with
     |no=>simp[h2,qsl,qCb,qw2]
     |va d=>simp[h2,qw2]
     |ow d=>
      simp[h2];cases F [x,d,y]with
      |none=>rfl
      |some r=>
       obtain⟨v,os⟩:=r;cases os with
       |nil=>simp[qw3]
       |cons o os=>
        cases os with
        |nil=>simp
        |cons a os=>simp[qw3]
end
section
variable{δ:Ev}{i j k l:Nat}{d e:cM}{ds es zs:List cM}{sh:List (Option Nat)}{fv fk:VF}{fs:OF}{fg:TD}{F:bW}{n m:Int}{as:List AV}
@[simp] theorem om:MV (b3::sh) (d::ds) 0=b0 d:=rfl
@[simp] theorem pG:K3 (b0 k::sh) ds 0=b0 (ds.take k):=rfl
@[simp] theorem p7:K3 (b3::sh) (d::ds) 1=K3 sh ds 0:=rfl
@[simp] theorem pV:MX (b3::sh) (e::ds) 0 d=d::ds:=rfl
@[simp] theorem rF:O9 (b0 k::sh) ds 0 es=es++ds.drop k:=rfl
@[simp] theorem oK:O9 (b3::sh) (e::ds) 1 es=e::O9 sh ds 0 es:=rfl
def qNv(j:Nat)(δ:Ev):Option Sl->Option (cM×Ev)
 |some (.ow (.nst sh ds))=>(MV sh ds j).map λd=>(d,δ)
 |_=>b3
@[simp] theorem pB:fNv i j δ=qNv j δ δ[i]? :=rfl
@[simp] theorem on:qNv j δ (b0 (.ow (.nst sh ds)))=(MV sh ds j).map λd=>(d,δ):=rfl
def qPt(k:Nat):Option Sl->Option cM
 |some (.ow (.nst sh ds))=>(K3 sh ds k).map cM.lst
 |_=>b3
@[simp] theorem oQ:part δ j k=qPt k δ[j]? :=rfl
@[simp] theorem tT:qPt k (b0 (.ow (.nst sh ds)))=(K3 sh ds k).map cM.lst:=rfl
@[simp] theorem rW:fNl i j δ=(part δ i j).map λd=>(d,δ):=rfl
def qaP(i j:Nat)(r:Option cM)(δ:Ev)(fs:TD):Option (List AV×Ev):=r.bind λ_=>qab (.p i j) (fs δ)
@[simp] theorem aP_e:aP i j fg δ=qaP i j (part δ i j) δ fg:=rfl
@[simp] theorem nE:qaP i j (b0 d) δ fg=qab (.p i j) (fg δ):=rfl
@[simp] theorem nH:WJ δ (.p j k::as)=(part δ j k).bind λd=>(WJ δ as).map λds=>d::ds:=rfl
@[simp] theorem ou:VO (.p j k::as)=j::VO as:=rfl
def qNp(i j:Nat)(r:Option (cM×Ev)):Option Ou:=r.bind λp=>match p.1,p.2[i]? with
 |.int k,b0 (.ow (.nst sh ds))=>(MV sh ds j).map λ_=>.nx (p.2.set i (.ow (.nst sh (MX sh ds j (.int k)))))
 |_,_=>b3
def qNpb(i j:Nat)(n:Int)(δ:Ev):Option Sl->Option Ou
 |some (.ow (.nst sh ds))=>(MV sh ds j).map λ_=>.nx (δ.set i (.ow (.nst sh (MX sh ds j (.int n)))))
 |_=>b3
@[simp] theorem sX:BV i j fv δ=qNp i j (fv δ):=rfl
@[simp] theorem tH:qNp i j (b0 (.int n,δ))=qNpb i j n δ δ[i]? :=by
 unfold qNp qNpb;simp only[Ai];generalize δ[i]?=r;cases r with
 |none=>rfl
 |some s=>
  cases s with
  |ow d=>cases d<;>rfl
  |_=>rfl
@[simp] theorem nJ:qNpb i j n δ (b0 (.ow (.nst sh ds)))=(MV sh ds j).map λ_=>Ou.nx (δ.set i (.ow (.nst sh (MX sh ds j (.int n))))):=rfl
def qNa(i j:Nat)(r:Option (List cM×Ev)):Option Ou:=r.bind λr=>match r.1,r.2[i]? with
 |[d],b0 (.ow (.nst sh ds))=>(K3 sh ds j).bind λzs=>if zs.length<16777216 then b0 (.nx (r.2.set i (.ow (.nst (sh.set j (b0 (zs.length+1))) (O9 sh ds j (zs++[d]))))))else b3
 |_,_=>b3
def qNab(i j:Nat)(d:cM)(δ:Ev):Option Sl->Option Ou
 |some (.ow (.nst sh ds))=>(K3 sh ds j).bind λzs=>if zs.length<16777216 then b0 (.nx (δ.set i (.ow (.nst (sh.set j (b0 (zs.length+1))) (O9 sh ds j (zs++[d]))))))else b3
 |_=>b3
@[simp] theorem pM:BS i j fs δ=(part δ i j).bind λ_=>qNa i j (fs δ):=rfl
@[simp] theorem qy:qNa i j (b0 ([d],δ))=qNab i j d δ δ[i]? :=by
 unfold qNa qNab;simp only[Ai];generalize δ[i]?=r;cases r with
 |none=>rfl
 |some s=>
  cases s with
  |ow d=>cases d<;>rfl
  |_=>rfl
@[simp] theorem qX:qNab i j d δ (b0 (.ow (.nst sh ds)))=(K3 sh ds j).bind λzs=>if zs.length<16777216 then b0 (Ou.nx (δ.set i (.ow (.nst (sh.set j (b0 (zs.length+1))) (O9 sh ds j (zs++[d]))))))else b3:=rfl
def qNq(i j k:Nat)(r:Option (List cM×Ev)):Option Ou:=r.bind λr=>match r.1,r.2[i]? with
 |[.int n,.int d],b0 (.ow (.nst sh ds))=>(MV sh ds j).bind λ_=>if k<r.2.length then b0 (.nx ((r.2.set i (.ow (.nst sh (MX sh ds j (.int n))))).set k (.va (.int d))))else b3
 |_,_=>b3
def qNqb(i j k:Nat)(n m:Int)(δ:Ev):Option Sl->Option Ou
 |some (.ow (.nst sh ds))=>(MV sh ds j).bind λ_=>if k<δ.length then b0 (.nx ((δ.set i (.ow (.nst sh (MX sh ds j (.int n))))).set k (.va (.int m))))else b3
 |_=>b3
@[simp] theorem nQ:BU i j k fs δ=qNq i j k (fs δ):=rfl
@[simp] theorem pA:qNq i j k (b0 ([.int n,.int m],δ))=qNqb i j k n m δ δ[i]? :=by
 unfold qNq qNqb;simp only[Ai];generalize δ[i]?=r;cases r with
 |none=>rfl
 |some s=>
  cases s with
  |ow d=>cases d<;>rfl
  |_=>rfl
@[simp] theorem pk:qNqb i j k n m δ (b0 (.ow (.nst sh ds)))=(MV sh ds j).bind λ_=>if k<δ.length then b0 (Ou.nx ((δ.set i (.ow (.nst sh (MX sh ds j (.int n))))).set k (.va (.int m))))else b3:=rfl
def qNc(i j:Nat)(r:Option (cM×Ev)):Option Ou:=r.bind λr=>match r.1,r.2[i]? with
  |.int k,b0 (.ow (.nst sh ds))=>(K3 sh ds j).bind λzs=>if 0<=k/\k<=zs.length then b0 (.nx (r.2.set i (.ow (.nst (sh.set j (b0 k.toNat)) (O9 sh ds j (zs.take k.toNat))))))else b3
  |_,_=>b3
def qNcb(i j:Nat)(k:Int)(δ:Ev):Option Sl->Option Ou
 |some (.ow (.nst sh ds))=>(K3 sh ds j).bind λzs=>if 0<=k/\k<=zs.length then b0 (.nx (δ.set i (.ow (.nst (sh.set j (b0 k.toNat)) (O9 sh ds j (zs.take k.toNat))))))else b3
 |_=>b3
def Zo(h:fv δ=b0 (.lst [],δ)):JO i j fv fk δ=(part δ i j).bind λ_=>qNc i j (fk δ):=by unfold JO;rw[h];rfl
@[simp] theorem oq:JO i j (ZA bS) fk δ=(part δ i j).bind λ_=>qNc i j (fk δ):=Zo rfl
@[simp] theorem qY:qNc i j (b0 (.int n,δ))=qNcb i j n δ δ[i]? :=by
 unfold qNc qNcb;simp only[Ai];generalize δ[i]?=r;cases r with
 |none=>rfl
 |some s=>
  cases s with
  |ow d=>cases d<;>rfl
  |_=>rfl
@[simp] theorem nU:qNcb i j n δ (b0 (.ow (.nst sh ds)))=(K3 sh ds j).bind λzs=>if 0<=n/\n<=zs.length then b0 (Ou.nx (δ.set i (.ow (.nst (sh.set j (b0 n.toNat)) (O9 sh ds j (zs.take n.toNat))))))else b3:=rfl
@[simp] theorem nq:CW d i F ds=qins (F (ds.take i++d::ds.drop i)):=rfl
end
def ZW:cM:=.int 999
def mo:cM:=.tup [.str "plus",.str "minus",.str "times",.str "least",.str "most",.str "less",.str "over"]
def UX:cM:=.dct [.inr "plus",.inr "minus",.inr "times",.inr "least",.inr "most",.inr "less",.inr "over"] [.fn "plus",.fn "minus",.fn "times",.fn "least",.fn "most",.fn "less",.fn "over"]
def U6:cM:=.int 64
def M5:cM:=.int 40
def OL:cM:=.int 63
def GS:cM:=.tup [.str "row",.str "row"]
def QQ:cM:=.dct [.inr "number",.inr "pick",.inr "load",.inr "take",.inr "store",.inr "put"] [.tup [.str "word"],.tup [.str "row",.str "row",.str "row"],.tup [.str "place"],.tup [.str "place",.str "row",.str "row"],.tup [.str "place",.str "row"],.tup [.str "place",.str "row",.str "row"]]
def WX:cM:=.tup [.str "load",.str "take"]
def ZP:cM:=.tup [.str "store",.str "put"]
def OK:cM:=.int 64
def WW:cM:=.int 20
def M4:cM:=.int 3
def P5:VS:=
   (b8 (YN (D2 (fB (f2 TF (fV 0) (fC (.ty "bool")))) (UG (fB (f2 TF (fV 0) (fC (.ty "int"))))))
   (bK (fC (.bl ba)))
   aI)
   (bK (f3 oLe oLe (fV 1) (fV 0) (fV 2))))
def ZB:bW:=aT 3 [] P5
def CU:VS:=
   (bK (f2 MW (f2 aV (fV 0) (fV 1)) (f2 aV (fC ZW) (fC (.int 1)))))
def GJ:bW:=aT 2 [] CU
def HA:VS:=
   (bK (f2 MW (f2 SM (fV 0) (fV 1)) (f2 aV (fC ZW) (fC (.int 1)))))
def MC:bW:=aT 2 [] HA
def HC:VS:=
   (bK (f2 MW (f2 SN (fV 0) (fV 1)) (f2 aV (fC ZW) (fC (.int 1)))))
def MD:bW:=aT 2 [] HC
def G9:VS:=
   (bK (f2 oMin (fV 0) (fV 1)))
def MB:bW:=aT 2 [] G9
def CS:VS:=
   (bK (f2 oMax (fV 0) (fV 1)))
def GH:bW:=aT 2 [] CS
def CQ:VS:=
   (bK (KH (fB (f2 oLt (fV 0) (fV 1))) (fC (.int 1)) (fC (.int 0))))
def GG:bW:=aT 2 [] CQ
def HB:VS:=
   (bK (KH (fB (f2 X7 (fV 1) (fC (.int 0)))) (fC .non) (f2 LB (fV 0) (fV 1))))
def NG:bW:=aT 2 [] HB
def CT:VS:=
   (bK (KH (fB (f2 QW (fV 0) (fC (.int 0)))) (fV 1) (fV 2)))
def GI:bW:=aT 3 [] CT
def G8:VS:=
   (b8 (YN (fB (f2 X7 (fV 0) (fC (.str "pick"))))
   (bK (cA 3 [] GI (aE (f2 bX (fV 1) (fC (.int 0))) (aE (f2 bX (fV 1) (fC (.int 1))) (aE (f2 bX (fV 1) (fC (.int 2))) bR)))))
   aI)
   (b8 (aK 2 (xV (f2 bX (fC UX) (fV 0))))
   (bK (KW 2 [] [("plus",GJ),("minus",MC),("times",MD),("least",MB),("most",GH),("less",GG),("over",NG)] 2 (aE (f2 bX (fV 1) (fC (.int 0))) (aE (f2 bX (fV 1) (fC (.int 1))) bR))))))
def RT:bW:=aT 3 [] G8
def K1:VS:=
   (b8 (YN (fB (f2 (ZS ba) (fV 0) (fC mo)))
   (bK (fC GS))
   aI)
   (bK (f2 Wu (fC QQ) (fV 0))))
def ZC:bW:=aT 1 [] K1
def OO:VS:=
   (bK (f2 (ZS b5) (f2 bX (fV 0) (fC (.int 0))) (fC ZP)))
def V4:bW:=aT 1 [] OO
def YG:VS:=
   (bK (KH (D2 (fB (f2 (ZS ba) (f2 bX (fV 0) (fC (.int 0))) (fC WX))) (fB (f2 (ZS ba) (f2 bX (fV 0) (fC (.int 0))) (fC ZP)))) (f2 bX (fV 0) (fC (.int 1))) (fC .non)))
def aC:bW:=aT 1 [] YG
def K0:VS:=
   (b8 (JQ 1 2 (fV 0))
   (bK (ZG [] 2 (iZip (cA 1 [] ZC (aE (fV 1) bR)) (fV 2)) (OC 2 (bG (gN 0) (bG (gN 1) Y4))) (fB (f2 X7 (fV 0) (fC (.str "row")))) (fV 1))))
def VL:bW:=aT 3 [] K0
def QC:VS:=
   (bK (NO (cA 3 [] ZB (aE (fV 0) (aE (fC (.int 0)) (aE (f2 SM (f1 YU (fV 1)) (fC (.int 1))) bR)))) (f2 bX (fV 1) (fV 0))))
def VJ:bW:=aT 2 [] QC
def KY:VS:=
   (b8 (YN (fB (f2 X7 (fV 0) (fC (.str "word"))))
   (bK (cA 3 [] ZB (aE (fV 1) (aE (fC (.int 0)) (aE (fC ZW) bR)))))
   aI)
   (b8 (YN (fB (f2 X7 (fV 0) (fC (.str "place"))))
   (bK (cA 3 [] ZB (aE (fV 1) (aE (fC (.int 0)) (aE (fC OL) bR)))))
   aI)
   (bK (cA 2 [] VJ (aE (fV 1) (aE (fV 2) bR))))))
def RU:bW:=aT 3 [] KY
def KZ:VS:=
   (b8 (YN (D2 (UG (fB (f2 TF (fV 0) (fC (.ty "tuple"))))) (fB (f2 X7 (f1 YU (fV 0)) (fC (.int 0)))))
   (bK (fC (.bl ba)))
   aI)
   (b8 (JQ 2 3 (fV 0))
   (b8 (aK 4 (xV (KH (fB (f2 TF (fV 2) (fC (.ty "str")))) (cA 1 [] ZC (aE (fV 2) bR)) (fC .non))))
   (b8 (YN (D2 (fB (f2 LC (fV 4) (fC .non))) (fB (f2 QW (f1 YU (fV 4)) (f1 YU (fV 3)))))
   (bK (fC (.bl ba)))
   aI)
   (bK (f1 oAll (ZG [1] 2 (iZip (fV 4) (fV 3)) (OC 2 (bG (gN 1) (bG (gN 2) Y4))) V6 (cA 3 [] RU (aE (fV 1) (aE (fV 2) (aE (fV 0) bR)))))))))))
def RV:bW:=aT 5 [] KZ
def V7:VS:=
   (b8 (YN (UG (fB (cA 2 [] RV (aE (fV 4) (aO 3 bR)))))
   (bK (fC (.bl ba)))
   aI)
   (VT 3 UJ (cG (cA 1 [] V4 (aE (fV 4) bR)) bS)))
def P2:VS:=
   (b8 (YN (D2 (UG (fB (f2 TF (fV 0) (fC (.ty "tuple"))))) (fB (f2 QW (f1 YU (fV 0)) (fC (.int 2)))))
   (bK (fC (.bl ba)))
   aI)
   (b8 (LS (fV 0) (OC 2 (bG (gN 1) (bG (gN 2) Y4))))
   (b8 (YN (UG (fB (cA 3 [] ZB (aE (fV 1) (aE (fC (.int 0)) (aE (fC U6) bR))))))
   (bK (fC (.bl ba)))
   aI)
   (b8 (YN (D2 (UG (fB (f2 TF (fV 2) (fC (.ty "tuple"))))) (fB (f2 oGt (f1 YU (fV 2)) (fC M5))))
   (bK (fC (.bl ba)))
   aI)
   (b8 (aK 3 (xO (ZA bS)))
   (b8 (QX (WB (fV 2)) (gN 4)
   V7)
   (bK (fC (.bl b5)))))))))
def TR:bW:=aT 5 [] P2
def P4:VS:=
   (b8 (YN (D2 (UG (fB (f2 TF (fV 0) (fC (.ty "list"))))) (UG (fB (f3 oLe oLe (fV 1) (f1 YU (fV 0)) (fC OK)))))
   (bK (fC (.bl ba)))
   aI)
   (bK (f1 oAll (ZG [] 1 (WB (fV 0)) (gN 0) V6 (cA 3 [] ZB (aE (fV 0) (aE (fC (.int 0)) (aE (fC ZW) bR))))))))
def VH:bW:=aT 2 [] P4
def RB:VS:=
   (b8 (YN (fB (f2 X7 (fV 0) (fC (.str "take"))))
   (bK (f2 QW (f2 bX (fV 1) (fC (.int 0))) (fC (.int 0))))
   aI)
   (b8 (YN (fB (f2 X7 (fV 0) (fC (.str "put"))))
   (bK (f2 QW (f2 bX (fV 1) (fC (.int 1))) (fC (.int 0))))
   aI)
   (bK (fC (.bl b5)))))
def XS:bW:=aT 2 [] RB
def aF:VS:=
   (b8 (YN (UG (fB (cA 2 [] XS (aE (fV 0) (aE (fV 2) bR)))))
   (bK (aJ (cG (KH (fB (f2 X7 (fV 0) (fC (.str "take")))) (f2 bX (fV 2) (fC (.int 1))) (fC .non)) (cG (fC .non) bS))))
   aI)
   (b8 (YN (fB (f2 oGe (fV 1) (f1 YU (fO 3))))
   (bK (aJ (cG (fC .non) (cG (fC (.str "beyond")) bS))))
   aI)
   (b8 (YN (fB (f2 (ZS ba) (fV 0) (fC ZP)))
   (b8 (FQ 3 (fV 1) (f2 bX (fV 2) (fC (.int 0))))
   (bK (aJ (cG (fC .non) (cG (fC .non) bS)))))
   aI)
   (bK (aJ (cG (f2 bX (fO 3) (fV 1)) (cG (fC .non) bS)))))))
def aM:bW:=aT 4 [3] aF
def R6:VS:=
   (b8 (aK 4 (xV (f2 bX (fV 0) (fC (.int 0)))))
   (b8 (YN (fB (f2 X7 (fV 4) (fC (.str "number"))))
   (bK (aJ (cG (f2 bX (fV 0) (fC (.int 1))) (cG (fC .non) bS))))
   aI)
   (b8 (aK 5 (xV (cA 1 [] aC (aE (fV 0) bR))))
   (b8 (YN (fB (f2 UK (fV 5) (fC .non)))
   (bK (cA 4 [3] aM (aE (fV 4) (aE (f2 aV (fV 5) (fV 3)) (aE (fV 1) (aO 2 bR))))))
   aI)
   (b8 (aK 6 (xV (cA 2 [] RT (aE (fV 4) (aE (fV 1) bR)))))
   (bK (aJ (cG (fV 6) (cG (KH (fB (f2 LC (fV 6) (fC .non))) (fC (.str "nought")) (fC .non)) bS)))))))))
def X1:bW:=aT 7 [2] R6
def U4:VS:=
   (b8 (LS (cA 3 [2] (dflt X1 (.int 0)) (aE (fV 4) (aE (ZG [2] 1 (WB (cA 1 [] VL (aE (fV 4) bR))) (gN 1) V6 (f2 bX (fO 0) (fV 1))) (aO 1 bR)))) (OC 2 (bG (gN 5) (bG (gN 6) Y4))))
   (b8 (YN (fB (f2 UK (fV 6) (fC .non)))
   (bK (aJ (cG (fO 2) (cG (aJ (cG (fV 3) (cG (fV 6) bS))) bS))))
   aI)
   (VT 2 UJ (cG (fV 5) bS))))
def NP:VS:=
   (b8 (aK 2 (xO (ZA bS)))
   (b8 (QX (OQ (fV 0)) (OC 2 (bG (gN 3) (bG (gN 4) Y4)))
   U4)
   (bK (aJ (cG (fO 2) (cG (fC .non) bS))))))
def Q0:bW:=aT 7 [1] NP
def R0:VS:=
   (b8 (YN (UG (fB (cA 1 [] TR (aE (fV 0) bR))))
   (λ_=>b3)
   aI)
   (YN (UG (fB (cA 2 [] VH (aE (fV 1) (aE (f2 bX (fV 0) (fC (.int 0))) bR)))))
   (λ_=>b3)
   aI))
def U2:bW:=aT 2 [] R0
def Tn:VS:=
   (b8 (BQ (cA 2 [] U2 (aE (fV 0) (aE (fV 1) bR))))
   (b8 (aK 2 (xO (f1 NB (fV 1))))
   (b8 (LS (cA 2 [1] Q0 (aE (f2 bX (fV 0) (fC (.int 1))) (aO 2 bR))) (OC 2 (bG (gN 3) (bG (gN 4) Y4))))
   (bK (aJ (cG (fO 2) (cG (fV 4) bS)))))))
def Tb:bW:=aT 5 [] Tn
def AI:VS:=
   (b8 (YN (D2 (UG (fB (f2 TF (fV 0) (fC (.ty "tuple"))))) (fB (f2 QW (f1 YU (fV 0)) (fC (.int 4)))))
   (bK (fC (.bl ba)))
   aI)
   (bK (NO (f2 TF (f2 bX (fV 0) (fC (.int 0))) (fC (.ty "str"))) (f2 X7 (f2 bX (fV 0) (fC (.int 0))) (fC (.str "if"))))))
def MA:bW:=aT 1 [] AI
def X6(R:bW):VS:=
   (b8 (aK 5 (xV (cA 3 [] R (aE (fV 4) (aE (fV 3) (aE (f2 aV (fV 2) (fC (.int 1))) bR))))))
   (b8 (YN (fB (f2 LC (fV 5) (fC .non)))
   (bK (fC .non))
   aI)
   (aK 3 (xV (f2 aV (fV 3) (f2 AZ (ZA (cG (fC (.bl ba)) bS)) (f2 SM (f1 YU (fV 5)) (f1 YU (fV 3)))))))))
def XI(R:bW):VS:=
   (b8 (YN (D2 (fB (f2 X7 (fV 2) (fC M4))) (UG (fB (cA 2 [] VJ (aE (f2 bX (fV 0) (fC (.int 1))) (aE (fV 1) bR))))))
   (bK (fC .non))
   aI)
   (b8 (aK 3 (xV (f2 aV (fV 1) (ZA (cG (fC (.bl ba)) bS)))))
   (b8 (QX (WB (AF (fV 0) (A3 (fC (.int 2))) pNo)) (gN 4)
   (X6 R))
   (bK (fV 3)))))
def YQ(R:bW):bW:=aT 6 [] (XI R)
def Z1(R:bW):VS:=
   (b8 (YN (fB (cA 1 [] MA (aE (fV 4) bR)))
   (aK 3 (xV (cA 3 [] (YQ R) (aE (fV 4) (aE (fV 3) (aE (fV 2) bR))))))
   (YN (fB (cA 2 [] RV (aE (fV 4) (aE (fV 3) bR))))
   (aK 3 (xV (f2 aV (fV 3) (ZA (cG (cA 1 [] V4 (aE (fV 4) bR)) bS)))))
   (bK (fC .non))))
   (YN (D2 (fB (f2 LC (fV 3) (fC .non))) (fB (f2 oGt (f1 YU (fV 3)) (fC WW))))
   (bK (fC .non))
   aI))
def YH(R:bW):VS:=
   (b8 (YN (UG (fB (f2 TF (fV 0) (fC (.ty "tuple")))))
   (bK (fC .non))
   aI)
   (b8 (aK 3 (xV (fV 1)))
   (b8 (QX (WB (fV 0)) (gN 4)
   (Z1 R))
   (bK (fV 3)))))
def aN:Nat->bW:=recV λR=>aT 5 [] (YH R)
def NR:VS:=
   (b8 (YN (D2 (UG (fB (f2 TF (fV 0) (fC (.ty "tuple"))))) (fB (f2 QW (f1 YU (fV 0)) (fC (.int 2)))))
   (bK (fC (.bl ba)))
   aI)
   (bK (NO (cA 3 [] ZB (aE (f2 bX (fV 0) (fC (.int 0))) (aE (fC (.int 0)) (aE (fC U6) bR)))) (f2 UK (cA 3 [] (aN 8) (aE (f2 bX (fV 0) (fC (.int 1))) (aE (ZA bS) (aE (fC (.int 0)) bR)))) (fC .non)))))
def Q2:bW:=aT 1 [] NR
def XV(R:bW):VS:=
   (b8 (VT 2 UJ (cG (aJ (cG (fV 3) (cG (fV 1) bS))) bS))
   (YN (fB (f2 X7 (f2 bX (fV 3) (fC (.int 0))) (fC (.str "if"))))
   (b8 (VT 2 mExt (cG (cA 2 [] R (aE (f2 bX (fV 3) (fC (.int 2))) (aE (f2 aV (fV 1) (aJ (cG (aJ (cG (f2 bX (fV 3) (fC (.int 1))) (cG (fC (.bl b5)) bS))) bS))) bR))) bS))
   (VT 2 mExt (cG (cA 2 [] R (aE (f2 bX (fV 3) (fC (.int 3))) (aE (f2 aV (fV 1) (aJ (cG (aJ (cG (f2 bX (fV 3) (fC (.int 1))) (cG (fC (.bl ba)) bS))) bS))) bR))) bS)))
   aI))
def SA(R:bW):VS:=
   (b8 (aK 2 (xO (ZA bS)))
   (b8 (QX (WB (fV 0)) (gN 3)
   (XV R))
   (bK (fO 2))))
def X2:Nat->bW:=recV λR=>aT 4 [] (SA R)
def aQ:VS:=
   (b8 (LS (aJ (cG (fC .non) (cG (fC .non) bS))) (OC 2 (bG (gN 6) (bG (gN 7) Y4))))
   (b8 (YN (UF (fB (f2 QW (f2 bX (fV 4) (fC (.int 0))) (fC (.str "if")))) (fB (f1 oAll (ZG [2] 2 (WB (fV 5)) (OC 2 (bG (gN 1) (bG (gN 2) Y4))) V6 (f2 X7 (f2 QW (f2 bX (fO 0) (fV 1)) (fC (.int 0))) (fV 2))))))
   (LS (cA 3 [2] (dflt X1 (.int 0)) (aE (fV 4) (aE (ZG [2] 1 (WB (cA 1 [] VL (aE (fV 4) bR))) (gN 1) V6 (f2 bX (fO 0) (fV 1))) (aO 1 bR)))) (OC 2 (bG (gN 6) (bG (gN 7) Y4))))
   aI)
   (b8 (YN (fB (f2 UK (fV 7) (fC .non)))
   (bK (aJ (cG (fV 3) (cG (fV 7) bS))))
   aI)
   (VT 2 UJ (cG (fV 6) bS)))))
def NQ:VS:=
   (b8 (aK 2 (xO (ZA bS)))
   (b8 (QX (OQ (cA 2 [] (X2 8) (aE (fV 0) (aE (aJ bS) bR)))) (OC 2 (bG (gN 3) (bG (OC 2 (bG (gN 4) (bG (gN 5) Y4))) Y4)))
   aQ)
   (bK (fC .non))))
def Q1:bW:=aT 8 [1] NQ
def QD:VS:=
   (b8 (YN (UG (fB (cA 1 [] Q2 (aE (fV 0) bR))))
   (λ_=>b3)
   aI)
   (b8 (YN (UG (fB (cA 2 [] VH (aE (fV 1) (aE (f2 bX (fV 0) (fC (.int 0))) bR)))))
   (λ_=>b3)
   aI)
   (b8 (aK 2 (xO (f1 NB (fV 1))))
   (b8 (aK 3 (xV (cA 2 [1] Q1 (aE (f2 bX (fV 0) (fC (.int 1))) (aO 2 bR)))))
   (bK (aJ (cG (fO 2) (cG (fV 3) bS))))))))
def VM:bW:=aT 4 [] QD
def TK:VS:=
   (aK 2 (xV (f2 LB (fV 2) (fC (.int 1000003)))))
def UZ:VS:=
   (b8 (YN (fB (f2 oLt (fV 1) (f1 YU (fV 0))))
   (bK (f2 bX (fV 0) (fV 1)))
   aI)
   (b8 (YN (fB (f2 X7 (fV 0) (ZA bS)))
   (bK (fC (.int 0)))
   aI)
   (b8 (aK 2 (xV (f2 bX (fV 0) (f2 MW (fV 1) (f1 YU (fV 0))))))
   (b8 (QX (iR1 (f2 oMin (f2 LB (fV 1) (f1 YU (fV 0))) (fC (.int 60)))) (gN 3)
   TK)
   (bK (f2 aV (f2 aV (f2 SN (f2 bX (fV 0) (f2 MW (fV 1) (f1 YU (fV 0)))) (fC (.int 31))) (fV 1)) (f2 SN (fV 2) (fC (.int 101)))))))))
def YW:bW:=aT 4 [] UZ
def R8:VS:=
   (b8 (aK 3 (xV (f2 MW (f2 aV (f2 aV (f2 SN (cA 2 [] YW (aE (fV 0) (aE (fV 1) bR))) (fC (.int 1103515245))) (f2 SN (fC (.int 7919)) (fV 1))) (fC (.int 12345))) (fC (.int 2147483647)))))
   (bK (f2 MW (f2 MW (f2 MW (f2 oPow (fV 3) (fC (.int 5))) (fC (.int 2147483647))) (fC (.int 999983))) (fV 2))))
def U3:bW:=aT 4 [] R8
def P6:VS:=
   (b8 (VT 1 UJ (cG (fC (.int 0)) bS))
   (bK (cA 3 [] U3 (aE (fV 0) (aE (f1 YU (fO 1)) (aE (fV 2) bR))))))
def bB:bW:=aT 3 [1] P6
def P8:VS:=
   (bK (f2 bX (fV 2) (cA 3 [1] bB (aE (fV 0) (aO 1 (aE (f1 YU (fV 2)) bR))))))
def aB:bW:=aT 3 [1] P8
def R9:VS:=
   (b8 (LU 2 (fV 3) (f2 MW (f2 aV (G5 2 (fV 3) (cA 3 [1] bB (aE (fV 0) (aO 1 (aE (fV 4) bR))))) (cA 3 [1] aB (aE (fV 0) (aO 1 (aE (ZA (cG (fC (.int 1)) (cG (fC (.int 1)) (cG (fC (.int 1)) (cG (fC (.int 0)) (cG (fC (.int 3)) bS)))))) bR))))) (fV 4)))
   (bK (f2 bX (fO 2) (fV 3))))
def ZF:bW:=aT 5 [1,2] R9
def NT:VS:=
   (b8 (aK 5 (xV (cA 3 [1] bB (aE (fV 0) (aO 1 (aE (fC (.int 13)) bR))))))
   (b8 (YN (D2 (fB (f2 X7 (fV 2) (ZA bS))) (fB (f2 X7 (fV 5) (fC (.int 0)))))
   (b8 (YN (fB (f2 X7 (cA 3 [1] bB (aE (fV 0) (aO 1 (aE (fC (.int 2)) bR)))) (fC (.int 0))))
   (bK (aJ (cG (fC (.str "number")) (cG (cA 3 [1] aB (aE (fV 0) (aO 1 (aE (ZA (cG (fC (.int 0)) (cG (fC (.int 1)) (cG (fC (.int 2)) (cG (fC (.int 5)) (cG (fC (.int 999)) (cG (cA 3 [1] bB (aE (fV 0) (aO 1 (aE (fC (.int 1000)) bR)))) bS))))))) bR)))) bS))))
   aI)
   (bK (aJ (cG (fC (.str "load")) (cG (cA 5 [1,2] ZF (aE (fV 0) (aO 1 (aO 3 (aE (fC (.str "load")) (aE (fV 4) bR)))))) bS)))))
   aI)
   (b8 (LS (ZG [0,1,2] 1 (iR1 (fC (.int 3))) (gN 3) V6 (f2 bX (fV 2) (f2 oMax (fC (.int 0)) (f2 SM (f2 SM (f1 YU (fV 2)) (fC (.int 1))) (cA 3 [1] bB (aE (fV 0) (aO 1 (aE (fC (.int 6)) bR)))))))) (OC 3 (bG (gN 6) (bG (gN 7) (bG (gN 8) Y4)))))
   (b8 (YN (fB (f2 (ZS ba) (fV 5) (aJ (cG (fC (.int 1)) (cG (fC (.int 2)) bS)))))
   (bK (aJ (cG (fC (.str "load")) (cG (cA 5 [1,2] ZF (aE (fV 0) (aO 1 (aO 3 (aE (fC (.str "load")) (aE (fV 4) bR)))))) bS))))
   aI)
   (b8 (YN (fB (f2 X7 (fV 5) (fC (.int 3))))
   (bK (aJ (cG (fC (.str "take")) (cG (cA 5 [1,2] ZF (aE (fV 0) (aO 1 (aO 3 (aE (fC (.str "take")) (aE (fV 4) bR)))))) (cG (fV 8) (cG (fV 6) bS))))))
   aI)
   (b8 (YN (fB (f2 (ZS ba) (fV 5) (aJ (cG (fC (.int 4)) (cG (fC (.int 5)) bS)))))
   (bK (aJ (cG (fC (.str "store")) (cG (cA 5 [1,2] ZF (aE (fV 0) (aO 1 (aO 3 (aE (fC (.str "store")) (aE (fV 4) bR)))))) (cG (fV 6) bS)))))
   aI)
   (b8 (YN (fB (f2 X7 (fV 5) (fC (.int 6))))
   (bK (aJ (cG (fC (.str "put")) (cG (cA 5 [1,2] ZF (aE (fV 0) (aO 1 (aO 3 (aE (fC (.str "put")) (aE (fV 4) bR)))))) (cG (fV 6) (cG (fV 8) bS))))))
   aI)
   (b8 (YN (fB (f2 X7 (fV 5) (fC (.int 7))))
   (bK (aJ (cG (fC (.str "pick")) (cG (fV 8) (cG (fV 6) (cG (fV 7) bS))))))
   aI)
   (bK (aJ (cG (f2 bX (ZA (cG (fC (.str "over")) (cG (fC (.str "plus")) (cG (fC (.str "minus")) (cG (fC (.str "times")) (cG (fC (.str "least")) (cG (fC (.str "most")) (cG (fC (.str "less")) bS)))))))) (cA 3 [1] bB (aE (fV 0) (aO 1 (aE (fC (.int 7)) bR))))) (cG (fV 6) (cG (fV 7) bS)))))))))))))
def UE:bW:=aT 9 [1,3] NT
def YB:VS:=
   (b8 (aK 10 (xV (f2 aV (f2 C3 (fV 3) (fV 9)) (cA 3 [1] aB (aE (fV 0) (aO 1 (aE (ZA (cG (fC (.int 1)) (cG (fC (.int 1)) (cG (fC (.int 1)) (cG (fC (.int 1)) (cG (f1 FA (fC (.int 1))) (cG (fC (.int 0)) (cG (fC (.int 2)) bS)))))))) bR)))))))
   (VT 8 UJ (cG (KH (UF (fB (f3 oLe oLt (fC (.int 0)) (fV 10) (f1 YU (fV 3)))) (fB (f2 QW (f2 bX (fV 3) (fV 10)) (f2 SM (f1 YU (fV 2)) (fC (.int 1)))))) (f2 bX (fV 3) (fV 10)) (fV 9)) bS)))
def T5:VS:=
   (b8 (aK 6 (xV (f2 bX (fV 2) (f1 FA (fC (.int 1))))))
   (b8 (aK 7 (xV (KH (fB (f2 (ZS ba) (f2 bX (fV 6) (fC (.int 0))) (aJ (cG (fC (.str "load")) (cG (fC (.str "take")) (cG (fC (.str "store")) (cG (fC (.str "put")) bS))))))) (fC (.int 2)) (fC (.int 1)))))
   (b8 (aK 8 (xO (ZA bS)))
   (b8 (QX (WB (AF (fV 6) (A3 (fV 7)) pNo)) (gN 9)
   YB)
   (b8 (YN (fB (f2 X7 (fV 7) (fC (.int 1))))
   (bK (f2 aV (AF (fV 6) pNo (A3 (fC (.int 1)))) (f1 SO (fO 8))))
   aI)
   (b8 (LU 4 (f2 bX (fV 6) (fC (.int 0))) (f2 MW (f2 aV (f2 bX (fV 6) (fC (.int 1))) (fC (.int 1))) (fV 5)))
   (bK (f2 aV (aJ (cG (f2 bX (fV 6) (fC (.int 0))) (cG (f2 bX (fO 4) (f2 bX (fV 6) (fC (.int 0)))) bS))) (f1 SO (fO 8))))))))))
def XU:bW:=aT 11 [1,4] T5
def YC:VS:=
   (YN (UF (fB (f2 oLt (f1 YU (fO 4)) (fV 2))) (fB (f2 QW (f2 bX (f2 bX (fO 4) (f1 FA (fC (.int 1)))) (fC (.int 0))) (fC (.str "number")))))
   (b8 (VT 4 UJ (cG (cA 6 [1,4] XU (aE (fV 0) (aO 1 (aO 4 (aO 5 (aO 6 (aE (fV 3) bR))))))) bS))
   (YN (fB (f2 (ZS b5) (f2 bX (f2 bX (fO 4) (f1 FA (fC (.int 1)))) (fC (.int 0))) (aJ (cG (fC (.str "store")) (cG (fC (.str "put")) bS)))))
   (VT 5 UJ (cG (f2 SM (f1 YU (fO 4)) (fC (.int 1))) bS))
   aI))
   aI)
def WA:VS:=
   (b8 (VT 4 UJ (cG (cA 5 [1,3] UE (aE (fV 0) (aO 1 (aO 5 (aO 6 (aE (fV 3) bR)))))) bS))
   (b8 (YN (fB (f2 (ZS b5) (f2 bX (f2 bX (fO 4) (f1 FA (fC (.int 1)))) (fC (.int 0))) (aJ (cG (fC (.str "store")) (cG (fC (.str "put")) bS)))))
   (VT 5 UJ (cG (f2 SM (f1 YU (fO 4)) (fC (.int 1))) bS))
   aI)
   (QX (iR1 (cA 3 [1] aB (aE (fV 0) (aO 1 (aE (ZA (cG (fC (.int 0)) (cG (fC (.int 1)) (cG (fC (.int 1)) (cG (fC (.int 2)) (cG (fC (.int 3)) bS)))))) bR))))) (gN 7)
   YC)))
def P9:VS:=
   (b8 (LW 4 5 6 (xO (ZA bS)) (xO (ZA bS)) (xO (fC (.dct [] []))))
   (b8 (SS (fB (f2 oLt (f1 YU (fO 4)) (fV 2)))
   WA)
   (bK (f1 SO (fO 4)))))
def TW:bW:=aT 8 [1] P9
def M9:VS:=
   (b8 (YN (fB (f2 X7 (f2 bX (fV 0) (fC (.int 0))) (fC (.str "number"))))
   (bK (ZA bS))
   aI)
   (bK (KH (fB (f2 (ZS ba) (f2 bX (fV 0) (fC (.int 0))) (aJ (cG (fC (.str "load")) (cG (fC (.str "take")) (cG (fC (.str "store")) (cG (fC (.str "put")) bS))))))) (f1 NB (AF (fV 0) (A3 (fC (.int 2))) pNo)) (f1 NB (AF (fV 0) (A3 (fC (.int 1))) pNo)))))
def ZQ:bW:=aT 1 [] M9
def NS:VS:=
   (b8 (aK 2 (xV (f2 bX (f2 bX (fV 0) (fC (.int 1))) (fV 1))))
   (b8 (YN (fB (f2 (ZS ba) (f2 bX (fV 2) (fC (.int 0))) (aJ (cG (fC (.str "load")) (cG (fC (.str "take")) (cG (fC (.str "store")) (cG (fC (.str "put")) bS)))))))
   (bK (f2 oGe (f2 bX (fV 2) (fC (.int 1))) (f2 bX (fV 0) (fC (.int 0)))))
   aI)
   (bK (NO (f2 X7 (f2 bX (fV 2) (fC (.int 0))) (fC (.str "over"))) (f2 (ZS b5) (AF (f2 bX (f2 bX (fV 0) (fC (.int 1))) (f2 bX (fV 2) (fC (.int 2)))) pNo (A3 (fC (.int 2)))) (ZG [] 1 (iR2 (fC (.int 1)) (fC (.int 1000))) (gN 0) V6 (aJ (cG (fC (.str "number")) (cG (fV 0) bS)))))))))
def WU:bW:=aT 3 [] NS
def V8:VS:=
   (b8 (aK 7 (xV (ZG [] 1 (WB (aJ (cG (fV 6) (cG (fV 4) bS)))) (gN 0) (fB (f2 (ZS ba) (f2 bX (fV 0) (fC (.int 0))) (aJ (cG (fC (.str "store")) (cG (fC (.str "put")) bS))))) (fV 0))))
   (b8 (aK 8 (xO (ZA (cG (f2 (ZS ba) (fV 5) (cA 1 [] ZQ (aE (fV 4) bR))) (cG (NO (cA 2 [] WU (aE (fV 0) (aE (fV 5) bR))) (cA 2 [] WU (aE (fV 0) (aE (fV 3) bR)))) bS)))))
   (b8 (VT 8 UJ (cG (NO (f2 (ZS ba) (f2 bX (fV 6) (fC (.int 0))) (fV 2)) (NO (f2 (ZS ba) (f2 bX (fV 4) (fC (.int 0))) (fV 2)) (NO (f2 X7 (f2 bX (fV 6) (fC (.int 1))) (f2 bX (fV 4) (fC (.int 1)))) (f2 QW (fV 7) (ZA bS))))) bS))
   (b8 (VT 8 UJ (cG (NO (cA 2 [] WU (aE (fV 0) (aE (fV 5) bR))) (f2 (ZS ba) (f2 bX (fV 4) (fC (.int 0))) (aJ (cG (fC (.str "store")) (cG (fC (.str "put")) bS))))) bS))
   (b8 (VT 8 UJ (cG (NO (cA 2 [] WU (aE (fV 0) (aE (fV 3) bR))) (f2 (ZS ba) (f2 bX (fV 6) (fC (.int 0))) (aJ (cG (fC (.str "store")) (cG (fC (.str "put")) bS))))) bS))
   (YN (fB (f2 (ZS ba) (fC (.bl b5)) (fO 8)))
   (VT 1 UJ (cG (aJ (cG (fV 5) (cG (fV 3) bS))) bS))
   aI))))))
def V9:VS:=
   (QX (OQ (AF (f2 bX (fV 0) (fC (.int 1))) pNo (A3 (fV 3)))) (OC 2 (bG (gN 5) (bG (gN 6) Y4)))
   V8)
def P7:VS:=
   (b8 (LV 1 2 (xO (ZA bS)) (xV (aJ (cG (fC (.str "load")) (cG (fC (.str "take")) (cG (fC (.str "store")) (cG (fC (.str "put")) bS)))))))
   (b8 (QX (OQ (f2 bX (fV 0) (fC (.int 1)))) (OC 2 (bG (gN 3) (bG (gN 4) Y4)))
   V9)
   (bK (f1 C5 (fO 1)))))
def TU:bW:=aT 9 [] P7
def Y9:VS:=
   (b8 (aK 6 (xV (ZG [3,4] 1 (WB (fO 4)) (gN 2) (fB (f2 X7 (ZG [1,2] 2 (WB (fV 0)) (OC 2 (bG (gN 2) (bG (gN 3) Y4))) (UF (fB (f2 X7 (fV 3) (fV 1))) (fB (f2 (ZS ba) (fV 2) (fO 0)))) (fC (.int 1))) (ZA bS))) (fV 2))))
   (b8 (VT 5 UJ (cG (cA 3 [1] aB (aE (fV 0) (aO 1 (aE (fV 6) bR)))) bS))
   (VT 4 mRem (cG (f2 bX (fO 5) (f1 FA (fC (.int 1)))) bS))))
def XH:VS:=
   (b8 (LW 3 4 5 (xV (cA 1 [] TU (aE (fV 2) bR))) (xO (RA (f1 YU (f2 bX (fV 2) (fC (.int 1)))))) (xO (ZA bS)))
   (b8 (SS (fB (f2 QW (fO 4) (ZA bS)))
   Y9)
   (bK (fO 5))))
def YO:bW:=aT 7 [1] XH
def ZX:VS:=
   (b8 (YN (fB (f2 X7 (f2 bX (fV 0) (fC (.int 0))) (fC (.str "number"))))
   (bK (fV 0))
   aI)
   (b8 (aK 2 (xV (KH (fB (f2 (ZS ba) (f2 bX (fV 0) (fC (.int 0))) (aJ (cG (fC (.str "load")) (cG (fC (.str "take")) (cG (fC (.str "store")) (cG (fC (.str "put")) bS))))))) (fC (.int 2)) (fC (.int 1)))))
   (bK (f2 aV (AF (fV 0) pNo (A3 (fV 2))) (f1 SO (ZG [1] 1 (WB (AF (fV 0) (A3 (fV 2)) pNo)) (gN 1) V6 (f2 bX (fV 0) (fV 1))))))))
def aY:bW:=aT 3 [] ZX
def U7:VS:=
   (b8 (aK 3 (xV (cA 3 [1] aB (aE (fV 0) (aO 1 (aE (ZA (cG (fC (.int 3)) (cG (fC (.int 6)) (cG (fC (.int 9)) (cG (fC (.int 64)) bS))))) bR))))))
   (b8 (aK 4 (xV (cA 3 [1] aB (aE (fV 0) (aO 1 (aE (ZA (cG (fC (.int 0)) (cG (fV 3) (cG (fV 3) (cG (cA 3 [1] bB (aE (fV 0) (aO 1 (aE (f2 aV (fV 3) (fC (.int 1))) bR)))) bS))))) bR))))))
   (b8 (aK 5 (xV (aJ (cG (fV 4) (cG (cA 4 [1] TW (aE (fV 0) (aO 1 (aE (cA 3 [1] bB (aE (fV 0) (aO 1 (aE (f2 aV (fV 2) (fC (.int 1))) bR)))) (aE (fV 3) bR))))) bS)))))
   (b8 (YN (fB (f2 oGt (cA 3 [1] bB (aE (fV 0) (aO 1 (aE (fC (.int 3)) bR)))) (fC (.int 0))))
   (bK (fV 5))
   aI)
   (b8 (aK 6 (xV (cA 3 [1] YO (aE (fV 0) (aO 1 (aE (fV 5) bR))))))
   (b8 (aK 7 (xV (f1 AY (ZG [] 2 (OQ (fV 6)) (OC 2 (bG (gN 0) (bG (gN 1) Y4))) V6 (aJ (cG (fV 1) (cG (fV 0) bS)))))))
   (bK (aJ (cG (fV 4) (cG (f1 SO (ZG [5,7] 1 (WB (fV 6)) (gN 2) V6 (cA 2 [] aY (aE (f2 bX (f2 bX (fV 0) (fC (.int 1))) (fV 2)) (aE (fV 1) bR))))) bS))))))))))
def WO:bW:=aT 8 [1] U7
def R7:VS:=
   (b8 (aK 3 (xV (cA 3 [1] aB (aE (fV 0) (aO 1 (aE (ZA (cG (fV 2) (cG (f2 oMin (fC (.int 64)) (f2 aV (fV 2) (cA 3 [1] bB (aE (fV 0) (aO 1 (aE (fC (.int 9)) bR)))))) (cG (fC (.int 64)) bS)))) bR))))))
   (b8 (aK 4 (xV (cA 3 [1] aB (aE (fV 0) (aO 1 (aE (ZA (cG (fC (.int 2)) (cG (fC (.int 4)) (cG (fC (.int 1000)) bS)))) bR))))))
   (bK (ZG [0,1,4] 1 (iR1 (fV 3)) (gN 3) V6 (cA 3 [1] bB (aE (fV 0) (aO 1 (aE (fV 2) bR))))))))
def WP:bW:=aT 5 [1] R7
def T4:VS:=
   (b8 (YN (fB (f2 X7 (fV 0) (fC (.str "pick"))))
   (bK (KH (fB (f2 X7 (f2 bX (fV 1) (fC (.int 0))) (fC (.int 0)))) (f2 bX (fV 1) (fC (.int 2))) (f2 bX (fV 1) (fC (.int 1)))))
   aI)
   (b8 (LS (fV 1) (OC 2 (bG (gN 2) (bG (gN 3) Y4))))
   (b8 (YN (fB (f2 (ZS ba) (fV 0) (aJ (cG (fC (.str "least")) (cG (fC (.str "most")) bS)))))
   (bK (f2 bX (f1 C4 (fV 1)) (KH (fB (f2 X7 (fV 0) (fC (.str "least")))) (fC (.int 0)) (fC (.int 1)))))
   aI)
   (b8 (YN (fB (f2 X7 (fV 0) (fC (.str "less"))))
   (bK (KH (fB (f2 oGt (fV 3) (fV 2))) (fC (.int 1)) (fC (.int 0))))
   aI)
   (b8 (YN (fB (f2 X7 (fV 0) (fC (.str "over"))))
   (bK (KH (fB (f2 X7 (fV 3) (fC (.int 0)))) (fC .non) (G6 (fV 3) (f2 aV (fV 2) (fC (.int 1))) (fV 3))))
   aI)
   (b8 (aK 4 (xV (f2 bX (AE (N4 (fC (.str "plus")) (f2 aV (fV 2) (fV 3)) (N4 (fC (.str "minus")) (f2 SM (f2 aV (fV 2) (fC (.int 1000))) (fV 3)) (N4 (fC (.str "times")) (f2 SN (fV 2) (fV 3)) Tf)))) (fV 0))))
   (bK (f2 SM (fV 4) (f2 SN (f2 LB (fV 4) (fC (.int 1000))) (fC (.int 1000)))))))))))
def XT:bW:=aT 5 [] T4
def QA:VS:=
   (b8 (YN (fB (f2 (ZS b5) (f2 bX (fV 0) (fC (.int 0))) (aJ (cG (fC (.str "load")) (cG (fC (.str "take")) (cG (fC (.str "store")) (cG (fC (.str "put")) bS)))))))
   (b8 (aK 4 (xV (cA 2 [] XT (aE (f2 bX (fV 0) (fC (.int 0))) (aE (fV 2) bR)))))
   (bK (aJ (cG (fV 4) (cG (KH (fB (f2 LC (fV 4) (fC .non))) (fC (.str "nought")) (fC .non)) bS)))))
   aI)
   (b8 (aK 5 (xV (f2 aV (f2 bX (fV 0) (fC (.int 1))) (fV 1))))
   (b8 (YN (UF (fB (f2 X7 (f2 bX (fV 0) (fC (.int 0))) (fC (.str "take")))) (fB (f2 X7 (f2 bX (fV 2) (fC (.int 0))) (fC (.int 0)))))
   (bK (aJ (cG (f2 bX (fV 2) (fC (.int 1))) (cG (fC .non) bS))))
   aI)
   (b8 (YN (UF (fB (f2 X7 (f2 bX (fV 0) (fC (.int 0))) (fC (.str "put")))) (fB (f2 X7 (f2 bX (fV 2) (fC (.int 1))) (fC (.int 0)))))
   (bK (aJ (cG (fC .non) (cG (fC .non) bS))))
   aI)
   (b8 (YN (fB (f2 oGe (fV 5) (f1 YU (fO 3))))
   (bK (aJ (cG (fC .non) (cG (fC (.str "beyond")) bS))))
   aI)
   (b8 (YN (fB (f2 (ZS ba) (f2 bX (fV 0) (fC (.int 0))) (aJ (cG (fC (.str "load")) (cG (fC (.str "take")) bS)))))
   (bK (aJ (cG (f2 bX (fO 3) (fV 5)) (cG (fC .non) bS))))
   aI)
   (b8 (FQ 3 (fV 5) (f2 bX (fV 2) (fC (.int 0))))
   (bK (aJ (cG (fC .non) (cG (fC .non) bS)))))))))))
def TY:bW:=aT 6 [3] QA
def ZV(R:bW):VS:=
   (YN (UF (fB (f2 QW (fNl 4 1) (ZA bS))) (UF (fB (f2 oLt (fV 3) (fC (.int 3)))) (UF (fB (f2 oGt (fV 2) (fC (.int 1)))) (fB (f2 X7 (cA 3 [1] bB (aE (fV 0) (aO 1 (aE (fC (.int 4)) bR)))) (fC (.int 0)))))))
   (b8 (LV 8 9 (xV (cA 3 [1] aB (aE (fV 0) (aO 1 (aP 4 1 bR))))) (xV (cA 3 [1] bB (aE (fV 0) (aO 1 (aE (fV 2) bR))))))
   (b8 (BU 4 0 10 (cG (f2 aV (fNv 4 0) (fC (.int 1))) (cG (f2 LB (fV 9) (fC (.int 2))) bS)))
   (b8 (aK 11 (xV (cA 6 [1,4] R (aE (fV 0) (aO 1 (aE (f2 SM (fV 9) (fV 10)) (aE (f2 aV (fV 3) (fC (.int 1))) (aO 4 (aE (fV 5) bR)))))))))
   (b8 (aK 12 (xV (cA 6 [1,4] R (aE (fV 0) (aO 1 (aE (fV 10) (aE (f2 aV (fV 3) (fC (.int 1))) (aO 4 (aE (fV 5) bR)))))))))
   (b8 (VT 6 UJ (cG (aJ (cG (fC (.str "if")) (cG (fV 8) (cG (fV 11) (cG (fV 12) bS))))) bS))
   (aK 2 (xV (f2 SM (f2 SM (fV 2) (fC (.int 1))) (fV 9)))))))))
   (b8 (aK 13 (xV (cA 4 [1] (insD 3 UE) (aE (fV 0) (aO 1 (aP 4 1 (aE (fV 5) bR)))))))
   (b8 (YN (fB (f2 (ZS b5) (f2 bX (fV 13) (fC (.int 0))) (aJ (cG (fC (.str "store")) (cG (fC (.str "put")) bS)))))
   (BS 4 1 (cG (fNv 4 0) bS))
   aI)
   (b8 (BV 4 0 (f2 aV (fNv 4 0) (fC (.int 1))))
   (b8 (VT 6 UJ (cG (fV 13) bS))
   (aK 2 (xV (f2 SM (fV 2) (fC (.int 1))))))))))
def YZ(R:bW):VS:=
   (b8 (LV 6 7 (xO (ZA bS)) (xV (f1 YU (fNl 4 1))))
   (b8 (SS (fB (f2 oGt (fV 2) (fC (.int 0))))
   (ZV R))
   (b8 (YN (fB (f2 oGt (fV 3) (fC (.int 0))))
   (JO 4 1 (ZA bS) (fV 7))
   aI)
   (bK (f1 SO (fO 6))))))
def Z5:Nat->bW:=recV λR=>aT 14 [1,4] (YZ R)
def QB:VS:=
   (b8 (aK 3 (xV (cA 3 [1] aB (aE (fV 0) (aO 1 (aE (ZA (cG (fC (.int 3)) (cG (fC (.int 6)) (cG (fC (.int 64)) bS)))) bR))))))
   (b8 (aK 4 (xV (cA 5 [1] (CW (.nst [b3,b0 0] [.int 0]) 4 (Z5 8)) (aE (fV 0) (aO 1 (aE (cA 3 [1] bB (aE (fV 0) (aO 1 (aE (f2 aV (fV 2) (fC (.int 1))) bR)))) (aE (fC (.int 0)) (aE (fV 3) bR))))))))
   (bK (aJ (cG (cA 3 [1] aB (aE (fV 0) (aO 1 (aE (ZA (cG (fC (.int 0)) (cG (fV 3) (cG (cA 3 [1] bB (aE (fV 0) (aO 1 (aE (f2 aV (fV 3) (fC (.int 1))) bR)))) bS)))) bR)))) (cG (fV 4) bS))))))
def TZ:bW:=aT 5 [1] QB
def VN(R:bW):VS:=
   (bK (f1 oSum (ZG [] 1 (WB (fV 0)) (gN 0) V6 (f2 aV (fC (.int 1)) (KH (fB (f2 X7 (f2 bX (fV 0) (fC (.int 0))) (fC (.str "if")))) (f2 aV (cA 1 [] R (aE (f2 bX (fV 0) (fC (.int 2))) bR)) (cA 1 [] R (aE (f2 bX (fV 0) (fC (.int 3))) bR))) (fC (.int 0)))))))
def YF:Nat->bW:=recV λR=>aT 1 [] (VN R)
def bH(R:bW):VS:=
   (b8 (aK 5 (xV (fC .non)))
   (b8 (YN (fB (f2 X7 (f2 bX (fV 4) (fC (.int 0))) (fC (.str "if"))))
   (b8 (aK 6 (xV (f2 aV (f2 aV (fV 1) (fC (.int 1))) (cA 1 [] (YF 8) (aE (f2 bX (fV 4) (fC (.int 2))) bR)))))
   (YN (fB (f2 QW (f2 bX (fO 2) (f2 bX (fV 4) (fC (.int 1)))) (fC (.int 0))))
   (aK 5 (xV (cA 4 [2,3] R (aE (f2 bX (fV 4) (fC (.int 2))) (aE (f2 aV (fV 1) (fC (.int 1))) (aO 2 (aO 3 bR)))))))
   (aK 5 (xV (cA 4 [2,3] R (aE (f2 bX (fV 4) (fC (.int 3))) (aE (fV 6) (aO 2 (aO 3 bR)))))))))
   (YN (fB (f2 X7 (f2 bX (fV 4) (fC (.int 0))) (fC (.str "number"))))
   (LU 2 (fV 1) (f2 bX (fV 4) (fC (.int 1))))
   (b8 (LS (cA 4 [3] TY (aE (fV 4) (aE (fC (.int 0)) (aE (ZG [2] 1 (WB (cA 1 [] ZQ (aE (fV 4) bR))) (gN 1) V6 (f2 bX (fO 0) (fV 1))) (aO 3 bR))))) (OC 2 (bG (gN 7) (bG (gN 8) Y4))))
   (b8 (LU 2 (fV 1) (fV 7))
   (aK 5 (xV (KH (fB (f2 UK (fV 8) (fC .non))) (aJ (cG (fV 1) (cG (fV 8) bS))) (fC .non))))))))
   (b8 (YN (fB (f2 UK (fV 5) (fC .non)))
   (bK (fV 5))
   aI)
   (aK 1 (xV (f2 aV (fV 1) (cA 1 [] (YF 8) (aE (aJ (cG (fV 4) bS)) bR))))))))
def YY(R:bW):VS:=
   (b8 (QX (WB (fV 0)) (gN 4)
   (bH R))
   (bK (fC .non)))
def a9:Nat->bW:=recV λR=>aT 9 [2,3] (YY R)
def ME:VS:=
   (b8 (aK 4 (xV (cA 3 [1] WP (aE (fV 0) (aO 1 (aE (f2 bX (fV 2) (fC (.int 0))) bR))))))
   (b8 (LV 5 6 (xV (f1 NB (fV 4))) (xO (f1 NB (fV 4))))
   (b8 (aK 7 (xV (cA 3 [2] (insE 2 (a9 8)) (aE (f2 bX (fV 2) (fC (.int 1))) (aE (fC (.int 0)) (aO 6 bR))))))
   (YN (D2 (fB (f2 QW (cA 2 [] VM (aE (fV 2) (aE (fV 4) bR))) (aJ (cG (fO 6) (cG (fV 7) bS))))) (fB (f2 QW (fV 4) (fV 5))))
   (bK (fC (.bl ba)))
   aI))))
def zEP:VS:=
   (b8 (aK 1 (xO (ZA bS)))
   (b8 (aK 2 (xV (cA 3 [1] TZ (aE (fV 0) (aO 1 (aE (fC (.int 16)) bR))))))
   (b8 (QX (iR1 (fC (.int 3))) (gN 3)
   ME)
   (b8 (aK 8 (xV (cA 3 [1] WO (aE (fV 0) (aO 1 (aE (fC (.int 12)) bR))))))
   (b8 (aK 4 (xV (cA 3 [1] WP (aE (fV 0) (aO 1 (aE (f2 bX (fV 8) (fC (.int 0))) bR))))))
   (bK (f2 X7 (cA 2 [] VM (aE (fV 8) (aE (fV 4) bR))) (cA 2 [] Tb (aE (fV 8) (aE (fV 4) bR))))))))))
def IA:bW:=aT 9 [] zEP
end L2
namespace RR
open PySem L2
section
open PySem.Spec PyProof.Rows
def mkDg{P:Bh}{w:Sm}{K:Ao}{mg:Si->Option Se}{base:Sq}{x:Si}{st:Su}{f:Sf}{ps:List Si}{sp:Sp}{k:Nat}(X:∀x a,Ly K So x=b0 (b0 (.ref a))->mg x=b0 (.ref a))(p:A4 K x st f)(ok:∀{fd:Ey},Fun K x x st f fd->S9 P w K mg base CX0 k f fd ps sp)(j:∀{kV doc g:Se}{h:Option Sf}{e ct:Se}(us:List Se),us.length=ps.length->bindArgs (Jz x x (YR st) (ZR st) (bJ st) .none kV doc g h e ct) ⟨us,[]⟩=pure (ps.zip us)):Def P w K mg base x k ps sp f:=by obtain⟨l,od,kV,doc,g,h,e,ct,i,a,b,c,d⟩:=p;have U:=Wt (st:=st) b c d;exact⟨X _ _ a,⟨_,ok U,U.binds λ_ _ _ _ _ _=>j⟩,d⟩
def okWg(P:Bh)(w:Sm)(K:Ao)(mg:Si->Option Se)(base:Sq){x:Si}{st:Su}{f:Sf}{fd:Ey}(N ps:List Si)(k:Nat)(g:VS)(ml:List Nat)(F:Fun K x x st f fd)(S:XD N ps (bJ st))(d:∀{a:Se}{A:Dh}{outer:List Env}{s:Ah}{H:Hp}{E:XK}(_:XD N ps (bJ st)) (b:X5 k (A.deeper (Iu x (bJ st) s.heap.objs.size f a))) (_:(A.deeper (Iu x (bJ st) s.heap.objs.size f a)).units+64<cLine) (_:(A.deeper (Iu x (bJ st) s.heap.objs.size f a)).units+1<cLine),NH (KA CX0 P w K mg base N x (bJ st) f a A outer s H E).nox (ZR st) (TJ K ml g))(c:ps.length<=N.length:=by decide):S9 P w K mg base CX0 (k+1) f fd ps (spV K ml ps.length (aT N.length ml g)):=
 Fun.okV F S c λa A outer s H E b=>d S b b.units (Wo b)
end
abbrev Gn(K:Ao)(x:Si)(v:Se):Prop:=Ly K So x=b0 (b0 v)
def tS(xs:List (Si×Nat)):Sr:=⟨.type "tuple",b3,.seq (xs.map λz=>Lo z.1 z.2).toArray 0,#[]⟩
theorem Len1{α:Type}{P:List α->Prop}(z:∀a,P [a]):∀us:List α,us.length=1->P us
 |[a],_=>z a
theorem Len2{α:Type}{P:List α->Prop}(z:∀a b,P [a,b]):∀us:List α,us.length=2->P us
 |[a,b],_=>z a b
theorem Len3{α:Type}{P:List α->Prop}(z:∀a b c,P [a,b,c]):∀us:List α,us.length=3->P us
 |[a,b,c],_=>z a b c
theorem Len4{α:Type}{P:List α->Prop}(z:∀a b c d,P [a,b,c,d]):∀us:List α,us.length=4->P us
 |[a,b,c,d],_=>z a b c d
theorem Len5{α:Type}{P:List α->Prop}(z:∀a b c d e,P [a,b,c,d,e]):∀us:List α,us.length=5->P us
 |[a,b,c,d,e],_=>z a b c d e
theorem Len6{α:Type}{P:List α->Prop}(z:∀a b c d e f,P [a,b,c,d,e,f]):∀us:List α,us.length=6->P us
 |[a,b,c,d,e,f],_=>z a b c d e f
structure Txt(w:Sm)(K:Ao)(mg:Si->Option Se):Prop where
 fnm:∀x a,Gn K x (.ref a)->mg x=b0 (.ref a)
 fni:∀x i t,Gn K x (.int i t)->mg x=b0 (.int i t)
 p_x0:A4 K "is_whole" (top 8) 71
 p_x1:A4 K "plus" (top 9) 78
 p_x2:A4 K "minus" (top 10) 85
 p_x3:A4 K "times" (top 11) 92
 p_x4:A4 K "least" (top 12) 99
 p_x5:A4 K "most" (top 13) 106
 p_x6:A4 K "less" (top 14) 113
 p_x7:A4 K "over" (top 15) 120
 p_x8:A4 K "pick" (top 16) 127
 p_x9:A4 K "done" (top 18) 135
 p_x10:A4 K "parts_of" (top 27) 152
 p_x11:A4 K "makes_word" (top 28) 159
 p_x12:A4 K "place_of" (top 29) 166
 p_x13:A4 K "names_of" (top 30) 171
 p_x14:A4 K "may_name" (top 31) 178
 p_x15:A4 K "fits" (top 32) 185
 p_x16:A4 K "is_row" (top 33) 190
 p_x17:A4 K "is_block" (top 34) 197
 p_x18:A4 K "is_cells" (top 37) 202
 p_x19:A4 K "touches" (top 38) 209
 p_x20:A4 K "do_on_cell" (top 39) 216
 o_a2:K.lookup 217=b0 ⟨.type "tuple",b3,.seq #[.int 0 497] 0,#[]⟩
 a_x21:Ly K So "do_row"=b0 (b0 (.ref 224))
 l_x21:K.lookup 224=b0 ⟨.type "function",b3,.func (Jz "do_row" "do_row" (YR (top 40)) (ZR (top 40)) (bJ (top 40)) (.ref 217) .none .none KK.m1 b3 (.ref 223) .none),#[]⟩
 c_x21:Ku K (.ref 223) "do_row"=b5
 k_x21:Il K (.ref 224)=b5
 p_x22:A4 K "do_rows" (top 41) 229
 p_x23:A4 K "check_run" (top 42) 236
 p_x24:A4 K "run" (top 43) 243
 p_x25:A4 K "is_if" (top 47) 250
 p_x26:A4 K "sight_behind_if" (top 48) 257
 p_x27:A4 K "sight_behind" (top 49) 264
 p_x28:A4 K "is_tree" (top 50) 271
 p_x29:A4 K "listed" (top 51) 278
 p_x30:A4 K "do_tree" (top 52) 283
 p_x31:A4 K "run_tree" (top 53) 290
 p_x32:A4 K "_law_cell_at" (top 55) 297
 p_x33:A4 K "_law_mixed" (top 56) 304
 p_x34:A4 K "_law_draw" (top 57) 311
 p_x35:A4 K "_law_pick" (top 58) 318
 p_x36:A4 K "_law_place" (top 59) 325
 p_x37:A4 K "_law_row" (top 60) 330
 p_x39:A4 K "_law_next" (top 62) 344
 p_x38:A4 K "_law_rows" (top 61) 337
 p_x44:A4 K "_law_names" (top 67) 375
 p_x45:A4 K "_law_may" (top 68) 380
 p_x46:A4 K "_law_must" (top 69) 385
 p_x47:A4 K "_law_mixed_order" (top 70) 390
 p_x48:A4 K "_law_renamed" (top 71) 395
 p_x40:A4 K "_law_block" (top 63) 349
 p_x41:A4 K "_law_cells" (top 64) 354
 p_x42:A4 K "_law_deed" (top 65) 361
 p_x43:A4 K "_law_step" (top 66) 368
 p_x49:A4 K "_law_tree_rows" (top 72) 402
 p_x50:A4 K "_law_tree" (top 73) 409
 p_x51:A4 K "_law_many" (top 74) 414
 p_x52:A4 K "_law_tree_play" (top 75) 419
 n_len:mg "len"=b3
 n_range:mg "range"=b3
 n_min:mg "min"=b3
 n_max:mg "max"=b3
 XX:mg "list"=b3
 n_tuple:mg "tuple"=b3
 n_sorted:mg "sorted"=b3
 n_isinstance:mg "isinstance"=b3
 n_bool:mg "bool"=b3
 n_int:mg "int"=b3
 n_str:mg "str"=b3
 n_enumerate:mg "enumerate"=b3
 n_zip:mg "zip"=b3
 n_all:mg "all"=b3
 n_dict:mg "dict"=b3
 n_sum:mg "sum"=b3
 g_MOST_WORD:Gn K "MOST_WORD" (.int 999 257)
 o_a11:K.lookup 64=b0 (tS [("plus",259),("minus",260),("times",261),("least",262),("most",263),("less",264),("over",265)])
 g_DEEDS:Gn K "DEEDS" (.ref 64)
 o_a19:K.lookup 128=b0 ⟨.type "dict",b3,.dict #[⟨Cb w.params "plus",.str "plus" 341,.ref 78⟩,⟨Cb w.params "minus",.str "minus" 342,.ref 85⟩,⟨Cb w.params "times",.str "times" 343,.ref 92⟩,⟨Cb w.params "least",.str "least" 344,.ref 99⟩,⟨Cb w.params "most",.str "most" 345,.ref 106⟩,⟨Cb w.params "less",.str "less" 346,.ref 113⟩,⟨Cb w.params "over",.str "over" 347,.ref 120⟩] 7,#[]⟩
 g_MADE:Gn K "MADE" (.ref 128)
 g_MOST_SURE:Gn K "MOST_SURE" (.int 64 367)
 g_MOST_ROWS:Gn K "MOST_ROWS" (.int 40 369)
 g_MOST_PLACE:Gn K "MOST_PLACE" (.int 63 371)
 o_a32:K.lookup 136=b0 (tS [("row",373),("row",374)])
 g_DEED_PARTS:Gn K "DEED_PARTS" (.ref 136)
 o_a40:K.lookup 138=b0 (tS [("word",377)])
 o_a44:K.lookup 139=b0 (tS [("row",379),("row",380),("row",381)])
 o_a46:K.lookup 140=b0 (tS [("place",383)])
 o_a50:K.lookup 141=b0 (tS [("place",385),("row",386),("row",387)])
 o_a53:K.lookup 142=b0 (tS [("place",389),("row",390)])
 o_a57:K.lookup 143=b0 (tS [("place",392),("row",393),("row",394)])
 o_a58:K.lookup 137=b0 ⟨.type "dict",b3,.dict #[⟨Cb w.params "number",.str "number" 376,.ref 138⟩,⟨Cb w.params "pick",.str "pick" 378,.ref 139⟩,⟨Cb w.params "load",.str "load" 382,.ref 140⟩,⟨Cb w.params "take",.str "take" 384,.ref 141⟩,⟨Cb w.params "store",.str "store" 388,.ref 142⟩,⟨Cb w.params "put",.str "put" 391,.ref 143⟩] 6,#[]⟩
 g_OTHER_PARTS:Gn K "OTHER_PARTS" (.ref 137)
 o_a67:K.lookup 144=b0 (tS [("load",402),("take",403)])
 g_READERS:Gn K "READERS" (.ref 144)
 o_a70:K.lookup 145=b0 (tS [("store",405),("put",406)])
 g_WRITERS:Gn K "WRITERS" (.ref 145)
 g_MOST_CELLS:Gn K "MOST_CELLS" (.int 64 471)
 g_MOST_TREE_ROWS:Gn K "MOST_TREE_ROWS" (.int 20 538)
 g_MOST_DEEP:Gn K "MOST_DEEP" (.int 3 540)
 p_x53:A4 K "law" (top 76) 426
section
open PySem.Spec PyProof.Rows
def WN(P:Bh){w:Sm}{K:Ao}{mg:Si->Option Se}(base:Sq){x:Si}{st:Su}{f:Sf}(N ps:List Si)(k:Nat)(g:VS)(ml:List Nat)(T:Txt w K mg)(p:A4 K x st f)(e:∀{a:Se}{A:Dh}{outer:List Env}{s:Ah}{H:Hp}{E:XK}(_:XD N ps (bJ st)) (i:X5 k (A.deeper (Iu x (bJ st) s.heap.objs.size f a))) (_:(A.deeper (Iu x (bJ st) s.heap.objs.size f a)).units+64<cLine) (_:(A.deeper (Iu x (bJ st) s.heap.objs.size f a)).units+1<cLine),NH (KA CX0 P w K mg base N x (bJ st) f a A outer s H E).nox (ZR st) (TJ K ml g))(S:XD N ps (bJ st):=by exact mkSc)(b:ps.length<=N.length:=by decide)(d:∀{kV doc c:Se}{h:Option Sf}{a ct:Se}(us:List Se),us.length=ps.length->bindArgs (Jz x x (YR st) (ZR st) (bJ st) .none kV doc c h a ct) ⟨us,[]⟩=pure (ps.zip us):=by first|exact Len1 λ_=>rfl|exact Len2 λ_ _=>rfl|exact Len3 λ_ _ _=>rfl|exact Len4 λ_ _ _ _=>rfl|exact Len5 λ_ _ _ _ _=>rfl|exact Len6 λ_ _ _ _ _ _=>rfl):aL P w K mg base x (k+1) ps ml (aT N.length ml g) f:=
 mkDg T.fnm p (λF=>okWg P w K mg base N ps k g ml F S e b) d
end
section
variable{P:Bh}{w:Sm}{K:Ao}{mg:Si->Option Se}{base:Sq}(T:Txt w K mg)
include T
def vI{x:Si}{i:Int}{t:Nat}(g:Gn K x (.int i t)):∃u v,mg x=b0 u/\aW v u/\∀N H M,aU K N H M v (.int i):=⟨_,.int i,T.fni _ _ _ g,⟨_,rfl⟩,λ_ _ _=>.int _⟩
omit T in
def rS{N:Sf->Prop}{H:Hp}{M:Sf->Prop}{a:Sf}{xs:List (Si×Nat)}(o:K.lookup a=b0 (tS xs))(hl:xs.length<=9:=by decide):aU K N H M (.ref a) (.tup (xs.map λz=>.str z.1)):=by
 refine .tup (xs:=xs.map λz=>.str z.1) (.inr ⟨_,_,_,o,rfl,rfl,by show(xs.map _).length<=_;rw[Ce];exact Fc hl (by decide),?_⟩) ?_
 ·show a7 _ (xs.map λz => Lo z.1 z.2)
  clear o hl;induction xs with
  |nil=>exact .nil
  |cons z zs b=>exact .cons ⟨_,rfl⟩ b
 ·clear o hl
  induction xs with
  |nil=>exact .nil
  |cons z zs b=>exact .cons (.str _) b
def vS{x:Si}{a:Sf}{xs:List (Si×Nat)}(g:Gn K x (.ref a))(o:K.lookup a=b0 (tS xs))(hl:xs.length<=9:=by decide):∃u v,mg x=b0 u/\aW v u/\∀N H M,aU K N H M v (.tup (xs.map λz=>.str z.1)):=⟨_,.ref a,T.fnm _ _ g,rfl,λ_ _ _=>rS o hl⟩
def Zi:∃u v,mg "MADE"=b0 u/\aW v u/\∀N H M,aU K N H M v UX:=
 ⟨_,.ref 128,T.fnm _ _ T.g_MADE,rfl,λ_ _ _=>(.ktb (D:=[("plus",.ref 78),("minus",.ref 85),("times",.ref 92),("least",.ref 99),("most",.ref 106),("less",.ref 113),("over",.ref 120)]) ⟨(by decide),_,_,_,T.o_a19,⟨rfl,rfl,rfl⟩,rfl,(.cons rfl rfl (.cons rfl rfl (.cons rfl rfl (.cons rfl rfl (.cons rfl rfl (.cons rfl rfl (.cons rfl rfl .nil)))))))⟩ (.cons (.fn T.p_x1.ns) (.cons (.fn T.p_x2.ns) (.cons (.fn T.p_x3.ns) (.cons (.fn T.p_x4.ns) (.cons (.fn T.p_x5.ns) (.cons (.fn T.p_x6.ns) (.cons (.fn T.p_x7.ns) .nil))))))))⟩
def KG:∃u v,mg "OTHER_PARTS"=b0 u/\aW v u/\∀N H M,aU K N H M v QQ:=
 ⟨_,.ref 137,T.fnm _ _ T.g_OTHER_PARTS,rfl,λ_ _ _=>(.ktb (D:=[("number",.ref 138),("pick",.ref 139),("load",.ref 140),("take",.ref 141),("store",.ref 142),("put",.ref 143)]) ⟨(by decide),_,_,_,T.o_a58,⟨rfl,rfl,rfl⟩,rfl,(.cons rfl rfl (.cons rfl rfl (.cons rfl rfl (.cons rfl rfl (.cons rfl rfl (.cons rfl rfl .nil))))))⟩ (.cons (rS T.o_a40) (.cons (rS T.o_a44) (.cons (rS T.o_a46) (.cons (rS T.o_a50) (.cons (rS T.o_a53) (.cons (rS T.o_a57) .nil)))))))⟩
noncomputable abbrev Nx0:List Si:=["thing","low","high"]
abbrev J6:List Si:=["a","b"]
abbrev Nx8:List Si:=["c","a","b"]
noncomputable abbrev Nx9:List Si:=["deed","words","made"]
abbrev Qx9:List Si:=["deed","words"]
abbrev Nx10:List Si:=["deed"]
abbrev DW:List Si:=["row"]
abbrev Nx13:List Si:=["row","deed","rest"]
abbrev Nx14:List Si:=["thing","able"]
abbrev Nx15:List Si:=["part","thing","able"]
noncomputable abbrev Nx16:List Si:=["thing","able","deed","rest","parts"]
noncomputable abbrev Nx17:List Si:=["thing","sure","rows","able","row"]
abbrev DX:List Si:=["thing"]
abbrev Nx18:List Si:=["thing","sure"]
noncomputable abbrev Nx20:List Si:=["deed","place","words","cells"]
noncomputable abbrev Nx21:List Si:=["row","words","cells","shift","deed","place","word"]
abbrev Qx21:List Si:=["row","words","cells","shift"]
noncomputable abbrev Nx22:List Si:=["rows","cells","words","at","row","word","why"]
abbrev Qx22:List Si:=["rows","cells"]
abbrev Nx23:List Si:=["block","cells"]
noncomputable abbrev Nx24:List Si:=["block","cells","then","words","fault"]
noncomputable abbrev Nx26:List Si:=["thing","able","deep","sight","side","within"]
abbrev Qx26:List Si:=["thing","able","deep"]
noncomputable abbrev Nx27:List Si:=["things","able","deep","sight","thing"]
abbrev Qx27:List Si:=["things","able","deep"]
noncomputable abbrev Nx29:List Si:=["rows","path","found","row"]
abbrev Qx29:List Si:=["rows","path"]
noncomputable abbrev Nx30:List Si:=["rows","cells","words","at","row","path","word","why"]
abbrev Nx31:List Si:=["tree","cells","then","fault"]
abbrev Qx31:List Si:=["tree","cells"]
noncomputable abbrev Nx32:List Si:=["_law_script","_law_k","_law_rest","_law_again"]
abbrev Qx32:List Si:=["_law_script","_law_k"]
noncomputable abbrev Nx33:List Si:=["_law_script","_law_k","_law_bound","_law_drawn"]
abbrev Qx33:List Si:=["_law_script","_law_k","_law_bound"]
abbrev Nx34:List Si:=["_law_script","_law_town","_law_bound"]
abbrev Nx35:List Si:=["_law_script","_law_town","_law_some"]
noncomputable abbrev Nx36:List Si:=["_law_script","_law_town","_law_seen","_law_deed_here","_law_room"]
noncomputable abbrev Nx37:List Si:=["_law_script","_law_town","_law_made","_law_seen","_law_room","_law_kind","_law_a","_law_b","_law_c"]
abbrev Qx37:List Si:=["_law_script","_law_town","_law_made","_law_seen","_law_room"]
noncomputable abbrev Nx39:List Si:=["_law_script","_law_town","_law_rows_here","_law_made","_law_seen","_law_room","_law_last","_law_first","_law_names_here","_law_name","_law_at"]
abbrev Qx39:List Si:=["_law_script","_law_town","_law_rows_here","_law_made","_law_seen","_law_room"]
noncomputable abbrev Nx38:List Si:=["_law_script","_law_town","_law_many_here","_law_room","_law_rows_here","_law_made","_law_seen","_law_again"]
abbrev Qx38:List Si:=["_law_script","_law_town","_law_many_here","_law_room"]
abbrev Nx44:List Si:=["_law_row_here"]
noncomputable abbrev Nx45:List Si:=["_law_block_here","_law_row_here","_law_here"]
abbrev Qx45:List Si:=["_law_block_here","_law_row_here"]
noncomputable abbrev Nx46:List Si:=["_law_block_here","_law_made","_law_cells_here","_law_two","_law_there","_law_one","_law_here","_law_writes","_law_reasons"]
abbrev Qx46:List Si:=["_law_block_here"]
noncomputable abbrev Nx47:List Si:=["_law_script","_law_town","_law_block_here","_law_pairs","_law_left","_law_made","_law_ready"]
abbrev Qx47:List Si:=["_law_script","_law_town","_law_block_here"]
abbrev Nx48:List Si:=["_law_row_here","_law_names_here","_law_first"]
abbrev Qx48:List Si:=["_law_row_here","_law_names_here"]
noncomputable abbrev Nx40:List Si:=["_law_script","_law_town","_law_most","_law_room","_law_sure","_law_block_here","_law_order_there","_law_names_here"]
abbrev Qx40:List Si:=["_law_script","_law_town","_law_most"]
noncomputable abbrev Nx41:List Si:=["_law_script","_law_town","_law_low","_law_many_here","_law_small"]
abbrev Qx41:List Si:=["_law_script","_law_town","_law_low"]
noncomputable abbrev Nx42:List Si:=["_law_deed_here","_law_words","_law_one","_law_two","_law_whole"]
abbrev Qx42:List Si:=["_law_deed_here","_law_words"]
noncomputable abbrev Nx43:List Si:=["_law_row_here","_law_lane","_law_words","_law_cells_here","_law_made","_law_at"]
abbrev Qx43:List Si:=["_law_row_here","_law_lane","_law_words","_law_cells_here"]
noncomputable abbrev Nx49:List Si:=["_law_script","_law_town","_law_many_here","_law_deep","_law_seen","_law_room","_law_rows_here","_law_first","_law_c","_law_inner","_law_left","_law_one","_law_two","_law_row_here"]
abbrev Qx49:List Si:=["_law_script","_law_town","_law_many_here","_law_deep","_law_seen","_law_room"]
noncomputable abbrev Nx50:List Si:=["_law_script","_law_town","_law_most","_law_room","_law_rows_here"]
abbrev Nx51:List Si:=["_law_rows_here"]
noncomputable abbrev Nx52:List Si:=["_law_rows_here","_law_number","_law_words","_law_cells_here","_law_row_here","_law_fault","_law_second","_law_made","_law_why"]
abbrev Qx52:List Si:=["_law_rows_here","_law_number","_law_words","_law_cells_here"]
noncomputable abbrev Nx53:List Si:=["_law_script","_law_town","_law_tree_here","_law_again","_law_cells_here","_law_kept","_law_later","_law_fault","_law_block_here"]
abbrev Qx53:List Si:=["_law_script"]
def D_x0:aL P w K mg base "is_whole" 1 Nx0 [] ZB 71:=
 WN P base Nx0 Nx0 0 P5 [] T T.p_x0 λb d c a=>by
  exact(cJ (bI (UT (UU (ZE (L6 T.n_isinstance (vv 0) (vty T.n_bool kH))) (W6 (YM (ZE (L6 T.n_isinstance (vv 0) (vty T.n_int gU)))))))
   (cI (cB XA))
   b7) (cI (cB (eJ FE FE s_le s_le (vv 1) (vv 0) (vv 2)))))
def D_x1:aL P w K mg base "plus" 1 J6 [] GJ 78:=
 WN P base J6 J6 0 CU [] T T.p_x1 λb d c a=>by exact(cI (cB (ZN VQ SU (bD Z8 aX (vv 0) (vv 1)) (bD Z8 aX (aA (by rfl) (vI T T.g_MOST_WORD)) cK))))
def D_x2:aL P w K mg base "minus" 1 J6 [] MC 85:=
 WN P base J6 J6 0 HA [] T T.p_x2 λb d c a=>by exact(cI (cB (ZN VQ SU (ZN XJ U8 (vv 0) (vv 1)) (bD Z8 aX (aA (by rfl) (vI T T.g_MOST_WORD)) cK))))
def D_x3:aL P w K mg base "times" 1 J6 [] MD 92:=
 WN P base J6 J6 0 HC [] T T.p_x3 λb d c a=>by exact(cI (cB (ZN VQ SU (bD QE T0 (vv 0) (vv 1)) (bD Z8 aX (aA (by rfl) (vI T T.g_MOST_WORD)) cK))))
def D_x4:aL P w K mg base "least" 1 J6 [] MB 99:=
 WN P base J6 J6 0 G9 [] T T.p_x4 λb d c a=>by exact(cI (cB (J0 (NJ rfl) Tr (by rfl) T.n_min CH (vv 0) (vv 1))))
def D_x5:aL P w K mg base "most" 1 J6 [] GH 106:=
 WN P base J6 J6 0 CS [] T T.p_x5 λb d c a=>by exact(cI (cB (J0 (IK rfl) Uv (by rfl) T.n_max Xd (vv 0) (vv 1))))
def D_x6:aL P w K mg base "less" 1 J6 [] GG 113:=
 WN P base J6 J6 0 CQ [] T T.p_x6 λb d c a=>by exact(cI (cB (XB (bN JJ s_lt (vv 0) (vv 1)) cK cK)))
def D_x7:aL P w K mg base "over" 1 J6 [] NG 120:=
 WN P base J6 J6 0 HB [] T T.p_x7 λc d b a=>by exact(cI (cB (XB (Y0 b (vv 1) cK) a6 (ZN OY LX (vv 0) (vv 1)))))
def D_x8:aL P w K mg base "pick" 1 Nx8 [] GI 127:=
 WN P base Nx8 Nx8 0 CT [] T T.p_x8 λc d b a=>by exact(cI (cB (XB (bN (SH b) SV (vv 0) cK) (vv 1) (vv 2))))
def D_x9:aL P w K mg base "done" 2 Qx9 [] RT 135:=
 WN P base Nx9 Qx9 1 G8 [] T T.p_x9 λc b d a=>by
  exact(cJ (bI (Y0 d (vv 0) b9)
   (cI (cB (bF (D_x8 T) b (cF (cH (Z6 a (vv 1) cK)) (cF (cH (Z6 a (vv 1) cK)) (cF (cH (Z6 a (vv 1) cK)) cE))))))
   b7) (cJ (bO c.nd (aZ (cH (Z6 a (aA (by rfl) (Zi T)) (vv 0))))) (cI (cB (eW (VW (K:=K) rfl T.fnm b (D_x1 T) (by decide) (VW (K:=K) rfl T.fnm b (D_x2 T) (by decide) (VW (K:=K) rfl T.fnm b (D_x3 T) (by decide) (VW (K:=K) rfl T.fnm b (D_x4 T) (by decide) (VW (K:=K) rfl T.fnm b (D_x5 T) (by decide) (VW (K:=K) rfl T.fnm b (D_x6 T) (by decide) (VW (K:=K) rfl T.fnm b (D_x7 T) (by decide) kS))))))) (pv 2) (cF (cH (Z6 a (vv 1) cK)) (cF (cH (Z6 a (vv 1) cK)) cE)))))))
def Ut:aL P w K mg base "parts_of" 1 Nx10 [] ZC 152:=
 WN P base Nx10 Nx10 0 K1 [] T T.p_x10 λc d b a=>by
  exact(cJ (bI (bN (UH b) (Y5 (neg:=ba)) (vv 0) (aA (by rfl) (vS T T.g_DEEDS T.o_a11)) (by with_unfolding_all rfl))
   (cI (cB (aA (by rfl) (vS T T.g_DEED_PARTS T.o_a32))))
   b7) (cI (cB (Zq rfl a (aA (by rfl) (KG T)) (vv 0) ⟨rfl,rfl,rfl,rfl⟩))))
def Wj:aL P w K mg base "makes_word" 1 DW [] V4 159:=
 WN P base DW DW 0 OO [] T T.p_x11 λc d b a=>by exact(cI (cB (XO (RE b) (Y5 (neg:=b5)) (Z6 a (vv 0) cK) (aA (by rfl) (vS T T.g_WRITERS T.o_a70)) (by with_unfolding_all rfl))))
def dQ:aL P w K mg base "place_of" 1 DW [] aC 166:=
 WN P base DW DW 0 YG [] T T.p_x12 λc d b a=>by exact(cI (cB (XB (UT (UU (bN (UH b) (Y5 (neg:=ba)) (Z6 a (vv 0) cK) (aA (by rfl) (vS T T.g_READERS T.o_a67)) (by with_unfolding_all rfl)) (W6 (bN (UH b) (Y5 (neg:=ba)) (Z6 a (vv 0) cK) (aA (by rfl) (vS T T.g_WRITERS T.o_a70)) (by with_unfolding_all rfl))))) (Z6 a (vv 0) cK) a6)))
def Vv:aL P w K mg base "names_of" 2 DW [] VL 171:=
 WN P base Nx13 DW 1 K0 [] T T.p_x13 λb e d c=>by exact(cJ (B8 (i:=1) (j:=2) rfl rfl b.nd rfl rfl (by decide) (Ml rfl) (Ml rfl) (vv 0)) (cI (cB (a8 (ZO ["part","given"] [] 2 (Ux rfl (by rfl) T.n_zip (cH (bF (Ut T) e (cF (vv 1) cE))) (vv 2)) (λa _ _ _ _=>⟨(YV (K:=K) rfl rfl (bM (bZ a) (bM (bZ a) ZM))),(HY (Y0 d (vv 0) b9)),(vv 1)⟩))))))
def Xj:aL P w K mg base "may_name" 2 Nx14 [] VJ 178:=
 WN P base Nx14 Nx14 1 QC [] T T.p_x14 λc b d a=>by exact(cI (cB (U1 (bF (D_x0 T) b (cF (vv 0) (cF cK (cF (cH (ZN XJ U8 (XQ T.n_len (vv 1)) cK)) cE)))) (SY (Z6 a (vv 1) (vv 0))))))
def Zn:aL P w K mg base "fits" 3 Nx15 [] RU 185:=
 WN P base Nx15 Nx15 2 KY [] T T.p_x15 λd a b c=>by
  exact(cJ (bI (Y0 b (vv 0) b9)
   (cI (cB (bF (D_x0 T) a (cF (vv 1) (cF cK (cF (cH (aA (by rfl) (vI T T.g_MOST_WORD))) cE))))))
   b7) (cJ (bI (Y0 b (vv 0) b9)
   (cI (cB (bF (D_x0 T) a (cF (vv 1) (cF cK (cF (cH (aA (by rfl) (vI T T.g_MOST_PLACE))) cE))))))
   b7) (cI (cB (bF (Xj T) a (cF (vv 1) (cF (vv 2) cE)))))))
def Uf:aL P w K mg base "is_row" 4 Nx14 [] RV 190:=
 WN P base Nx16 Nx14 3 KZ [] T T.p_x16 λa c b e=>by
  exact(cJ (bI (UT (UU (YM (ZE (L6 T.n_isinstance (vv 0) (vty T.n_tuple YX)))) (W6 (Y0 b (XQ T.n_len (vv 0)) cK))))
   (cI (cB XA))
   b7) (cJ (B8 (i:=2) (j:=3) rfl rfl a.nd rfl rfl (by decide) (Ml rfl) (Ml rfl) (vv 0)) (cJ (bO a.nd (aZ (cH (XB (ZE (L6 T.n_isinstance (vv 2) (vty T.n_str Xq))) (bF (Ut T) c (cF (vv 2) cE)) a6)))) (cJ (bI (UT (UU (bN LF FR (vv 4) a6) (W6 (bN (SH b) SV (XQ T.n_len (vv 4)) (XQ T.n_len (vv 3))))))
   (cI (cB XA))
   b7) (cI (cB (F7 (kAll rfl) Tk (by rfl) T.n_all CG (a8 (ZO ["able","part","given"] [1] 2 (Ux rfl (by rfl) T.n_zip (vv 4) (vv 3)) (λd _ _ _ _=>⟨(YV (K:=K) rfl rfl (bM (bZ d) (bM (bZ d) ZM))),W4,(cH (bF (Zn T) c (cF (vv 1) (cF (vv 2) (cF (vv 0) cE)))))⟩))))))))))
def eD:aL P w K mg base "is_block" 5 DX [] TR 197:=
 WN P base Nx17 DX 4 P2 [] T T.p_x17 λa b d c=>by
  exact(cJ (bI (UT (UU (YM (ZE (L6 T.n_isinstance (vv 0) (vty T.n_tuple YX)))) (W6 (bN (SH d) SV (XQ T.n_len (vv 0)) cK))))
   (cI (cB XA))
   b7) (cJ (SZ (vv 0) (YV (K:=K) rfl rfl (bM (bZ a.nd) (bM (bZ a.nd) ZM)))) (cJ (bI (YM (ZE (bF (D_x0 T) b (cF (vv 1) (cF cK (cF (cH (aA (by rfl) (vI T T.g_MOST_SURE))) cE))))))
   (cI (cB XA))
   b7) (cJ (bI (UT (UU (YM (ZE (L6 T.n_isinstance (vv 2) (vty T.n_tuple YX)))) (W6 (bN LD DJ (XQ T.n_len (vv 2)) (aA (by rfl) (vI T T.g_MOST_ROWS))))))
   (cI (cB XA))
   b7) (cJ (bO a.nd (WS (aR (bY cC)))) (cJ (W5 Cj rfl (X9 rfl (vv 2)) (bZ a.nd)
   (cJ (bI (YM (ZE (bF (Uf T) b (cF (vv 4) (bE (pv 3) cE)))))
   (cI (cB XA))
   b7)
   (cI (Y8 Be Bf aH YI (pv 3) (bY (cL (bF (Wj T) b (cF (vv 4) cE)) cC)))))) (cI (cB XA))))))))
def Vk:aL P w K mg base "is_cells" 2 Nx18 [] VH 202:=
 WN P base Nx18 Nx18 1 P4 [] T T.p_x18 λd b e a=>by
  exact(cJ (bI (UT (UU (YM (ZE (L6 T.n_isinstance (vv 0) (vty T.XX U5)))) (W6 (YM (F9 FE FE s_le s_le (vv 1) (XQ T.n_len (vv 0)) (aA (by rfl) (vI T T.g_MOST_CELLS)))))))
   (cI (cB XA))
   b7) (cI (cB (F7 (kAll rfl) Tk (by rfl) T.n_all CG (a8 (ZO ["word"] [] 1 (X9 rfl (vv 0)) (λc _ _ _ _=>⟨(bZ c),W4,(cH (bF (D_x0 T) b (cF (vv 0) (cF cK (cF (cH (aA (by rfl) (vI T T.g_MOST_WORD))) cE)))))⟩)))))))
def gS:aL P w K mg base "touches" 1 Qx9 [] XS 209:=
 WN P base Qx9 Qx9 0 RB [] T T.p_x19 λc d b a=>by
  exact(cJ (bI (Y0 b (vv 0) b9)
   (cI (cB (XO (SH b) SV (Z6 a (vv 1) cK) cK)))
   b7) (cJ (bI (Y0 b (vv 0) b9)
   (cI (cB (XO (SH b) SV (Z6 a (vv 1) cK) cK)))
   b7) (cI (cB XA))))
def Zl:aL P w K mg base "do_on_cell" 2 Nx20 [3] aM 216:=
 WN P base Nx20 Nx20 1 aF [3] T T.p_x20 λd c b a=>by
  exact(cJ (bI (YM (ZE (bF (gS T) c (cF (vv 0) (cF (vv 2) cE)))))
   (cI (cB (bQ (cL (XB (Y0 b (vv 0) b9) (Z6 a (vv 2) cK) a6) (cL a6 cC)))))
   b7) (cJ (bI (bN Tt s_ge (vv 1) (XQ T.n_len (vo 3)))
   (cI (cB (bQ (cL a6 (cL b9 cC)))))
   b7) (cJ (bI (bN (UH b) (Y5 (neg:=ba)) (vv 0) (aA (by rfl) (vS T T.g_WRITERS T.o_a70)) (by with_unfolding_all rfl))
   (cJ (Xx rfl (pv 3) (vv 1) (cH (Z6 a (vv 2) cK)))
   (cI (cB (bQ (cL a6 (cL a6 cC))))))
   b7) (cI (cB (bQ (cL (Z6 a (vo 3) (vv 1)) (cL a6 cC))))))))
omit T in
def HR:XD Nx21 Qx21 (bJ (top 40)):=mkSc
def jJ{Td f:Sf}{fd:Ey}(F:B9 K "do_row" "do_row" (top 40) (.ref Td) f fd):S9 P w K mg base CX0 3 f fd Qx21 (spV K [2] 4 X1):=
 B9.okV (P:=P) (w:=w) (mg:=mg) (base:=base) (K:=K) (N:=Nx21) (ps:=Qx21) (k:=2) (g:=R6) (ml:=[2]) F HR (by decide) λd A outer s H E b=>by
  have c:=b.units;have a:=Wo b;exact(cJ (bO HR.nd (aZ (cH (Z6 a (vv 0) cK)))) (cJ (bI (Y0 c (vv 4) b9)
   (cI (cB (bQ (cL (Z6 a (vv 0) cK) (cL a6 cC)))))
   b7) (cJ (bO HR.nd (aZ (cH (bF (dQ T) b (cF (vv 0) cE))))) (cJ (bI (bN RH N7 (vv 5) a6)
   (cI (cB (bF (Zl T) b (cF (vv 4) (cF (cH (bD Z8 aX (vv 5) (vv 3))) (cF (vv 1) (bE (pv 2) cE)))))))
   b7) (cJ (bO HR.nd (aZ (cH (bF (D_x9 T) b (cF (vv 4) (cF (vv 1) cE)))))) (cI (cB (bQ (cL (vv 6) (cL (XB (bN LF FR (vv 6) a6) b9 a6) cC))))))))))
def Xc:DefD P w K mg base "do_row" 3 Qx21 (spV K [2] 4 X1) 224 (.int 0):=
 ⟨T.fnm _ _ T.a_x21,⟨_,_,jJ T (AG (st:=top 40) T.l_x21 T.c_x21 T.k_x21),(AG (st:=top 40) T.l_x21 T.c_x21 T.k_x21).binds (ps:=Qx21) (ds:=[.int 0 497]) (m:=3) T.o_a2 rfl λ_ _ _ _ _ _ us hl=>match us,hl with|[_,_,_],_=>⟨_,rfl,rfl⟩,⟨_,rfl⟩⟩,T.k_x21⟩
def Yl:aL P w K mg base "do_rows" 4 Qx22 [1] Q0 229:=
 WN P base Nx22 Qx22 3 NP [1] T T.p_x22 λa c f b=>by
  exact(cJ (bO a.nd (WS (aR (bY cC)))) (cJ (W5 Cj rfl (PN rfl (by rfl) T.n_enumerate (vv 0)) (YV (K:=K) rfl rfl (bM (bZ a.nd) (bM (bZ a.nd) ZM)))
   (cJ (SZ (cH (F8 (K:=K) (v:=(.int 0)) (d:=(.int 0)) rfl (Xc T) (λ_ _ _=>(.int _)) (λ_=>nofun) c (by decide) (by rfl) (cF (vv 4) (cF (a8 (ZO ["words","name"] [2] 1 (X9 rfl (cH (bF (Vv T) c (cF (vv 4) cE)))) (λe _ _ _ _=>⟨(bZ e),W4,(cH (Z6 b (vo 0) (vv 1)))⟩))) (bE (pv 1) cE))))) (YV (K:=K) rfl rfl (bM (bZ a.nd) (bM (bZ a.nd) ZM))))
   (cJ (bI (bN RH N7 (vv 6) a6)
   (cI (cB (bQ (SW (pv 2) (cL (bQ (cL (vv 3) (cL (vv 6) cC))) cC)))))
   b7)
   (cI (Y8 Be Bf aH YI (pv 2) (bY (cL (vv 5) cC))))))) (cI (cB (bQ (SW (pv 2) (cL a6 cC)))))))
def Yn:aL P w K mg base "check_run" 6 Nx23 [] U2 236:=
 WN P base Nx23 Nx23 5 R0 [] T T.p_x23 λc b d a=>by
  exact(cJ (bI (YM (ZE (bF (eD T) b (cF (vv 0) cE))))
   (cI PR)
   b7) (cI (bI (YM (ZE (bF (Vk T) b (cF (vv 1) (cF (cH (Z6 a (vv 0) cK)) cE)))))
   (cI PR)
   b7)))
def kj:aL P w K mg base "run" 7 Nx23 [] Tb 243:=
 WN P base Nx24 Nx23 6 Tn [] T T.p_x24 λa c d b=>by exact(cJ (iU (bF (Yn T) c (cF (vv 0) (cF (vv 1) cE)))) (cJ (bO a.nd (WS (J3 NW XX (by rfl) T.XX U5 (vv 1)))) (cJ (SZ (cH (bF (Yl T) c (cF (cH (Z6 b (vv 0) cK)) (bE (pv 2) cE)))) (YV (K:=K) rfl rfl (bM (bZ a.nd) (bM (bZ a.nd) ZM)))) (cI (cB (bQ (SW (pv 2) (cL (vv 4) cC))))))))
def ky:aL P w K mg base "is_if" 1 DX [] MA 250:=
 WN P base DX DX 0 AI [] T T.p_x25 λc d b a=>by
  exact(cJ (bI (UT (UU (YM (ZE (L6 T.n_isinstance (vv 0) (vty T.n_tuple YX)))) (W6 (bN (SH b) SV (XQ T.n_len (vv 0)) cK))))
   (cI (cB XA))
   b7) (cI (cB (U1 (L6 T.n_isinstance (Z6 a (vv 0) cK) (vty T.n_str Xq)) (SY (veq b (Z6 a (vv 0) cK) b9))))))
def dE{R:bW}{b:Nat}(f:4<=b)(DS:aL P w K mg base "sight_behind" b Qx27 [] R 264):aL P w K mg base "sight_behind_if" (b+1) Qx26 [] (YQ R) 257:=
 WN P base Nx26 Qx26 (b+0) (XI R) [] T T.p_x26 λa d e c=>by
  exact(cJ (bI (UT (UU (Y0 e (vv 2) (aA (by rfl) (vI T T.g_MOST_DEEP))) (W6 (YM (ZE (bF (hk:=by lia) (Xj T) d (cF (cH (Z6 c (vv 0) cK)) (cF (vv 1) cE))))))))
   (cI (cB a6))
   b7) (cJ (bO a.nd (aZ (cH (bD Z8 aX (vv 1) (a8 (aR (bY (cL XA cC)))))))) (cJ (W5 Cj rfl (X9 rfl (cH (PM rfl (vv 0) (PQ cK) PP))) (bZ a.nd)
   (cJ (bO a.nd (aZ (cH (bF (hk:=by lia) DS d (cF (vv 4) (cF (vv 3) (cF (cH (bD Z8 aX (vv 2) cK)) cE)))))))
   (cJ (bI (bN LF FR (vv 5) a6)
   (cI (cB a6))
   b7)
   (cI (bO a.nd (aZ (cH (bD Z8 aX (vv 3) (bD kRep jO (a8 (aR (bY (cL XA cC)))) (ZN XJ U8 (XQ T.n_len (vv 5)) (XQ T.n_len (vv 3)))))))))))) (cI (cB (vv 3))))))
def jc{R:bW}{b:Nat}(e:4<=b)(DS:aL P w K mg base "sight_behind" b Qx27 [] R 264):aL P w K mg base "sight_behind" (b+2) Qx27 [] (aT 5 [] (YH R)) 264:=
 WN P base Nx27 Qx27 (b+1) (YH R) [] T T.p_x27 λa c f d=>by
  exact(cJ (bI (YM (ZE (L6 T.n_isinstance (vv 0) (vty T.n_tuple YX))))
   (cI (cB a6))
   b7) (cJ (bO a.nd (aZ (vv 1))) (cJ (W5 Cj rfl (X9 rfl (vv 0)) (bZ a.nd)
   (cJ (bI (ZE (bF (hk:=by lia) (ky T) c (cF (vv 4) cE)))
   (cI (bO a.nd (aZ (cH (bF (hk:=by lia) (dE T e DS) c (cF (vv 4) (cF (vv 3) (cF (vv 2) cE))))))))
   (cI (bI (ZE (bF (hk:=by lia) (Uf T) c (cF (vv 4) (cF (vv 3) cE))))
   (cI (bO a.nd (aZ (cH (bD Z8 aX (vv 3) (a8 (aR (bY (cL (bF (hk:=by lia) (Wj T) c (cF (vv 4) cE)) cC)))))))))
   (cI (cB a6)))))
   (cI (bI (UT (UU (bN LF FR (vv 3) a6) (W6 (bN LD DJ (XQ T.n_len (vv 3)) (aA (by rfl) (vI T T.g_MOST_TREE_ROWS))))))
   (cI (cB a6))
   b7)))) (cI (cB (vv 3))))))
def jg:∀n,aL P w K mg base "sight_behind" (4+2*n) Qx27 [] (aN n) 264:=λn=>by
 induction n with
 |zero=>exact mkDg T.fnm T.p_x27 (λU=>OX) (Len3 λ_ _ _=>rfl)
 |succ n D=>exact jc T (Ga _ _) D
def DS:aL P w K mg base "sight_behind" 20 Qx27 [] (aN 8) 264:=jg T 8
def eR:aL P w K mg base "is_tree" 21 DX [] Q2 271:=
 WN P base DX DX 20 NR [] T T.p_x28 λd b c a=>by
  exact(cJ (bI (UT (UU (YM (ZE (L6 T.n_isinstance (vv 0) (vty T.n_tuple YX)))) (W6 (bN (SH c) SV (XQ T.n_len (vv 0)) cK))))
   (cI (cB XA))
   b7) (cI (cB (U1 (bF (D_x0 T) b (cF (cH (Z6 a (vv 0) cK)) (cF cK (cF (cH (aA (by rfl) (vI T T.g_MOST_SURE))) cE)))) (SY (XO RH N7 (bF (DS T) b (cF (cH (Z6 a (vv 0) cK)) (cF (a8 (aR (bY cC))) (cF cK cE)))) a6))))))
def gC{R:bW}{b:Nat}(f:0<=b)(zA6:aL P w K mg base "listed" b Qx29 [] R 278):aL P w K mg base "listed" (b+1) Qx29 [] (aT 4 [] (SA R)) 278:=
 WN P base Nx29 Qx29 (b+0) (SA R) [] T T.p_x29 λc d e a=>by
  exact(cJ (bO c.nd (WS (aR (bY cC)))) (cJ (W5 Cj rfl (X9 rfl (vv 0)) (bZ c.nd)
   (cJ (Y8 Be Bf aH YI (pv 2) (bY (cL (bQ (cL (vv 3) (cL (vv 1) cC))) cC)))
   (cI (bI (Y0 e (Z6 a (vv 3) cK) b9)
   (cJ (Y8 Kq Kr (Wc (K:=K) rfl) Wr (pv 2) (bY (cL (bF (hk:=by lia) zA6 d (cF (cH (Z6 a (vv 3) cK)) (cF (cH (bD Z8 aX (vv 1) (bQ (cL (bQ (cL (Z6 a (vv 3) cK) (cL XA cC))) cC)))) cE))) cC)))
   (cI (Y8 Kq Kr (Wc (K:=K) rfl) Wr (pv 2) (bY (cL (bF (hk:=by lia) zA6 d (cF (cH (Z6 a (vv 3) cK)) (cF (cH (bD Z8 aX (vv 1) (bQ (cL (bQ (cL (Z6 a (vv 3) cK) (cL XA cC))) cC)))) cE))) cC)))))
   b7)))) (cI (B7 (pv 2)))))
def lh:∀n,aL P w K mg base "listed" (0+1*n) Qx29 [] (X2 n) 278:=λn=>by
 induction n with
 |zero=>exact mkDg T.fnm T.p_x29 (λU=>OX) (Len2 λ_ _=>rfl)
 |succ n D=>exact gC T (Ga _ _) D
def zA6:aL P w K mg base "listed" 8 Qx29 [] (X2 8) 278:=lh T 8
def Zv:aL P w K mg base "do_tree" 9 Qx22 [1] Q1 283:=
 WN P base Nx30 Qx22 8 NQ [1] T T.p_x30 λa f e b=>by
  exact(cJ (bO a.nd (WS (aR (bY cC)))) (cJ (W5 Cj rfl (PN rfl (by rfl) T.n_enumerate (cH (bF (zA6 T) f (cF (vv 0) (cF (cH (bQ cC)) cE))))) (YV (K:=K) rfl rfl (bM (bZ a.nd) (bM (YV (K:=K) rfl rfl (bM (bZ a.nd) (bM (bZ a.nd) ZM))) ZM)))
   (cJ (SZ (cH (bQ (cL a6 (cL a6 cC)))) (YV (K:=K) rfl rfl (bM (bZ a.nd) (bM (bZ a.nd) ZM))))
   (cJ (bI (UT (UC (bN (SH e) SV (Z6 b (vv 4) cK) b9) (UD (ZE (F7 (kAll rfl) Tk (by rfl) T.n_all CG (a8 (ZO ["words","c","side"] [2] 2 (X9 rfl (vv 5)) (λc _ _ _ _=>⟨(YV (K:=K) rfl rfl (bM (bZ c) (bM (bZ c) ZM))),W4,(cH (veq e (XO (SH e) SV (Z6 b (vo 0) (vv 1)) cK) (vv 2)))⟩))))))))
   (cI (SZ (cH (F8 (K:=K) (v:=(.int 0)) (d:=(.int 0)) rfl (Xc T) (λ_ _ _=>(.int _)) (λ_=>nofun) f (by decide) (by rfl) (cF (vv 4) (cF (a8 (ZO ["words","name"] [2] 1 (X9 rfl (cH (bF (Vv T) f (cF (vv 4) cE)))) (λc _ _ _ _=>⟨(bZ c),W4,(cH (Z6 b (vo 0) (vv 1)))⟩))) (bE (pv 1) cE))))) (YV (K:=K) rfl rfl (bM (bZ a.nd) (bM (bZ a.nd) ZM)))))
   b7)
   (cJ (bI (bN RH N7 (vv 7) a6)
   (cI (cB (bQ (cL (vv 3) (cL (vv 7) cC)))))
   b7)
   (cI (Y8 Be Bf aH YI (pv 2) (bY (cL (vv 6) cC)))))))) (cI (cB a6))))
def Uj:aL P w K mg base "run_tree" 22 Qx31 [] VM 290:=
 WN P base Nx31 Qx31 21 QD [] T T.p_x31 λc b d a=>by
  exact(cJ (bI (YM (ZE (bF (eR T) b (cF (vv 0) cE))))
   (cI PR)
   b7) (cJ (bI (YM (ZE (bF (Vk T) b (cF (vv 1) (cF (cH (Z6 a (vv 0) cK)) cE)))))
   (cI PR)
   b7) (cJ (bO c.nd (WS (J3 NW XX (by rfl) T.XX U5 (vv 1)))) (cJ (bO c.nd (aZ (cH (bF (Zv T) b (cF (cH (Z6 a (vv 0) cK)) (bE (pv 2) cE)))))) (cI (cB (bQ (SW (pv 2) (cL (vv 3) cC)))))))))
def lC:aL P w K mg base "_law_cell_at" 1 Qx32 [] YW 297:=
 WN P base Nx32 Qx32 0 UZ [] T T.p_x32 λb d c a=>by
  exact(cJ (bI (bN JJ s_lt (vv 1) (XQ T.n_len (vv 0)))
   (cI (cB (Z6 a (vv 0) (vv 1))))
   b7) (cJ (bI (Y0 c (vv 0) (a8 (aR (bY cC))))
   (cI (cB cK))
   b7) (cJ (bO b.nd (aZ (cH (Z6 a (vv 0) (ZN VQ SU (vv 1) (XQ T.n_len (vv 0))))))) (cJ (W5 Cj rfl (US (by rfl) T.n_range (J0 (NJ rfl) Tr (by rfl) T.n_min CH (ZN OY LX (vv 1) (XQ T.n_len (vv 0))) cK)) (bZ b.nd)
   (cI (bO b.nd (aZ (cH (ZN OY LX (vv 2) cK)))))) (cI (cB (bD Z8 aX (bD Z8 aX (bD QE T0 (Z6 a (vv 0) (ZN VQ SU (vv 1) (XQ T.n_len (vv 0)))) cK) (vv 1)) (bD QE T0 (vv 2) cK))))))))
def dM:aL P w K mg base "_law_mixed" 2 Qx33 [] U3 304:=
 WN P base Nx33 Qx33 1 R8 [] T T.p_x33 λa c d b=>by exact(cJ (bO a.nd (aZ (cH (ZN VQ SU (bD Z8 aX (bD Z8 aX (bD QE T0 (bF (lC T) c (cF (vv 0) (cF (vv 1) cE))) cK) (bD QE T0 cK (vv 1))) cK) cK)))) (cI (cB (ZN VQ SU (ZN VQ SU (ZN VQ SU (ZN lQ lM (vv 3) cK) cK) cK) (vv 2)))))
def WI:aL P w K mg base "_law_draw" 3 Nx34 [1] bB 311:=
 WN P base Nx34 Nx34 2 P6 [1] T T.p_x34 λc b d a=>by exact(cJ (Y8 Be Bf aH YI (pv 1) (bY (cL cK cC))) (cI (cB (bF (dM T) b (cF (vv 0) (cF (cH (XQ T.n_len (vo 1))) (cF (vv 2) cE)))))))
def TH:aL P w K mg base "_law_pick" 4 Nx35 [1] aB 318:=
 WN P base Nx35 Nx35 3 P8 [1] T T.p_x35 λc b d a=>by exact(cI (cB (Z6 a (vv 2) (bF (WI T) b (cF (vv 0) (bE (pv 1) (cF (cH (XQ T.n_len (vv 2))) cE)))))))
def DT:aL P w K mg base "_law_place" 5 Nx36 [1,2] ZF 325:=
 WN P base Nx36 Nx36 4 R9 [1,2] T T.p_x36 λc b d a=>by exact(cJ (MP a (pv 2) (vv 3) (cH (ZN VQ SU (bD Z8 aX (Ye a (pv 2) (vv 3) (cH (bF (WI T) b (cF (vv 0) (bE (pv 1) (cF (vv 4) cE))))) ⟨rfl,rfl,rfl,rfl⟩) (bF (TH T) b (cF (vv 0) (bE (pv 1) (cF (a8 (aR (bY (cL cK (cL cK (cL cK (cL cK (cL cK cC)))))))) cE))))) (vv 4))) rfl) (cI (cB (Z6 a (vo 2) (vv 3)))))
def Vp:aL P w K mg base "_law_row" 6 Qx37 [1,3] UE 330:=
 WN P base Nx37 Qx37 5 NT [1,3] T T.p_x37 λd a b c=>by
  exact(cJ (bO d.nd (aZ (cH (bF (WI T) a (cF (vv 0) (bE (pv 1) (cF cK cE))))))) (cJ (bI (UT (UU (Y0 b (vv 2) (a8 (aR (bY cC)))) (W6 (Y0 b (vv 5) cK))))
   (cJ (bI (Y0 b (bF (WI T) a (cF (vv 0) (bE (pv 1) (cF cK cE)))) cK)
   (cI (cB (bQ (cL b9 (cL (bF (TH T) a (cF (vv 0) (bE (pv 1) (cF (a8 (aR (bY (cL cK (cL cK (cL cK (cL cK (cL cK (cL (bF (WI T) a (cF (vv 0) (bE (pv 1) (cF cK cE)))) cC))))))))) cE)))) cC)))))
   b7)
   (cI (cB (bQ (cL b9 (cL (bF (DT T) a (cF (vv 0) (bE (pv 1) (bE (pv 3) (cF b9 (cF (vv 4) cE)))))) cC))))))
   b7) (cJ (SZ (a8 (ZO ["_law_script","_law_town","_law_made","_law_k"] [0,1,2] 1 (US (by rfl) T.n_range cK) (λe _ _ _ _=>⟨(bZ e),W4,(cH (Z6 c (vv 2) (J0 (IK rfl) Uv (by rfl) T.n_max Xd cK (ZN XJ U8 (ZN XJ U8 (XQ T.n_len (vv 2)) cK) (bF (WI T) a (cF (vv 0) (bE (pv 1) (cF cK cE))))))))⟩))) (YV (K:=K) rfl rfl (bM (bZ d.nd) (bM (bZ d.nd) (bM (bZ d.nd) ZM))))) (cJ (bI (bN (UH b) (Y5 (neg:=ba)) (vv 5) (bQ (cL cK (cL cK cC))) (by with_unfolding_all rfl))
   (cI (cB (bQ (cL b9 (cL (bF (DT T) a (cF (vv 0) (bE (pv 1) (bE (pv 3) (cF b9 (cF (vv 4) cE)))))) cC)))))
   b7) (cJ (bI (Y0 b (vv 5) cK)
   (cI (cB (bQ (cL b9 (cL (bF (DT T) a (cF (vv 0) (bE (pv 1) (bE (pv 3) (cF b9 (cF (vv 4) cE)))))) (cL (vv 8) (cL (vv 6) cC)))))))
   b7) (cJ (bI (bN (UH b) (Y5 (neg:=ba)) (vv 5) (bQ (cL cK (cL cK cC))) (by with_unfolding_all rfl))
   (cI (cB (bQ (cL b9 (cL (bF (DT T) a (cF (vv 0) (bE (pv 1) (bE (pv 3) (cF b9 (cF (vv 4) cE)))))) (cL (vv 6) cC))))))
   b7) (cJ (bI (Y0 b (vv 5) cK)
   (cI (cB (bQ (cL b9 (cL (bF (DT T) a (cF (vv 0) (bE (pv 1) (bE (pv 3) (cF b9 (cF (vv 4) cE)))))) (cL (vv 6) (cL (vv 8) cC)))))))
   b7) (cJ (bI (Y0 b (vv 5) cK)
   (cI (cB (bQ (cL b9 (cL (vv 8) (cL (vv 6) (cL (vv 7) cC)))))))
   b7) (cI (cB (bQ (cL (Z6 c (a8 (aR (bY (cL b9 (cL b9 (cL b9 (cL b9 (cL b9 (cL b9 (cL b9 cC)))))))))) (bF (WI T) a (cF (vv 0) (bE (pv 1) (cF cK cE))))) (cL (vv 6) (cL (vv 7) cC))))))))))))))
def jt:aL P w K mg base "_law_next" 5 Qx39 [1,4] XU 344:=
 WN P base Nx39 Qx39 4 T5 [1,4] T T.p_x39 λb d c a=>by
  exact(cJ (bO b.nd (aZ (cH (Z6 a (vv 2) (OB cK))))) (cJ (bO b.nd (aZ (cH (XB (bN (UH c) (Y5 (neg:=ba)) (Z6 a (vv 6) cK) (bQ (cL b9 (cL b9 (cL b9 (cL b9 cC))))) (by with_unfolding_all rfl)) cK cK)))) (cJ (bO b.nd (WS (aR (bY cC)))) (cJ (W5 Cj rfl (X9 rfl (cH (PM rfl (vv 6) (PQ (vv 7)) PP))) (bZ b.nd)
   (cJ (bO b.nd (aZ (cH (bD Z8 aX (iB rfl (vv 3) (vv 9)) (bF (TH T) d (cF (vv 0) (bE (pv 1) (cF (a8 (aR (bY (cL cK (cL cK (cL cK (cL cK (cL (OB cK) (cL cK (cL cK cC)))))))))) cE))))))))
   (cI (Y8 Be Bf aH YI (pv 8) (bY (cL (XB (UT (UC (F9 FE JJ s_le s_lt cK (vv 10) (XQ T.n_len (vv 3))) (UD (bN (SH c) SV (Z6 a (vv 3) (vv 10)) (ZN XJ U8 (XQ T.n_len (vv 2)) cK))))) (Z6 a (vv 3) (vv 10)) (vv 9)) cC)))))) (cJ (bI (Y0 c (vv 7) cK)
   (cI (cB (bD Z8 aX (PM rfl (vv 6) PP (PQ cK)) (J1 RF Q6 (by rfl) T.n_tuple YX (vo 8)))))
   b7) (cJ (MP a (pv 4) (Z6 a (vv 6) cK) (cH (ZN VQ SU (bD Z8 aX (Z6 a (vv 6) cK) cK) (vv 5))) rfl) (cI (cB (bD Z8 aX (bQ (cL (Z6 a (vv 6) cK) (cL (Z6 a (vo 4) (Z6 a (vv 6) cK)) cC))) (J1 RF Q6 (by rfl) T.n_tuple YX (vo 8)))))))))))
def kq:aL P w K mg base "_law_rows" 7 Qx38 [1] TW 337:=
 WN P base Nx38 Qx38 6 P9 [1] T T.p_x38 λd c b a=>by
  exact(cJ (l4 (i:=4) (j:=5) (k:=6) rfl d.nd rfl rfl rfl (by decide) (by decide) (by decide) rfl rfl rfl (WS (aR (bY cC))) (WS (aR (bY cC))) (WS lT) rfl) (cJ (L8 Cj (bN JJ s_lt (XQ T.n_len (vo 4)) (vv 2))
   (cJ (Y8 Be Bf aH YI (pv 4) (bY (cL (bF (Vp T) c (cF (vv 0) (bE (pv 1) (bE (pv 5) (bE (pv 6) (cF (vv 3) cE)))))) cC)))
   (cJ (bI (bN (RE b) (Y5 (neg:=b5)) (Z6 a (Z6 a (vo 4) (OB cK)) cK) (bQ (cL b9 (cL b9 cC))) (by with_unfolding_all rfl))
   (cI (Y8 Be Bf aH YI (pv 5) (bY (cL (ZN XJ U8 (XQ T.n_len (vo 4)) cK) cC))))
   b7)
   (cI (W5 Cj rfl (US (by rfl) T.n_range (bF (TH T) c (cF (vv 0) (bE (pv 1) (cF (a8 (aR (bY (cL cK (cL cK (cL cK (cL cK (cL cK cC)))))))) cE))))) (bZ d.nd)
   (cI (bI (UT (UC (bN JJ s_lt (XQ T.n_len (vo 4)) (vv 2)) (UD (bN (SH b) SV (Z6 a (Z6 a (vo 4) (OB cK)) cK) b9))))
   (cJ (Y8 Be Bf aH YI (pv 4) (bY (cL (bF (jt T) c (cF (vv 0) (bE (pv 1) (bE (pv 4) (bE (pv 5) (bE (pv 6) (cF (vv 3) cE))))))) cC)))
   (cI (bI (bN (RE b) (Y5 (neg:=b5)) (Z6 a (Z6 a (vo 4) (OB cK)) cK) (bQ (cL b9 (cL b9 cC))) (by with_unfolding_all rfl))
   (cI (Y8 Be Bf aH YI (pv 5) (bY (cL (ZN XJ U8 (XQ T.n_len (vo 4)) cK) cC))))
   b7)))
   b7))))))) (cI (cB (J1 RF Q6 (by rfl) T.n_tuple YX (vo 4))))))
def Us:aL P w K mg base "_law_names" 1 Nx44 [] ZQ 375:=
 WN P base Nx44 Nx44 0 M9 [] T T.p_x44 λc d b a=>by
  exact(cJ (bI (Y0 b (Z6 a (vv 0) cK) b9)
   (cI (cB (a8 (aR (bY cC)))))
   b7) (cI (cB (XB (bN (UH b) (Y5 (neg:=ba)) (Z6 a (vv 0) cK) (bQ (cL b9 (cL b9 (cL b9 (cL b9 cC))))) (by with_unfolding_all rfl)) (a8 (J3 NW XX (by rfl) T.XX U5 (Tq (PM rfl (vv 0) (PQ cK) PP)))) (a8 (J3 NW XX (by rfl) T.XX U5 (Tq (PM rfl (vv 0) (PQ cK) PP))))))))
def Ta:aL P w K mg base "_law_may" 1 Qx45 [] WU 380:=
 WN P base Nx45 Qx45 0 NS [] T T.p_x45 λc e b a=>by
  exact(cJ (bO c.nd (aZ (cH (Z6 a (Z6 a (vv 0) cK) (vv 1))))) (cJ (bI (bN (UH b) (Y5 (neg:=ba)) (Z6 a (vv 2) cK) (bQ (cL b9 (cL b9 (cL b9 (cL b9 cC))))) (by with_unfolding_all rfl))
   (cI (cB (XO Tt s_ge (Z6 a (vv 2) cK) (Z6 a (vv 0) cK))))
   b7) (cI (cB (U1 (veq b (Z6 a (vv 2) cK) b9) (SY (XO (RE b) (Y5 (neg:=b5)) (PM rfl (Z6 a (Z6 a (vv 0) cK) (Z6 a (vv 2) cK)) PP (PQ cK)) (a8 (ZO ["_law_k"] [] 1 (Zu (by rfl) T.n_range cK cK) (λd _ _ _ _=>⟨(bZ d),W4,(cH (bQ (cL b9 (cL (vv 0) cC))))⟩))) (by with_unfolding_all rfl))))))))
def Ym:aL P w K mg base "_law_must" 2 Qx46 [] TU 385:=
 WN P base Nx46 Qx46 1 P7 [] T T.p_x46 λc d b a=>by
  exact(cJ (MQ (i:=1) (j:=2) rfl c.nd rfl rfl (by decide) rfl rfl (WS (aR (bY cC))) (aZ (cH (bQ (cL b9 (cL b9 (cL b9 (cL b9 cC))))))) rfl) (cJ (W5 Cj rfl (PN rfl (by rfl) T.n_enumerate (cH (Z6 a (vv 0) cK))) (YV (K:=K) rfl rfl (bM (bZ c.nd) (bM (bZ c.nd) ZM)))
   (cI (W5 Cj rfl (PN rfl (by rfl) T.n_enumerate (cH (PM rfl (Z6 a (vv 0) cK) PP (PQ (vv 3))))) (YV (K:=K) rfl rfl (bM (bZ c.nd) (bM (bZ c.nd) ZM)))
   (cJ (dO ba c.nd ["_law_row_here"] [] 1 (X9 rfl (cH (bQ (cL (vv 6) (cL (vv 4) cC))))) (λe _ _ _ _=>⟨(bZ e),(HY (bN (UH b) (Y5 (neg:=ba)) (Z6 a (vv 0) cK) (bQ (cL b9 (cL b9 cC))) (by with_unfolding_all rfl))),(vv 0)⟩))
   (cJ (bO c.nd (WS (aR (bY (cL (XO (UH b) (Y5 (neg:=ba)) (vv 5) (bF (Us T) d (cF (vv 4) cE)) (by with_unfolding_all rfl)) (cL (U1 (bF (Ta T) d (cF (vv 0) (cF (vv 5) cE))) (SY (bF (Ta T) d (cF (vv 0) (cF (vv 3) cE))))) cC))))))
   (cJ (Y8 Be Bf aH YI (pv 8) (bY (cL (U1 (XO (UH b) (Y5 (neg:=ba)) (Z6 a (vv 6) cK) (vv 2) (by with_unfolding_all rfl)) (U1 (XO (UH b) (Y5 (neg:=ba)) (Z6 a (vv 4) cK) (vv 2) (by with_unfolding_all rfl)) (U1 (veq b (Z6 a (vv 6) cK) (Z6 a (vv 4) cK)) (SY (XO (SH b) SV (vv 7) (a8 (aR (bY cC)))))))) cC)))
   (cJ (Y8 Be Bf aH YI (pv 8) (bY (cL (U1 (bF (Ta T) d (cF (vv 0) (cF (vv 5) cE))) (SY (XO (UH b) (Y5 (neg:=ba)) (Z6 a (vv 4) cK) (bQ (cL b9 (cL b9 cC))) (by with_unfolding_all rfl)))) cC)))
   (cJ (Y8 Be Bf aH YI (pv 8) (bY (cL (U1 (bF (Ta T) d (cF (vv 0) (cF (vv 3) cE))) (SY (XO (UH b) (Y5 (neg:=ba)) (Z6 a (vv 6) cK) (bQ (cL b9 (cL b9 cC))) (by with_unfolding_all rfl)))) cC)))
   (cI (bI (bN (UH b) (Y5 (neg:=ba)) XA (vo 8) (by with_unfolding_all rfl))
   (cI (Y8 Be Bf aH YI (pv 1) (bY (cL (bQ (cL (vv 5) (cL (vv 3) cC))) cC))))
   b7)))))))))) (cI (cB (a8 (Vy jE lp (by rfl) T.n_sorted II (Tq (vo 1))))))))
def cS:aL P w K mg base "_law_mixed_order" 5 Qx47 [1] YO 390:=
 WN P base Nx47 Qx47 4 XH [1] T T.p_x47 λd e b a=>by
  exact(cJ (mn (i:=3) (j:=4) (k:=5) rfl rfl d.nd rfl rfl rfl (by decide) (by decide) (by decide) (Mm rfl) (Mm rfl) (Ml rfl) (aZ (cH (bF (Ym T) e (cF (vv 2) cE)))) (WS (mB rfl (by rfl) T.XX U5 (by rfl) T.n_range D6 (XQ T.n_len (Z6 a (vv 2) cK)))) (WS (aR (bY cC)))) (cJ (L8 Cj (bN (SH b) SV (vo 4) (a8 (aR (bY cC))))
   (cJ (fI ba d.nd ["_law_pairs","_law_left","_law_row_here"] [3,4] 1 (lS rfl (vo 4)) (λc _ _ _ _=>⟨(bZ c),(HY (Y0 b (a8 (ZO ["_law_left","_law_row_here","_law_one","_law_two"] [1,2] 2 (X9 rfl (vv 0)) (λc _ _ _ _=>⟨(YV (K:=K) rfl rfl (bM (bZ c) (bM (bZ c) ZM))),(HY (UT (UC (Y0 b (vv 3) (vv 1)) (UD (bN (UH b) (Y5 (neg:=ba)) (vv 2) (vo 0) (by with_unfolding_all rfl)))))),cK⟩))) (a8 (aR (bY cC))))),(vv 2)⟩))
   (cJ (Y8 Be Bf aH YI (pv 5) (bY (cL (bF (TH T) e (cF (vv 0) (bE (pv 1) (cF (vv 6) cE)))) cC)))
   (cI (Y8 PySem.F.slot_list_remove PySem.F.type_list_remove jU Xz (pv 4) (bY (cL (Z6 a (vo 5) (OB cK)) cC))))))) (cI (B7 (pv 5)))))
def gB:aL P w K mg base "_law_renamed" 1 Qx48 [] aY 395:=
 WN P base Nx48 Qx48 0 ZX [] T T.p_x48 λc e b a=>by
  exact(cJ (bI (Y0 b (Z6 a (vv 0) cK) b9)
   (cI (cB (vv 0)))
   b7) (cJ (bO c.nd (aZ (cH (XB (bN (UH b) (Y5 (neg:=ba)) (Z6 a (vv 0) cK) (bQ (cL b9 (cL b9 (cL b9 (cL b9 cC))))) (by with_unfolding_all rfl)) cK cK)))) (cI (cB (bD Z8 aX (PM rfl (vv 0) PP (PQ (vv 2))) (J1 RF Q6 (by rfl) T.n_tuple YX (a8 (ZO ["_law_names_here","_law_name"] [1] 1 (X9 rfl (cH (PM rfl (vv 0) (PQ (vv 2)) PP))) (λd _ _ _ _=>⟨(bZ d),W4,(cH (Z6 a (vv 0) (vv 1)))⟩)))))))))
def fF:aL P w K mg base "_law_block" 8 Qx40 [1] WO 349:=
 WN P base Nx40 Qx40 7 U7 [1] T T.p_x40 λb a e c=>by
  exact(cJ (bO b.nd (aZ (cH (bF (TH T) a (cF (vv 0) (bE (pv 1) (cF (a8 (aR (bY (cL cK (cL cK (cL cK (cL cK cC))))))) cE))))))) (cJ (bO b.nd (aZ (cH (bF (TH T) a (cF (vv 0) (bE (pv 1) (cF (a8 (aR (bY (cL cK (cL (vv 3) (cL (vv 3) (cL (bF (WI T) a (cF (vv 0) (bE (pv 1) (cF (cH (bD Z8 aX (vv 3) cK)) cE)))) cC))))))) cE))))))) (cJ (bO b.nd (aZ (cH (bQ (cL (vv 4) (cL (bF (kq T) a (cF (vv 0) (bE (pv 1) (cF (cH (bF (WI T) a (cF (vv 0) (bE (pv 1) (cF (cH (bD Z8 aX (vv 2) cK)) cE))))) (cF (vv 3) cE))))) cC)))))) (cJ (bI (bN LD DJ (bF (WI T) a (cF (vv 0) (bE (pv 1) (cF cK cE)))) cK)
   (cI (cB (vv 5)))
   b7) (cJ (bO b.nd (aZ (cH (bF (cS T) a (cF (vv 0) (bE (pv 1) (cF (vv 5) cE))))))) (cJ (bO b.nd (aZ (a8 (jh rfl rfl (by rfl) T.n_dict l8 (a8 (ZO ["_law_number","_law_row_here"] [] 2 (PN rfl (by rfl) T.n_enumerate (vv 6)) (λd _ _ _ _=>⟨(YV (K:=K) rfl rfl (bM (bZ d) (bM (bZ d) ZM))),W4,(cH (bQ (cL (vv 1) (cL (vv 0) cC))))⟩))))))) (cI (cB (bQ (cL (vv 4) (cL (J1 RF Q6 (by rfl) T.n_tuple YX (a8 (ZO ["_law_block_here","_law_names_here","_law_row_here"] [5,7] 1 (X9 rfl (vv 6)) (λd _ _ _ _=>⟨(bZ d),W4,(cH (bF (gB T) a (cF (cH (Z6 c (Z6 c (vv 0) cK) (vv 2))) (cF (vv 1) cE))))⟩)))) cC)))))))))))
def Wq:aL P w K mg base "_law_cells" 5 Qx41 [1] WP 354:=
 WN P base Nx41 Qx41 4 R7 [1] T T.p_x41 λb a e c=>by exact(cJ (bO b.nd (aZ (cH (bF (TH T) a (cF (vv 0) (bE (pv 1) (cF (a8 (aR (bY (cL (vv 2) (cL (J0 (NJ rfl) Tr (by rfl) T.n_min CH cK (bD Z8 aX (vv 2) (bF (WI T) a (cF (vv 0) (bE (pv 1) (cF cK cE)))))) (cL cK cC)))))) cE))))))) (cJ (bO b.nd (aZ (cH (bF (TH T) a (cF (vv 0) (bE (pv 1) (cF (a8 (aR (bY (cL cK (cL cK (cL cK cC)))))) cE))))))) (cI (cB (a8 (ZO ["_law_script","_law_town","_law_small","_law_k"] [0,1,4] 1 (US (by rfl) T.n_range (vv 3)) (λd _ _ _ _=>⟨(bZ d),W4,(cH (bF (WI T) a (cF (vv 0) (bE (pv 1) (cF (vv 2) cE)))))⟩)))))))
def eN:aL P w K mg base "_law_deed" 1 Qx42 [] XT 361:=
 WN P base Nx42 Qx42 0 T4 [] T T.p_x42 λc d b a=>by
  exact(cJ (bI (Y0 b (vv 0) b9)
   (cI (cB (XB (Y0 b (Z6 a (vv 1) cK) cK) (Z6 a (vv 1) cK) (Z6 a (vv 1) cK))))
   b7) (cJ (SZ (vv 1) (YV (K:=K) rfl rfl (bM (bZ c.nd) (bM (bZ c.nd) ZM)))) (cJ (bI (bN (UH b) (Y5 (neg:=ba)) (vv 0) (bQ (cL b9 (cL b9 cC))) (by with_unfolding_all rfl))
   (cI (cB (Z6 a (a8 (Vy l7 Yh (by rfl) T.n_sorted II (vv 1))) (XB (Y0 b (vv 0) b9) cK cK))))
   b7) (cJ (bI (Y0 b (vv 0) b9)
   (cI (cB (XB (bN LD DJ (vv 3) (vv 2)) cK cK)))
   b7) (cJ (bI (Y0 b (vv 0) b9)
   (cI (cB (XB (Y0 b (vv 3) cK) a6 (jr (by rfl) T.n_len Wh (by rfl) T.n_range D6 (vv 3) (bD Z8 aX (vv 2) cK) (vv 3)))))
   b7) (cJ (bO c.nd (aZ (cH (Z6 a (a8 (kE (L7 b9 (cH (bD Z8 aX (vv 2) (vv 3))) (L7 b9 (cH (ZN XJ U8 (bD Z8 aX (vv 2) cK) (vv 3))) (L7 b9 (cH (bD QE T0 (vv 2) (vv 3))) l9))) rfl rfl (by simp) (by decide))) (vv 0))))) (cI (cB (ZN XJ U8 (vv 4) (bD QE T0 (ZN OY LX (vv 4) cK) cK))))))))))
def Yk:aL P w K mg base "_law_step" 2 Qx43 [3] TY 368:=
 WN P base Nx43 Qx43 1 QA [3] T T.p_x43 λc d b a=>by
  exact(cJ (bI (bN (RE b) (Y5 (neg:=b5)) (Z6 a (vv 0) cK) (bQ (cL b9 (cL b9 (cL b9 (cL b9 cC))))) (by with_unfolding_all rfl))
   (cJ (bO c.nd (aZ (cH (bF (eN T) d (cF (cH (Z6 a (vv 0) cK)) (cF (vv 2) cE))))))
   (cI (cB (bQ (cL (vv 4) (cL (XB (bN LF FR (vv 4) a6) b9 a6) cC))))))
   b7) (cJ (bO c.nd (aZ (cH (bD Z8 aX (Z6 a (vv 0) cK) (vv 1))))) (cJ (bI (UT (UC (Y0 b (Z6 a (vv 0) cK) b9) (UD (Y0 b (Z6 a (vv 2) cK) cK))))
   (cI (cB (bQ (cL (Z6 a (vv 2) cK) (cL a6 cC)))))
   b7) (cJ (bI (UT (UC (Y0 b (Z6 a (vv 0) cK) b9) (UD (Y0 b (Z6 a (vv 2) cK) cK))))
   (cI (cB (bQ (cL a6 (cL a6 cC)))))
   b7) (cJ (bI (bN Tt s_ge (vv 5) (XQ T.n_len (vo 3)))
   (cI (cB (bQ (cL a6 (cL b9 cC)))))
   b7) (cJ (bI (bN (UH b) (Y5 (neg:=ba)) (Z6 a (vv 0) cK) (bQ (cL b9 (cL b9 cC))) (by with_unfolding_all rfl))
   (cI (cB (bQ (cL (Z6 a (vo 3) (vv 5)) (cL a6 cC)))))
   b7) (cJ (Xx rfl (pv 3) (vv 5) (cH (Z6 a (vv 2) cK))) (cI (cB (bQ (cL a6 (cL a6 cC))))))))))))
def Zc{R:bW}{c:Nat}(f:6<=c)(zA4:aL P w K mg base "_law_tree_rows" c Qx49 [1,4] R 402):aL P w K mg base "_law_tree_rows" (c+1) Qx49 [1,4] (aT 14 [1,4] (YZ R)) 402:=
 WN P base Nx49 Qx49 (c+0) (YZ R) [1,4] T T.p_x49 λa b e d=>by
  exact(cJ (MQ (i:=6) (j:=7) rfl a.nd rfl rfl (by decide) rfl rfl (WS (aR (bY cC))) (aZ (cH (XQ T.n_len (Xv (pv 4) (j:=1) WZ)))) rfl) (cJ (L8 Cj (bN LD DJ (vv 2) cK)
   (cI (bI (UT (UC (bN (SH e) SV (Xv (pv 4) (j:=1) WZ) (a8 (aR (bY cC)))) (UC (bN JJ s_lt (vv 3) cK) (UC (bN LD DJ (vv 2) cK) (UD (Y0 e (bF (hk:=by lia) (WI T) b (cF (vv 0) (bE (pv 1) (cF cK cE)))) cK))))))
   (cJ (MQ (i:=8) (j:=9) rfl a.nd rfl rfl (by decide) rfl rfl (aZ (cH (bF (hk:=by lia) (TH T) b (cF (vv 0) (bE (pv 1) (mH (pv 4) (j:=1) WZ cE)))))) (aZ (cH (bF (hk:=by lia) (WI T) b (cF (vv 0) (bE (pv 1) (cF (vv 2) cE)))))) rfl)
   (cJ (iF (k:=10) rfl a.nd rfl rfl (pv 4) (j:=0) WZ (bY (cL (bD Z8 aX (Th (pv 4) (j:=0) WZ) cK) (cL (ZN OY LX (vv 9) cK) cC))))
   (cJ (bO a.nd (aZ (cH (bF (hk:=by lia) zA4 b (cF (vv 0) (bE (pv 1) (cF (cH (ZN XJ U8 (vv 9) (vv 10))) (cF (cH (bD Z8 aX (vv 3) cK)) (bE (pv 4) (cF (vv 5) cE))))))))))
   (cJ (bO a.nd (aZ (cH (bF (hk:=by lia) zA4 b (cF (vv 0) (bE (pv 1) (cF (vv 10) (cF (cH (bD Z8 aX (vv 3) cK)) (bE (pv 4) (cF (vv 5) cE))))))))))
   (cJ (Y8 Be Bf aH YI (pv 6) (bY (cL (bQ (cL b9 (cL (vv 8) (cL (vv 11) (cL (vv 12) cC))))) cC)))
   (cI (bO a.nd (aZ (cH (ZN XJ U8 (ZN XJ U8 (vv 2) cK) (vv 9)))))))))))
   (cJ (bO a.nd (aZ (cH (hV (K:=K) (i:=3) (mF:=[1]) rfl (Vp T) (by decide) b (by lia) (by rfl) (J2 (vv 0) (Xm (pv 1) (kT (pv 4) (j:=1) WZ (lV (pv 5)))))))))
   (cJ (bI (bN (RE e) (Y5 (neg:=b5)) (Z6 d (vv 13) cK) (bQ (cL b9 (cL b9 cC))) (by with_unfolding_all rfl))
   (cI (Za (pv 4) (j:=1) WZ (bY (cL (Th (pv 4) (j:=0) WZ) cC))))
   b7)
   (cJ (Yo (pv 4) (j:=0) WZ (cH (bD Z8 aX (Th (pv 4) (j:=0) WZ) cK)))
   (cJ (Y8 Be Bf aH YI (pv 6) (bY (cL (vv 13) cC)))
   (cI (bO a.nd (aZ (cH (ZN XJ U8 (vv 2) cK)))))))))))) (cJ (bI (bN LD DJ (vv 3) cK)
   (cI (eX (pv 4) (j:=1) WZ (vv 7) (aR (bY cC))))
   b7) (cI (cB (J1 RF Q6 (by rfl) T.n_tuple YX (vo 6)))))))
def cP:∀n,aL P w K mg base "_law_tree_rows" (6+1*n) Qx49 [1,4] (Z5 n) 402:=λn=>by
 induction n with
 |zero=>exact mkDg T.fnm T.p_x49 (λU=>OX) (Len6 λ_ _ _ _ _ _=>rfl)
 |succ n D=>exact Zc T (Ga _ _) D
def zA4:aL P w K mg base "_law_tree_rows" 14 Qx49 [1,4] (Z5 8) 402:=cP T 8
def dP:aL P w K mg base "_law_tree" 15 Qx40 [1] TZ 409:=
 WN P base Nx50 Qx40 14 QB [1] T T.p_x50 λb a d c=>by exact(cJ (bO b.nd (aZ (cH (bF (TH T) a (cF (vv 0) (bE (pv 1) (cF (a8 (aR (bY (cL cK (cL cK (cL cK cC)))))) cE))))))) (cJ (bO b.nd (aZ (cH (lX (i:=4) (mF:=[1]) (zA4 T) a (J2 (vv 0) (Xm (pv 1) (J2 (cH (bF (WI T) a (cF (vv 0) (bE (pv 1) (cF (cH (bD Z8 aX (vv 2) cK)) cE))))) (J2 cK (lD (n:=0) WZ (pv 3)))))))))) (cI (cB (bQ (cL (bF (TH T) a (cF (vv 0) (bE (pv 1) (cF (a8 (aR (bY (cL cK (cL (vv 3) (cL (bF (WI T) a (cF (vv 0) (bE (pv 1) (cF (cH (bD Z8 aX (vv 3) cK)) cE)))) cC)))))) cE)))) (cL (vv 4) cC)))))))
def mQ{R:bW}{b:Nat}(g:0<=b)(DU:aL P w K mg base "_law_many" b Nx51 [] R 414):aL P w K mg base "_law_many" (b+1) Nx51 [] (aT 1 [] (VN R)) 414:=
 WN P base Nx51 Nx51 (b+0) (VN R) [] T T.p_x51 λf c d a=>by exact(cI (cB (F7 (Zb rfl) jL (by rfl) T.n_sum gT (a8 (ZO ["_law_row_here"] [] 1 (X9 rfl (vv 0)) (λe _ _ _ _=>⟨(bZ e),W4,(cH (bD Z8 aX cK (XB (Y0 d (Z6 a (vv 0) cK) b9) (bD Z8 aX (bF (hk:=by lia) DU c (cF (cH (Z6 a (vv 0) cK)) cE)) (bF (hk:=by lia) DU c (cF (cH (Z6 a (vv 0) cK)) cE))) cK)))⟩))))))
def fU:∀n,aL P w K mg base "_law_many" (0+1*n) Nx51 [] (YF n) 414:=λn=>by
 induction n with
 |zero=>exact mkDg T.fnm T.p_x51 (λU=>OX) (Len1 λ_=>rfl)
 |succ n D=>exact mQ T (Ga _ _) D
def DU:aL P w K mg base "_law_many" 8 Nx51 [] (YF 8) 414:=fU T 8
def iZ{R:bW}{d:Nat}(g:8<=d)(zA3:aL P w K mg base "_law_tree_play" d Qx52 [2,3] R 419):aL P w K mg base "_law_tree_play" (d+1) Qx52 [2,3] (aT 9 [2,3] (YY R)) 419:=
 WN P base Nx52 Qx52 (d+0) (YY R) [2,3] T T.p_x52 λb c e a=>by
  exact(cJ (W5 Cj rfl (X9 rfl (vv 0)) (bZ b.nd)
   (cJ (bO b.nd (aZ a6))
   (cJ (bI (Y0 e (Z6 a (vv 4) cK) b9)
   (cJ (bO b.nd (aZ (cH (bD Z8 aX (bD Z8 aX (vv 1) cK) (bF (hk:=by lia) (DU T) c (cF (cH (Z6 a (vv 4) cK)) cE))))))
   (cI (bI (bN (SH e) SV (Z6 a (vo 2) (Z6 a (vv 4) cK)) cK)
   (cI (bO b.nd (aZ (cH (bF (hk:=by lia) zA3 c (cF (cH (Z6 a (vv 4) cK)) (cF (cH (bD Z8 aX (vv 1) cK)) (bE (pv 2) (bE (pv 3) cE)))))))))
   (cI (bO b.nd (aZ (cH (bF (hk:=by lia) zA3 c (cF (cH (Z6 a (vv 4) cK)) (cF (vv 6) (bE (pv 2) (bE (pv 3) cE))))))))))))
   (cI (bI (Y0 e (Z6 a (vv 4) cK) b9)
   (cI (MP a (pv 2) (vv 1) (cH (Z6 a (vv 4) cK)) rfl))
   (cJ (SZ (cH (bF (hk:=by lia) (Yk T) c (cF (vv 4) (cF cK (cF (a8 (ZO ["_law_words","_law_name"] [2] 1 (X9 rfl (cH (bF (hk:=by lia) (Us T) c (cF (vv 4) cE)))) (λf _ _ _ _=>⟨(bZ f),W4,(cH (Z6 a (vo 0) (vv 1)))⟩))) (bE (pv 3) cE)))))) (YV (K:=K) rfl rfl (bM (bZ b.nd) (bM (bZ b.nd) ZM))))
   (cJ (MP a (pv 2) (vv 1) (vv 7) rfl)
   (cI (bO b.nd (aZ (cH (XB (bN RH N7 (vv 8) a6) (bQ (cL (vv 1) (cL (vv 8) cC))) a6))))))))))
   (cJ (bI (bN RH N7 (vv 5) a6)
   (cI (cB (vv 5)))
   b7)
   (cI (bO b.nd (aZ (cH (bD Z8 aX (vv 1) (bF (hk:=by lia) (DU T) c (cF (cH (bQ (cL (vv 4) cC))) cE))))))))))) (cI (cB a6)))
def m9:∀n,aL P w K mg base "_law_tree_play" (8+1*n) Qx52 [2,3] (a9 n) 419:=λn=>by
 induction n with
 |zero=>exact mkDg T.fnm T.p_x52 (λU=>OX) (Len4 λ_ _ _ _=>rfl)
 |succ n D=>exact iZ T (Ga _ _) D
def zA3:aL P w K mg base "_law_tree_play" 16 Qx52 [2,3] (a9 8) 419:=m9 T 8
def ly{f:Sf}{fd:Ey}(F:Fun K "law" "law" (top 76) f fd):S9 P w K mg base CX0 23 f fd Qx53 (spV K [] 1 IA):=
 okWg P w K mg base Nx53 Qx53 22 zEP [] F mkSc λa b d c=>by
  exact(cJ (bO a.nd (WS (aR (bY cC)))) (cJ (bO a.nd (aZ (cH (bF (dP T) b (cF (vv 0) (bE (pv 1) (cF cK cE))))))) (cJ (W5 Cj rfl (US (by rfl) T.n_range cK) (bZ a.nd)
   (cJ (bO a.nd (aZ (cH (bF (Wq T) b (cF (vv 0) (bE (pv 1) (cF (cH (Z6 c (vv 2) cK)) cE)))))))
   (cJ (MQ (i:=5) (j:=6) rfl a.nd rfl rfl (by decide) rfl rfl (aZ (a8 (J3 NW XX (by rfl) T.XX U5 (vv 4)))) (WS (J3 NW XX (by rfl) T.XX U5 (vv 4))) rfl)
   (cJ (bO a.nd (aZ (cH (jw (i:=2) (zA3 T) b (J2 (cH (Z6 c (vv 2) cK)) (J2 cK (lc (pv 6))))))))
   (cI (bI (UT (UU (bN (SH d) SV (bF (Uj T) b (cF (vv 2) (cF (vv 4) cE))) (bQ (SW (pv 6) (cL (vv 7) cC)))) (W6 (bN (SH d) SV (vv 4) (vv 5)))))
   (cI (cB XA))
   b7)))))) (cJ (bO a.nd (aZ (cH (bF (fF T) b (cF (vv 0) (bE (pv 1) (cF cK cE))))))) (cJ (bO a.nd (aZ (cH (bF (Wq T) b (cF (vv 0) (bE (pv 1) (cF (cH (Z6 c (vv 8) cK)) cE))))))) (cI (cB (veq d (bF (Uj T) b (cF (vv 8) (cF (vv 4) cE))) (bF (kj T) b (cF (vv 8) (cF (vv 4) cE)))))))))))
end
end RR
namespace L2
open PySem
def ZL(a b:String):Bk a=Bk b↔a=b:=by
 refine⟨λh=>?_,λh=>by rw[h]⟩;rw[Ht,Ht]at h;injection h with h;have h2:a.toList.map Ov=b.toList.map Ov:=by simpa using h
 have f:a.toList=b.toList:=by
  have inj:∀(l m:List Char),l.map Ov=m.map Ov->l=m:=by
   intro l;induction l with
   |nil=>intro m h;cases m with
    |nil=>rfl
    |cons=>cases h
   | cons c l d => intro m h;cases m with
    |nil=>cases h
    |cons e m=>
     simp only[Ba,Jr]at h;rw[d m h.2,Char.toNat_inj.mp h.1]
  exact inj _ _ h2
 exact String.toList_inj.mp f
def cW(a:String):Ru (Bk a)=b5:=by
 unfold Ru;rw[Ht];simp only[List.all_toArray,Mb,Ir,Rm,decide_eq_true_eq];intro c _;have:=c.valid
 rcases this with h|⟨_,h⟩
 ·show c.val.toNat<1114112
  have:c.val.toNat<55296:=h
  lia
 ·exact h
def QT(k:Nat)(d:cM):Prop:=d.isD=b5/\d.pd.canLay0=b5/\d.pd.depth<=k
def ZT{k:Nat}{i:Int}:QT k (.int i):=⟨rfl,rfl,Dx _⟩
def Vg{k:Nat}{i:Bool}:QT k (.bl i):=⟨rfl,rfl,Dx _⟩
def MN{k:Nat}:QT k .non:=⟨rfl,rfl,Dx _⟩
def YD{k:Nat}{a:String}:QT k (.str (Bk a)):=⟨rfl,by simp[cM.pd,Gc,cW],Dx _⟩
theorem HI{k:Nat}:∀{ds:List cM},(∀d∈ds,QT k d)->EN ds=b5/\Ii (pds ds)=b5/\Ff (pds ds)<=k
 |[],_=>⟨rfl,rfl,Dx _⟩
 |d::ds,h=>by obtain⟨g,f,j⟩:=h d Aw;obtain⟨c,b,i⟩:=HI λe a=>h e (Ap _ a);refine⟨by simp[EN,g,c],by simp[pds,Ii,f,b],?_⟩;simp only[pds,Ff];lia
def RG{k:Nat}{ds:List cM}(h:∀d∈ds,QT k d):QT (k+1) (.tup ds):=by obtain⟨a,b,c⟩:=HI h;exact⟨by simpa[cM.isD]using a,by simpa[cM.pd,Gc]using b,by simp only[cM.pd,Ip];lia⟩
def XY{k:Nat}{ds:List cM}(h:∀d∈ds,QT k d):QT (k+1) (.lst ds):=by obtain⟨a,b,c⟩:=HI h;exact⟨by simpa[cM.isD]using a,by simpa[cM.pd,Gc]using b,by simp only[cM.pd,Ip];lia⟩
def QT.ok{k:Nat}{d:cM}(h:QT k d)(hk:k<=64:=by decide):GF d=b5:=by
 unfold GF Eu;simp only[h.1,h.2.1,Rn,Ag,decide_eq_true_eq];have:=h.2.2
 lia
@[simp] theorem pC{a:String}:GF (.str (Bk a))=b5:=(YD (k:=0)).ok
def YE{k:Nat}:∀d∈([]:List cM),QT k d:=λ_ h=>nomatch h
def Z3{k:Nat}{d:cM}{ds:List cM}(h:QT k d)(t:∀d∈ds,QT k d):∀e∈d::ds,QT k e:=λe a=>by
 rcases Aj.mp a with z|z
 ·rw[z];exact h
 ·exact t e z
@[simp] theorem Zd{i j:Int}:eqD (.int i) (.int j)=decide (i=j):=by show(i==j)=_;rw[Me]
@[simp] theorem nr{a b:String}:eqD (.str (Bk a)) (.str (Bk b))=decide (a=b):=by show(Bk a==Bk b)=_;rw[Me];simp only[ZL]
@[simp] theorem tP{i j:Int}:X7 (.int i) (.int j)=b0 (.bl (decide (i=j))):=by unfold X7;simp
@[simp] theorem p8{i j:Int}:QW (.int i) (.int j)=b0 (.bl (!decide (i=j))):=by unfold QW;simp
@[simp] theorem sg{a b:String}:X7 (.str (Bk a)) (.str (Bk b))=b0 (.bl (decide (a=b))):=by unfold X7;simp
@[simp] theorem nA{a b:String}:QW (.str (Bk a)) (.str (Bk b))=b0 (.bl (!decide (a=b))):=by unfold QW;simp
def Te{j k:Nat}{d e:cM}(h:QT j d)(h':QT k e)(a:j<=64:=by decide)(hk:k<=64:=by decide):X7 d e=b0 (.bl (eqD d e)):=by unfold X7;rw[h.ok a,h'.ok hk];rfl
def JI{j k:Nat}{d e:cM}(h:QT j d)(h':QT k e)(a:j<=64:=by decide)(hk:k<=64:=by decide):QW d e=b0 (.bl (!eqD d e)):=by unfold QW;rw[h.ok a,h'.ok hk];rfl
def Tu{j k:Nat}{neg:Bool}{d:cM}{ds:List cM}(h:QT j d)(h':∀e∈ds,QT k e)(a:j<=64:=by decide)(hk:k+1<=64:=by decide):ZS neg d (.tup ds)=b0 (.bl (if neg then !JB d ds else JB d ds)):=by unfold ZS;simp[h.ok a,(RG h').ok hk]
def HH{j k:Nat}{neg:Bool}{d:cM}{ds:List cM}(h:QT j d)(h':∀e∈ds,QT k e)(a:j<=64:=by decide)(hk:k+1<=64:=by decide):ZS neg d (.lst ds)=b0 (.bl (if neg then !JB d ds else JB d ds)):=by unfold ZS;simp[h.ok a,(XY h').ok hk]
@[simp] theorem nL{d:cM}:JB d []=ba:=(rfl)
@[simp] theorem Tv{d e:cM}{ds:List cM}:JB d (e::ds)=(eqD e d || JB d ds):=(rfl)
@[simp] theorem AN{neg:Bool}{a b c:String}:ZS neg (.str (Bk a)) (.tup [.str (Bk b),.str (Bk c)])=b0 (.bl (if neg then !(decide (b=a) || decide (c=a))else decide (b=a) || decide (c=a))):=by rw[Tu (j:=0) YD (Z3 (YD (k:=0)) (Z3 YD YE))];simp
@[simp] theorem Ui{neg:Bool}{a b c d e:String}:ZS neg (.str (Bk a)) (.tup [.str (Bk b),.str (Bk c),.str (Bk d),.str (Bk e)])=b0 (.bl (if neg then !(decide (b=a) || (decide (c=a) || (decide (d=a) || decide (e=a))))else decide (b=a) || (decide (c=a) || (decide (d=a) || decide (e=a))))):=by rw[Tu (j:=0) YD (Z3 (YD (k:=0)) (Z3 YD (Z3 YD (Z3 YD YE))))];simp
@[simp] theorem oR{neg:Bool}{a b c:Int}:ZS neg (.int a) (.tup [.int b,.int c])=b0 (.bl (if neg then !(decide (b=a) || decide (c=a))else decide (b=a) || decide (c=a))):=by rw[Tu (j:=0) ZT (Z3 (ZT (k:=0)) (Z3 ZT YE))];simp
def KS{k:Nat}{d:cM}(h:QT k d):eqD d d=b5:=PySem.SeqAt.eqv_refl _ h.2.1
def WK(ns:List Int):cM:=.lst (ns.map .int)
def X3(n:Nat):cM:=.lst (Ak n (.int 0))
theorem JC:∀ns:List Int,EN (ns.map cM.int)=b5
 |[]=>rfl
 |n::ns=>by simp[EN,cM.isD,JC ns]
theorem FG:∀ns:List Int,pds (ns.map cM.int)=ns.map Oh
 |[]=>rfl
 |n::ns=>by simp[pds,cM.pd,FG ns]
def fN(ns:List Int):GF (.lst (ns.map .int))=b5:=by unfold GF;simp only[cM.isD,JC,cM.pd,FG,Rn];exact FU ns
def RZ(ns:List Int):X7 (.lst (ns.map .int)) (.lst [])=b0 (.bl ns.isEmpty):=by unfold X7;rw[fN,show GF (.lst [])=b5 from by decide+kernel];cases ns<;>rfl
theorem JA:∀n:Nat,TM (Ak n (.int 0))=b5
 |0=>rfl
 |n+1=>by simp[Cy,TM,cM.hard,JA n]
@[simp] theorem qo(n:Nat):SI (X3 n)=b5:=JA n
theorem IM:∀(ds:List cM) (a b:cM) (r:Int) (s:Sl),∃r' s',Y3 (gN 3) (aK 2 (xV (f2 LB (fV 2) (fC (.int 1000003))))) ds [.va a,.va b,.va (.int r),s]=b0 (.nx [.va a,.va b,.va (.int r'),s'])
 |[],a,b,r,s=>⟨r,s,rfl⟩
 |d::ds,a,b,r,s=>by obtain⟨r',s',h⟩:=IM ds a b (r/1000003) (.va d);exact⟨r',s',by simp[GQ,h]⟩
def MJ{ns:List Int}{i:Int}(c:0<=i)(h1:i<ns.length):∃r∈ns,VC (ns.map cM.int) i=b0 (.int r):=by obtain⟨x,a,e⟩:=CD (xs:=ns.map cM.int) c (by simpa using h1);obtain⟨r,b,rfl⟩:=Cs.mp a;exact⟨r,b,e⟩
def eQ(ns:List Int)(k:Nat)(hl:ns.length<=63)(hk:k<1000000):∃r,YW [WK ns,.int k]=b0 (.int r,[]):=by
 unfold YW;rw[b6];unfold UZ TK WK;by_cases h:(k:Int)<ns.length
 ·obtain ⟨r,_,e⟩ := MJ (ns := ns) (i := k) (by lia) h
  exact⟨r,by simp[bV,h,e]⟩
 ·cases ns with
  |nil=>
   have o:¬((k:Int)<0):=by lia
   have e:X7 (.lst []) (.lst [])=b0 (.bl b5):=RZ [];exact⟨0,by simp[bV,o,e]⟩
  |cons m g=>
   generalize a:m::g=ns at*;have f:(0:Int)<ns.length:=by rw[<-a];simp
   have n:=Hr (k:Int) (show(ns.length:Int)≠0 by lia);have d:=Ez (k:Int) f;obtain⟨r,_,e⟩:=MJ (ns:=ns) n d;have l:ns.isEmpty=ba:=by rw[<-a];rfl
   have q:0<=(k:Int)/ns.length:=Mc (by lia) (by lia);have j: -4611686018427387904<=(if(60:Int)<(k:Int)/ns.length then 60 else(k:Int)/ns.length)/\(if(60:Int)<(k:Int)/ns.length then 60 else(k:Int)/ns.length)<4611686018427387904:=by split<;>lia
   obtain⟨r',s',p⟩:=IM (X8 0 (if(60:Int)<(k:Int)/ns.length then 60 else(k:Int)/ns.length).toNat) (.lst (ns.map .int)) (.int k) r .no;have c:0<ns.length:=by lia
   have b:(ns.length:Int)<1073741824:=by lia
   exact⟨r*31+k+r'*101,by simp[bV,h,RZ,l,f,c,b,e,GQ,j,p,GR]⟩
noncomputable def cel(ns:List Int)(k:Nat):Int:=match YW [WK ns,.int k]with
 |some (.int r,_)=>r
 |_=>0
def gH(ns:List Int)(k:Nat)(hl:ns.length<=63)(hk:k<1000000):YW [WK ns,.int k]=b0 (.int (cel ns k),[]):=by obtain⟨r,e⟩:=eQ ns k hl hk;unfold cel;rw[e]
noncomputable def M7(ns:List Int)(n:Nat)(b:Int):Int:=((cel ns (n+1)*1103515245+7919*(((n+1:Nat)):Int)+12345) % 2147483647) ^ 5 % 2147483647 % 999983 % b
def TL(ns:List Int)(n:Nat){b:Int}(h:0<b):0<=M7 ns n b:=Hr _ (by lia)
def M8(ns:List Int)(n:Nat){b:Int}(h:0<b):M7 ns n b<b:=Ez _ h
def mG(ns:List Int)(n:Nat)(b:Int)(hl:ns.length<=63)(d:n<900000)(c:0<b):U3 [WK ns,.int ((n+1:Nat):Int),.int b]=b0 (.int (M7 ns n b),[]):=by
 have e:=gH ns (n+1) hl (by lia);unfold U3;rw[b6];unfold R8 M7;have g:=Hr (cel ns (n+1)*1103515245+7919*((n+1:Nat):Int)+12345) (show(2147483647:Int)≠0 by decide);have f:=Ez (cel ns (n+1)*1103515245+7919*((n+1:Nat):Int)+12345) (show(0:Int)<2147483647 by decide);generalize hz:(cel ns (n+1)*1103515245+7919*((n+1:Nat):Int)+12345) % 2147483647=z at*;have a:z.natAbs<18446744073709551616:=by lia
 generalize hk:((n+1:Nat):Int)=k at*;simp[bV,e,GR,cPow,hz,a,c]
def Y2(ns:List Int)(n:Nat)(b:Int)(hl:ns.length<=63)(f:n<900000)(g:0<b):bB [WK ns,X3 n,.int b]=b0 (.int (M7 ns n b),[X3 (n+1)]):=by
 have e:=mG ns n b hl f g;unfold bB;rw[b6];unfold P6;have c:X3 n=.lst (Ak n (.int 0)):=rfl;have a:X3 (n+1)=.lst (Ak n (.int 0)++[.int 0]):=by unfold X3;rw[List.replicate_succ']
 rw[a,c];have d:n<16777216:=by lia
 push_cast at e
 simp[bV,d,e]
def X0(ns:List Int)(n:Nat)(xs:List cM)(hl:ns.length<=63)(b:n<900000)(d:0<xs.length):∃x∈xs,aB [WK ns,X3 n,.lst xs]=b0 (x,[X3 (n+1)]):=by
 have a:(0:Int)<xs.length:=by lia
 obtain⟨x,c,e⟩:=CD (xs:=xs) (TL ns n a) (M8 ns n a);refine⟨x,c,?_⟩;unfold aB;rw[b6];unfold P8;simp[bV,Y2 ns n _ hl b a,e]
def AD(ns:List Int)(n:Nat)(b:Int)(hl:ns.length<=63)(a:n<900000)(c:0<b)(tl:Ev):cA 3 [1] bB (aE (fV 0) (aO 1 (aE (fC (.int b)) bR))) (.va (WK ns):: .ow (X3 n)::tl)=b0 (.int (M7 ns n b),.va (WK ns):: .ow (X3 (n+1))::tl):=by simp[Y2 ns n b hl a c]
abbrev Sn(m:Nat)(d:cM):Prop:=∃(ks:List aS) (vs:List Int),d=.dct ks (vs.map .int)/\ks.length=vs.length/\ks.Nodup/\ks.length<=m
abbrev KJ(n:Nat)(d:cM):Prop:=Sn (8*n) d
def KJ.mono{n m:Nat}{d:cM}(h:KJ n d)(b:n<=m):KJ m d:=by obtain⟨ks,vs,h1,h2,a,c⟩:=h;exact⟨ks,vs,h1,h2,a,by lia⟩
theorem Xs:∀(ks:List aS) (vs:List Int) (k:aS) (q:Int),∃r,(bA ks (vs.map .int) k).getD (.int q)=.int r
 |[],_,_,q=>⟨q,by simp[bA]⟩
 |_::_,[],_,q=>⟨q,by simp[bA]⟩
 | k' :: ks,v :: vs,k,q => by
  by_cases h:k'=k
  ·exact⟨v,by simp[bA,h]⟩
  ·obtain⟨r,e⟩:=Xs ks vs k q
   exact⟨r,by simp only[Ba,bA,if_neg h];exact e⟩
theorem putI:∀(ks:List aS) (vs:List Int) (k:aS) (p:Int),ks.length=vs.length->ks.Nodup->∃(a:List aS) (b:List Int),YA ks (vs.map .int) k (.int p)=(a,b.map .int)/\a.length=b.length/\a.Nodup/\a.length<=ks.length+1/\(∀z∈a,z=k∨z∈ks)/\bA a (b.map .int) k=b0 (.int p)
 |[],[],k,p,_,_=>⟨[k],[p],by simp[YA],rfl,by simp,by simp,by simp,by simp[bA]⟩
 | k' :: ks,v :: vs,k,p,hl,c => by
  by_cases h:k'=k
  ·subst h
   exact⟨k'::ks,p::vs,by simp[YA],by simpa using hl,c,by simp,by simp,by simp[bA]⟩
  ·obtain ⟨a,b,e,h1,h2,g,d,f⟩ := putI ks vs k p (by simpa using hl) (Cd.mp c).2
   refine⟨k'::a,v::b,by simp only[Ba,YA,if_neg h,e],by simp[h1],?_,by simp;lia,?_,by simp only[Ba,bA,if_neg h];exact f⟩
   ·refine Cd.mpr ⟨λz => ?_,h2⟩
    rcases d _ z with y|y
    ·exact h y
    ·exact(Cd.mp c).1 y
   ·intro z hz
    rcases Aj.mp hz with y|y
    ·exact .inr (by rw[y];exact Aw)
    ·exact(d z y).imp id (Ap _)
def FH(ns:List Int)(n:Nat)(sn:cM)(x:Si)(room:Int)(hl:ns.length<=63)(r:n<800000)(j:KJ n sn)(g:0<room):∃p d,0<=p/\p<room/\KJ (n+2) d/\ZF [WK ns,X3 n,sn,.str x,.int room]=b0 (.int p,[X3 (n+2),d]):=by
 obtain⟨ks,vs,rfl,h1,h2,u⟩:=j;obtain⟨a,k⟩:=Xs ks vs (.inr x) (M7 ns n room);obtain⟨y,i,q⟩:=X0 ns (n+1) [.int 1,.int 1,.int 1,.int 0,.int 3] hl (by lia) (by simp);obtain⟨b,rfl⟩:∃b,y=.int b:=by simp only[Aj,Az,or_false]at i;rcases i with h|h|h|h|h<;>exact⟨_,h⟩
 obtain⟨f,c,e,o,m,t,s,l⟩:=putI ks vs (.inr x) ((a+b) % room) h1 h2;refine⟨(a+b) % room,.dct f (c.map .int),Hr _ (by lia),Ez _ g,⟨f,c,rfl,o,m,by lia⟩,?_⟩;have hk:ks.length<16777216:=by lia
 unfold ZF;rw[b6];unfold R9;simp[bV,Y2 ns n room hl (by lia) g,k,q,g,hk,h2,e,l]
inductive ZZ(M:Int->Prop):cM->Prop
 |number {n:Int}:0<=n->n<=999->ZZ M (.tup [.str "number",.int n])
 |two {x:String}{a b:Int}:x∈["over","plus","minus","times","least","most","less"]->M a->M b->ZZ M (.tup [.str x,.int a,.int b])
 |pick {c a b:Int}:M c->M a->M b->ZZ M (.tup [.str "pick",.int c,.int a,.int b])
 |load {p:Int}:0<=p->p<=63->ZZ M (.tup [.str "load",.int p])
 |take {p c a:Int}:0<=p->p<=63->M c->M a->ZZ M (.tup [.str "take",.int p,.int c,.int a])
 |store {p a:Int}:0<=p->p<=63->M a->ZZ M (.tup [.str "store",.int p,.int a])
 |put {p a c:Int}:0<=p->p<=63->M a->M c->ZZ M (.tup [.str "put",.int p,.int a,.int c])
def lR(ns:List Int)(n:Nat)(made:List Int)(hl:ns.length<=63)(k:n<800000)(l:0<made.length)(s:Sl):∃a b c,a∈made/\b∈made/\c∈made∧ZK 3 1 (gN 3) V6 (f2 bX (fV 2) (f2 oMax (fC (.int 0)) (f2 SM (f2 SM (f1 YU (fV 2)) (fC (.int 1))) (cA 3 [1] bB (aE (fV 0) (aO 1 (aE (fC (.int 6)) bR))))))) [.int 0,.int 1,.int 2] [] [.va (WK ns),.ow (X3 n),.va (.lst (made.map .int))]=b0 ([.int a,.int b,.int c],[.va (WK ns),.ow (X3 (n+3)),.va (.lst (made.map .int))]):=by
 have one:∀m,∃a∈made,VC (made.map cM.int) (if(made.length:Int)-1-M7 ns m 6>0 then(made.length:Int)-1-M7 ns m 6 else 0)=b0 (.int a):=λm=>by
  have:=TL ns m (b:=6) (by decide)
  exact MJ (by split<;>lia) (by split<;>lia)
 obtain⟨a,h,f⟩:=one n;obtain⟨b,g,e⟩:=one (n+1);obtain⟨c,hc,d⟩:=one (n+2);refine⟨a,b,c,h,g,hc,?_⟩;have d0:=Y2 ns n 6 hl (by lia) (by decide);have j:=Y2 ns (n+1) 6 hl (by lia) (by decide);have i:=Y2 ns (n+2) 6 hl (by lia) (by decide);simp only[gt_iff_lt,Int.sub_pos]at f e d;simp[d0,j,i,f,e,d]
def onC(x:String):Prop:=x= "load" ∨x= "take" ∨x= "store" ∨x= "put"
def PlOK(room:Int)(row:cM):Prop:=∀(x:String) (p:Int) (t:List cM),row=.tup (.str x:: .int p::t)->onC x->p<room
def O8{room p:Int}{x:String}{t:List cM}(h:p<room):PlOK room (.tup (.str x:: .int p::t)):=λy q u e _=>by simp only[cM.tup.injEq,Jr,cM.int.injEq]at e;lia
def DC{room:Int}{x:String}{t:List cM}(h:¬onC x):PlOK room (.tup (.str x::t)):=λy q u e a=>by simp only[cM.tup.injEq,Jr,cM.str.injEq,ZL]at e;rw[<-e.1]at a;exact absurd a h
def B5{x:String}(a:x∈["over","plus","minus","times","least","most","less"]):¬onC x:=λh=>by simp only[Aj,Az,or_false]at a;rcases a with rfl|rfl|rfl|rfl|rfl|rfl|rfl<;>rcases h with h|h|h|h<;>exact absurd h (by decide)
def DK{s1 a:VS}{δ δ1:Ev}(h:s1 δ=b0 (.nx δ1)):b8 s1 a δ=a δ1:=by rw[Xa,h,qS_n]
def Vr(ns:List Int)(n:Nat)(made:List Int)(sn:cM)(room:Int)(hl:ns.length<=63)(X:n<700000)(k:KJ n sn)(F:0<room)(M:room<=64):∃row n' d,n<=n'/\n'<=n+10/\KJ n' d/\ZZ (· ∈made) row/\PlOK room row/\UE [WK ns,X3 n,.lst (made.map .int),sn,.int room]=b0 (row,[X3 n',d]):=by
  have d0:=AD ns n 13 hl (by lia) (by decide);have W:=TL ns n (b:=13) (by decide);have V:=M8 ns n (b:=13) (by decide);generalize M7 ns n 13=e at*;unfold UE;rw[b6];unfold NT;by_cases H:made.isEmpty=b5∨e=0
  · have u := AD ns (n + 1) 2 hl (by lia) (by decide)
    have l:made.isEmpty=b5∨(made.isEmpty=ba/\e=0):=by
      cases A:made.isEmpty with
      |true=>exact .inl rfl
      | false => rcases H with h | h
                 · rw[A]at h;cases h
                 · exact .inr ⟨rfl,h⟩
    by_cases h2:M7 ns (n+1) 2=0
    · have I := AD ns (n + 2) 1000 hl (by lia) (by decide)
      obtain⟨y,t,q⟩:=X0 ns (n+3) [.int 0,.int 1,.int 2,.int 5,.int 999,.int (M7 ns (n+2) 1000)] hl (by lia) (by simp);obtain⟨b,rfl,D,C⟩:∃b,y=.int b/\0<=b/\b<=999:=by
        have:=TL ns (n+2) (b:=1000) (by decide)
        have:=M8 ns (n+2) (b:=1000) (by decide)
        simp only[Aj,Az,or_false]at t;rcases t with h|h|h|h|h|h<;>exact⟨_,h,by lia,by lia⟩
      refine⟨.tup [.str "number",.int b],n+4,sn,by lia,by lia,k.mono (by lia),.number D C,DC (by unfold onC;decide),?_⟩;rcases l with h|⟨h,h'⟩
      · simp[bV,↓d0,RZ,h,↓u,h2,↓I,q]
      · simp[bV,↓d0,RZ,h,h',↓u,h2,↓I,q]
    · obtain ⟨p,d,j,i,f,g⟩ := FH ns (n + 2) sn "load" room hl (by lia) (k.mono (by lia)) F
      refine⟨.tup [.str "load",.int p],n+4,d,by lia,by lia,f,.load j (by lia),O8 i,?_⟩;rcases l with h|⟨h,h'⟩
      · simp[bV,↓d0,RZ,h,↓u,h2,g]
      · simp[bV,↓d0,RZ,h,h',↓u,h2,g]
  · obtain⟨A,B⟩:=not_or.mp H
    have m:made.isEmpty=ba:=by simpa using A
    have Q:0<made.length:=by
      cases made with
      |nil=>cases m
      |cons=>simp
    obtain⟨a,b,c,o,G,hc,O⟩:=lR ns (n+1) made hl (by lia) Q .no;rw[show bV [1,3] 9 [WK ns,X3 n,.lst (made.map .int),sn,.int room]=[.va (WK ns),.ow (X3 n),.va (.lst (made.map .int)),.ow sn,.va (.int room),.no,.no,.no,.no] from rfl,DK (δ1:=[.va (WK ns),.ow (X3 (n+1)),.va (.lst (made.map .int)),.ow sn,.va (.int room),.va (.int e),.no,.no,.no]) (by simp[↓d0]),DK (δ1:=[.va (WK ns),.ow (X3 (n+1)),.va (.lst (made.map .int)),.ow sn,.va (.int room),.va (.int e),.no,.no,.no]) (by simp[RZ,m,B]),DK (δ1:=[.va (WK ns),.ow (X3 (n+4)),.va (.lst (made.map .int)),.ow sn,.va (.int room),.va (.int e),.va (.int a),.va (.int b),.va (.int c)]) (by simp[Z7,O])]
    have N:(e=1∨e=2)∨e=3∨(e=4∨e=5)∨e=6∨e=7∨(8<=e/\e<=12):=by lia
    have r:∀x:Si,∃p d,0<=p/\p<=63/\p<room/\KJ (n+6) d/\∀s tl,cA 5 [1,2] ZF (aE (fV 0) (aO 1 (aO 3 (aE (fC (.str x)) (aE (fV 4) bR))))) (.va (WK ns):: .ow (X3 (n+4))::s:: .ow sn:: .va (.int room)::tl)=b0 (.int p,.va (WK ns):: .ow (X3 (n+6))::s:: .ow d:: .va (.int room)::tl):=λx=>by obtain⟨p,d,j,i,f,g⟩:=FH ns (n+4) sn x room hl (by lia) (k.mono (by lia)) F;exact⟨p,d,j,by lia,i,f,λs tl=>by simp[g]⟩
    rcases N with h|h|h|h|h|h
    · have w : (decide (1 = e) || decide (2 = e)) = b5 := by rcases h with rfl | rfl <;> decide
      obtain⟨p,d,j,i,p2,f,g⟩:=r "load";exact⟨.tup [.str "load",.int p],n+6,d,by lia,by lia,f,.load j i,O8 p2,by simp[↓g,w]⟩
    · subst h
      obtain⟨p,d,j,i,p2,f,g⟩:=r "take";exact⟨.tup [.str "take",.int p,.int c,.int a],n+6,d,by lia,by lia,f,.take j i hc o,O8 p2,by simp[↓g]⟩
    · have v : (decide (4 = e) || decide (5 = e)) = b5 := by rcases h with rfl | rfl <;> decide
      have z:¬e=3:=by lia
      have m1:¬1=e:=by lia
      have m2:¬2=e:=by lia
      obtain⟨p,d,j,i,p2,f,g⟩:=r "store";exact⟨.tup [.str "store",.int p,.int a],n+6,d,by lia,by lia,f,.store j i o,O8 p2,by simp[↓g,z,m1,m2,v]⟩
    · subst h
      obtain⟨p,d,j,i,p2,f,g⟩:=r "put";exact⟨.tup [.str "put",.int p,.int a,.int c],n+6,d,by lia,by lia,f,.put j i o hc,O8 p2,by simp[↓g]⟩
    · subst h
      exact⟨.tup [.str "pick",.int c,.int a,.int b],n+4,sn,by lia,by lia,k.mono (by lia),.pick hc o G,DC (by unfold onC;decide),by simp⟩
    · have P := AD ns (n + 4) 7 hl (by lia) (by decide)
      have q0:=TL ns (n+4) (b:=7) (by decide);have q1:=M8 ns (n+4) (b:=7) (by decide);obtain⟨y,t,q⟩:=CD (xs:=["over","plus","minus","times","least","most","less"].map λs:String=>cM.str (Bk s)) q0 (by simpa using q1);obtain⟨x,E,rfl⟩:=Cs.mp t;simp only[Ba,By]at q;have U:¬e=1:=by lia
      have T:¬e=2:=by lia
      have z:¬e=3:=by lia
      have S:¬e=4:=by lia
      have R:¬e=5:=by lia
      have K:¬e=6:=by lia
      have J:¬e=7:=by lia
      have m1:¬1=e:=by lia
      have m2:¬2=e:=by lia
      have m4:¬4=e:=by lia
      have L:¬5=e:=by lia
      exact⟨.tup [.str x,.int a,.int b],n+5,sn,by lia,by lia,k.mono (by lia),.two E o G,DC (B5 E),by simp[z,K,J,m1,m2,m4,L,↓P,q]⟩
inductive Kd where
 |w|p|n
 deriving DecidableEq
def Nm(kds:List Kd)(k:Kd)(a:Int):Prop:=0<=a/\kds[a.toNat]?=b0 k
def Nm.lt{kds:List Kd}{k:Kd}{a:Int}(h:Nm kds k a):a<kds.length:=by
 have:=(Af.mp h.2).1
 have:=h.1
 lia
def Nm.snoc{kds:List Kd}{k j:Kd}{a:Int}(h:Nm kds k a):Nm (kds++[j]) k a:=⟨h.1,by rw[Ae (Af.mp h.2).1];exact h.2⟩
def Nm.new{kds:List Kd}{k:Kd}:Nm (kds++[k]) k kds.length:=⟨by lia,by simp⟩
noncomputable def JG(k:Kd):cM->Kd
 |.tup (.str x::_)=>if x= "store" ∨x= "put" then .n else k
 |_=>.n
def ZZ.imp{M M':Int->Prop}{row:cM}(h:ZZ M row)(f:∀a,M a->M' a):ZZ M' row:=by
 cases h with
 |number a b=>exact .number a b
 |two a b c=>exact .two a (f _ b) (f _ c)
 |pick a b c=>exact .pick (f _ a) (f _ b) (f _ c)
 |load a b=>exact .load a b
 |take a b c d=>exact .take a b (f _ c) (f _ d)
 |store a b c=>exact .store a b (f _ c)
 |put a b c d=>exact .put a b (f _ c) (f _ d)
def ZZ.hard{M:Int->Prop}{row:cM}(h:ZZ M row):row.hard=b5:=by
 cases h<;>simp[cM.hard,TM]
theorem IN(ns:List Int)(b:Int)(hl:ns.length<=63)(g:0<b)(fe:VF)(x:Sl)(tail:Ev)(c:Nat)(a:c=tail.length+2)(f:∀n d,n<800000->fe ([.va (WK ns),.ow (X3 n)]++tail++[.va d])=b0 (.int (M7 ns n b),[.va (WK ns),.ow (X3 (n+1))]++tail++[.va d])):∀(ds:List cM) (n:Nat) (acc:List cM),n+ds.length<800000->acc.length+ds.length<1000000->∃ws:List Int,ws.length=ds.length/\(∀w∈ws,0<=w/\w<b)∧ZK c 1 (gN c) V6 fe ds acc ([.va (WK ns),.ow (X3 n)]++tail)=b0 (acc++ws.map .int,[.va (WK ns),.ow (X3 (n+ds.length))]++tail)
 |[],n,acc,_,_=>⟨[],rfl,(λ_ h=>nomatch h),by simp⟩
 | d :: ds,n,acc,i,j => by
  obtain⟨ws,h1,h2,k⟩:=IN ns b hl g fe x tail c a f ds (n+1) (acc++[.int (M7 ns n b)]) (by simp at i;lia) (by simp at j⊢;lia);refine⟨M7 ns n b::ws,by simp[h1],λw hw=>?_,?_⟩
  ·rcases Aj.mp hw with z|z
   ·rw[z];exact⟨TL ns n g,M8 ns n g⟩
   ·exact h2 w z
  ·have e := f n d (by simp at i;lia)
   have l:([Sl.va (WK ns),Sl.ow (X3 n)]++tail++[Sl.no]).set c (.va d)=[Sl.va (WK ns),Sl.ow (X3 n)]++tail++[Sl.va d]:=by rw[Ew _ _ (by simp[a])];simp[a]
   have o:([Sl.va (WK ns),Sl.ow (X3 (n+1))]++tail++[Sl.va d]).take c=[Sl.va (WK ns),Sl.ow (X3 (n+1))]++tail:=by rw[Db (by simp[a]),Bx (by simp[a])]
   have m:acc.length<16777216:=by simp at j;lia
   simp only[Q7,AX,P1,l,JM,Xy,BD,e,BE,if_pos m,o,k];simp[show n+1+ds.length=n+(ds.length+1) by lia]
@[simp] theorem o8{i:Int}:FA (.int i)=b0 (.int (-i)):=(rfl)
def Q8{ds:List cM}{k:Nat}(h:k<=ds.length):T2 ds (b0 (k:Int)) b3=ds.drop k:=by unfold T2;rw[HT.BR,HT.FP,Hq h,Bx (by simp)]
def ON{ds:List cM}{k:Nat}:T2 ds b3 (b0 (k:Int))=ds.take k:=by
 unfold T2;rw[HT.BR,HT.FP];simp only[Mo,Nat.sub_zero];by_cases h:k<=ds.length
 ·rw[Hq h]
 ·rw[Nat.min_eq_right (by lia),Bx (by lia),Bx (by lia)]
@[simp] theorem sx{d:cM}{ds:List cM}:T2 (d::ds) (b0 1) b3=ds:=Q8 (k:=1) (by simp)
@[simp] theorem qG{d e:cM}{ds:List cM}:T2 (d::e::ds) (b0 2) b3=ds:=Q8 (k:=2) (by simp)
@[simp] theorem nP{ds:List cM}:T2 ds b3 (b0 2)=ds.take 2:=ON (k:=2)
@[simp] theorem nh{ds:List cM}:T2 ds b3 (b0 1)=ds.take 1:=ON (k:=1)
@[simp] theorem o9{α:Type}{xs:List α}{x:α}:VC (xs++[x]) (-1)=b0 x:=by
 unfold VC K4;rw[if_neg (by decide),if_pos (by simp;lia)];have e:(-1+((xs++[x]).length:Int)).toNat=xs.length:=by simp;lia
 show(xs++[x])[(-1+((xs++[x]).length:Int)).toNat]?=b0 x;rw[e];simp
@[simp] theorem sE{α:Type}{x:α}{xs:List α}:VC (x::xs) 0=b0 x:=by rw[WV (by decide) (by simp)];rfl
@[simp] theorem mV{α:Type}{x y:α}{xs:List α}:VC (x::y::xs) 1=b0 y:=by rw[WV (by decide) (by simp;lia)];rfl
@[simp] theorem nK{α:Type}{x y z:α}{xs:List α}:VC (x::y::z::xs) 2=b0 z:=by rw[WV (by decide) (by simp;lia)];rfl
@[simp] theorem nY{α:Type}{x y z u:α}{xs:List α}:VC (x::y::z::u::xs) 3=b0 u:=by rw[WV (by decide) (by simp;lia)];rfl
def gP{k:Kd}{x:String}{t:List cM}(a:x∉["store","put"]):JG k (.tup (.str x::t))=k:=by simp only[Aj,Az,or_false,not_or]at a;simp[JG,ZL,a]
def lP{k:Kd}{x:String}{t:List cM}(a:x= "store" ∨x= "put"):JG k (.tup (.str x::t))=.n:=by
 rcases a with rfl|rfl<;>simp[JG,ZL]
def LQ{M:Int->Prop}{row:cM}(h:ZZ M row):∃(x:String) (t:List cM),row=.tup (.str x::t)/\x∉["wide","gather","shuffle"]:=by
 cases h with
 |two a _ _=>
  simp only[Aj,Az,or_false]at a;rcases a with rfl|rfl|rfl|rfl|rfl|rfl|rfl<;>exact⟨_,_,rfl,by decide⟩
 |_=>exact⟨_,_,rfl,by decide⟩
@[simp] theorem pS(n lo hi:Int):ZB [.int n,.int lo,.int hi]=b0 (.bl (decide (lo<=n)&&decide (n<=hi)),[]):=by unfold ZB;rw[b6];unfold P5;simp[bV];by_cases h:lo<=n<;>simp[h]
def cN{x:String}(h:x∈["over","plus","minus","times","least","most","less"]):ZC [.str x]=b0 (.tup [.str "row",.str "row"],[]):=by simp only[Aj,Az,or_false]at h;rcases h with rfl|rfl|rfl|rfl|rfl|rfl|rfl<;>kernel_rfl
@[simp] theorem oV:ZC [.str "number"]=b0 (.tup [.str "word"],[]):=by kernel_rfl
@[simp] theorem rG:ZC [.str "pick"]=b0 (.tup [.str "row",.str "row",.str "row"],[]):=by kernel_rfl
@[simp] theorem t9:ZC [.str "load"]=b0 (.tup [.str "place"],[]):=by kernel_rfl
@[simp] theorem rD:ZC [.str "take"]=b0 (.tup [.str "place",.str "row",.str "row"],[]):=by kernel_rfl
@[simp] theorem oo:ZC [.str "store"]=b0 (.tup [.str "place",.str "row"],[]):=by kernel_rfl
@[simp] theorem tw:ZC [.str "put"]=b0 (.tup [.str "place",.str "row",.str "row"],[]):=by kernel_rfl
def Ab(able:List Bool)(a:Int):Prop:=0<=a/\able[a.toNat]?=b0 b5
def Ul{able:List Bool}{a:Int}(h:Ab able a):VJ [.int a,.lst (able.map .bl)]=b0 (.bl b5,[]):=by
 have c:=(Af.mp h.2).1;have b:=h.1;have h1:a<=(able.length:Int)-1:=by lia
 have h2:VC (able.map cM.bl) a=b0 (.bl b5):=by rw[WV b (by simp;lia)];simp[h.2]
 unfold VJ;rw[b6];unfold QC;simp[bV,b,h1,h2]
def X4{able:List Bool}{a:Int}(h:Ab able a):RU [.str "row",.int a,.lst (able.map .bl)]=b0 (.bl b5,[]):=by unfold RU;rw[b6];unfold KY;simp[bV,Ul h]
def jA{d:cM}{a:Int}(h:0<=a)(h':a<=999):RU [.str "word",.int a,d]=b0 (.bl b5,[]):=by unfold RU;rw[b6];unfold KY;simp[bV,ZW,h,h']
def T3{d:cM}{a:Int}(h:0<=a)(h':a<=63):RU [.str "place",.int a,d]=b0 (.bl b5,[]):=by unfold RU;rw[b6];unfold KY;simp[bV,OL,h,h']
@[simp] theorem oX:OJ []=b0 []:=(rfl)
@[simp] theorem qf{b:Bool}{ds:List cM}:OJ (.bl b::ds)=(OJ ds).map λks=>b::ks:=(rfl)
@[simp] theorem rX{g:List Bool->Bool}{ds:List cM}:Tx g (.lst ds)=(OJ ds).map λks=>.bl (g ks):=(rfl)
@[simp] theorem qh{ds:List cM}:QZ ds []=[]:=by cases ds<;>rfl
@[simp] theorem nM{d e:cM}{ds es:List cM}:QZ (d::ds) (e::es)=.tup [d,e]::QZ ds es:=(rfl)
def EO{able:List Bool}{row:cM}(h:ZZ (Ab able) row):RV [row,.lst (able.map .bl)]=b0 (.bl b5,[]):=by
 unfold RV;rw[b6];unfold KZ;cases h with
 |number a b=>simp[bV,Z7,jA a b]
 |two e a b=>simp[bV,Z7,cN e,X4 a,X4 b]
 |pick a b c=>simp[bV,Z7,X4 a,X4 b,X4 c]
 |load a b=>simp[bV,Z7,T3 a b]
 |take a b c d=>simp[bV,Z7,T3 a b,X4 c,X4 d]
 |store a b c=>simp[bV,Z7,T3 a b,X4 c]
 |put a b c d=>simp[bV,Z7,T3 a b,X4 c,X4 d]
theorem RY(a:Nat)(fe:VF)(δ:Ev)(f:cM->cM)(b:δ.length=a):∀(ds acc:List cM),(∀d∈ds,fe (δ++[Sl.va d])=b0 (f d,δ++[Sl.va d]))->acc.length+ds.length<16777216->ZK a 1 (gN a) V6 fe ds acc δ=b0 (acc++ds.map f,δ)
 |[],acc,_,_=>by simp
 |d::ds,acc,h,hl=>by
  have i:(δ++[Sl.no]).set a (.va d)=δ++[Sl.va d]:=by rw[Ew _ _ (by lia)];simp[b]
  have k:(δ++[Sl.va d]).take a=δ:=by rw[Db (by lia),Bx (by lia)]
  have j:acc.length<16777216:=by simp at hl;lia
  have c:=RY a fe δ f b ds (acc++[f d]) (λe g=>h e (Ap _ g)) (by simp at hl⊢;lia);simp only[Q7,AX,P1,i,JM,Xy,BD,h d Aw,BE,if_pos j,k,c];simp
theorem D5{α:Type}:∀ds:List α,OJ (ds.map λ_=>.bl b5)=b0 (ds.map λ_=>b5)
 |[]=>rfl
 |d::ds=>by simp[D5 ds]
@[simp] theorem rj{α β:Type}(f:α->β)(ds:List α):OJ (ds.map ((λ_=>cM.bl b5)∘f))=b0 (ds.map λ_=>b5):=D5 ds
def Wd(w:Int):Prop:=0<=w/\w<=999
def mi(a b:Int):PH [a,b]=if a<=b then[a,b]else[b,a]:=by
 refine(FV ?_ ?_).symm
 ·split
  ·exact List.Perm.refl _
  ·exact List.Perm.swap _ _ _
 ·split
  ·simp;omega
  ·simp;omega
@[simp] theorem oG{a b:Int}:C4 (.lst [.int a,.int b])=b0 (.lst (if a<=b then[.int a,.int b]else[.int b,.int a])):=by show b0 (cM.lst ((PH [a,b]).map cM.int))=_;rw[mi];split<;>rfl
def km{a b:Int}(e:Wd a)(d:Wd b):0<=a*b/\a*b<=998001:=by obtain⟨h,g⟩:=e;obtain⟨c,f⟩:=d;exact⟨Int.mul_nonneg h c,Int.le_trans (Int.mul_le_mul g f c (by decide)) (by decide)⟩
def Yp{a b:Int}(c:0<=a)(d:0<b):W1 b (a+1) b=a/b:=by
 unfold W1;split
 ·have e : a = (a-b) + 1 * b := by omega
  have:=Int.add_mul_ediv_right (a-b) 1 (show b≠0 by omega)
  rw[<-e]at this;rw[this,show a+1-b-1=a-b by omega]
 ·rw[Int.ediv_eq_zero_of_lt c (by omega)]
def jy{x:String}(g:x∈["over","plus","minus","times","least","most","less"]){a b:Int}(k:Wd a)(j:Wd b):∃r,XT [.str x,.lst [.int a,.int b]]=b0 (r,[])/\RT [.str x,.lst [.int a,.int b]]=b0 (r,[])/\(r=.non∨∃w,r=.int w/\Wd w):=by
 have ab:=km k j;obtain⟨f,o⟩:=k;obtain⟨n,m⟩:=j;have hc:GR a b=b5:=by simp[GR];omega
 have c: -18446744073709551616<a/\a<18446744073709551616∨ -18446744073709551616<b/\b<18446744073709551616:=by omega
 unfold XT RT;rw[b6,b6];unfold T4 G8;simp only[Aj,Az,or_false]at g;rcases g with rfl|rfl|rfl|rfl|rfl|rfl|rfl
 ·by_cases h:b=0
  ·subst h
   have e:NG [.int a,.int 0]=b0 (.non,[]):=by unfold NG;rw[b6];unfold HB;simp[bV]
   exact⟨.non,by simp[bV],by simp[bV,UX,bA,ZL,U9,e,cM.hard],.inl rfl⟩
  ·have d : 0 < b := by omega
   have i:b<1073741824:=by omega
   have q0:0<=a/b:=Mc f (by omega);have q1:a/b<=a:=Int.ediv_le_self _ f;have l:a/b<9223372036854775808:=by omega
   have e:NG [.int a,.int b]=b0 (.int (a/b),[]):=by unfold NG;rw[b6];unfold HB;simp[bV,h,GQ,d,i]
   exact⟨.int (a/b),by simp[bV,h,Yp f d,d,i,l],by simp[bV,UX,bA,ZL,U9,e,cM.hard],.inr ⟨_,rfl,q0,by omega⟩⟩
 ·have e:GJ [.int a,.int b]=b0 (.int ((a+b) % 1000),[]):=by unfold GJ;rw[b6];unfold CU;simp[bV,ZW]
  refine⟨.int ((a+b) % 1000),?_,by simp[bV,UX,bA,ZL,U9,e,cM.hard],.inr ⟨_,rfl,by omega,by omega⟩⟩;have:a+b-(a+b)/1000*1000=(a+b) % 1000:=by omega
  simp[bV,bA,ZL,c,GQ,GR,this]
 ·have e:MC [.int a,.int b]=b0 (.int ((a-b) % 1000),[]):=by unfold MC;rw[b6];unfold HA;simp[bV,ZW]
  refine⟨.int ((a-b) % 1000),?_,by simp[bV,UX,bA,ZL,U9,e,cM.hard],.inr ⟨_,rfl,by omega,by omega⟩⟩;have:a+1000-b-(a+1000-b)/1000*1000=(a-b) % 1000:=by omega
  simp[bV,bA,ZL,c,GQ,GR,this]
 ·have e:MD [.int a,.int b]=b0 (.int (a*b % 1000),[]):=by unfold MD;rw[b6];unfold HC;simp[bV,ZW,hc]
  refine⟨.int (a*b % 1000),?_,by simp[bV,UX,bA,ZL,U9,e,cM.hard],.inr ⟨_,rfl,by omega,by omega⟩⟩
  have:a*b-a*b/1000*1000=a*b % 1000:=by generalize a*b=z;omega
  simp[bV,bA,ZL,c,GQ,GR,this]
 ·have e:MB [.int a,.int b]=b0 (.int (if a<=b then a else b),[]):=by
   unfold MB;rw[b6];unfold G9;by_cases h:a<=b
   ·have h' : ¬ b < a := by omega
    simp[bV,h,h']
   ·have h' : b < a := by omega
    simp[bV,h,h']
  refine⟨.int (if a<=b then a else b),?_,by simp[bV,UX,bA,ZL,U9,e,cM.hard],.inr ⟨_,rfl,by split<;>omega,by split<;>omega⟩⟩;by_cases h:a<=b<;>simp[bV,h]
 ·have e:GH [.int a,.int b]=b0 (.int (if a<=b then b else a),[]):=by
   unfold GH;rw[b6];unfold CS;by_cases h:a<b
   ·have h' : a <= b := by omega
    simp[bV,h,h']
   ·by_cases h2:a=b
    ·subst h2
     simp[bV]
    ·have h' : ¬ a <= b := by omega
     simp[bV,h,h']
  refine⟨.int (if a<=b then b else a),?_,by simp[bV,UX,bA,ZL,U9,e,cM.hard],.inr ⟨_,rfl,by split<;>omega,by split<;>omega⟩⟩;by_cases h:a<=b<;>simp[bV,h]
 ·have e:GG [.int a,.int b]=b0 (.int (if a<b then 1 else 0),[]):=by unfold GG;rw[b6];unfold CQ;by_cases h:a<b<;>simp[bV,h]
  refine⟨.int (if a<b then 1 else 0),?_,by simp[bV,UX,bA,ZL,U9,e,cM.hard],.inr ⟨_,rfl,by split<;>omega,by split<;>omega⟩⟩;by_cases h:a<b<;>simp[bV,h]
def FM(k:Nat):(X8 0 k).length=k:=by simp[X8]
def EE{cs:List Int}{sure:Int}(b:∀c∈cs,Wd c)(h1:sure<=cs.length)(h2:cs.length<=64):VH [.lst (cs.map .int),.int sure]=b0 (.bl b5,[]):=by
 have e:=RY 0 (cA 3 [] ZB (aE (fV 0) (aE (fC (.int 0)) (aE (fC ZW) bR)))) [] (λ_=>.bl b5) rfl (cs.map .int) [] (λx d=>by
  obtain⟨w,a,rfl⟩:=Cs.mp d;have:=b w a
  simp[ZW,this.1,this.2]) (by simp;lia)
 have f:(cs.length:Int)<=64:=by lia
 unfold VH;rw[b6];unfold P4;simp only[Dc]at e;simp[bV,OK,h1,f,Z7,e]
def ED(ns:List Int)(n:Nat)(sure:Int)(hl:ns.length<=63)(s:n<10000)(t:0<=sure)(h1:sure<=64):∃(cs:List Int) (n':Nat),(∀c∈cs,Wd c)/\sure<=cs.length/\cs.length<=64/\n'<=n+67/\WP [WK ns,X3 n,.int sure]=b0 (.lst (cs.map .int),[X3 n']):=by
 have d0:=Y2 ns n 9 hl (by lia) (by decide);have p:=TL ns n (b:=9) (by decide);obtain⟨y,f,o⟩:=X0 ns (n+1) [.int sure,.int (if sure+M7 ns n 9<64 then sure+M7 ns n 9 else 64),.int 64] hl (by lia) (by simp);obtain⟨m,rfl,m0,m1⟩:∃m:Int,y=.int m/\sure<=m/\m<=64:=by
  simp only[Aj,Az,or_false]at f;rcases f with h|h|h
  ·exact⟨_,h,by lia,by lia⟩
  ·exact⟨_,h,by split<;>lia,by split<;>lia⟩
  ·exact⟨_,h,by lia,by lia⟩
 obtain⟨z,hz,l⟩:=X0 ns (n+2) [.int 2,.int 4,.int 1000] hl (by lia) (by simp);obtain⟨b,rfl,g,u⟩:∃b:Int,z=.int b/\0<b/\b<=1000:=by simp only[Aj,Az,or_false]at hz;rcases hz with h|h|h<;>exact⟨_,h,by lia,by lia⟩
 have a:=FM m.toNat;obtain⟨ws,j,i,e⟩:=IN ns b hl g (cA 3 [1] bB (aE (fV 0) (aO 1 (aE (fV 2) bR)))) .no [.va (.int b)] 3 rfl (λq d r=>by simp[Y2 ns q b hl (by lia) g]) (X8 0 m.toNat) (n+3) [] (by rw[a];lia) (by rw[a];simp;lia);simp only[Dc,a,Ep]at e;rw[a]at j;have k:(-4611686018427387904:Int)<=m/\m<4611686018427387904:=by lia
 refine⟨ws,n+3+m.toNat,λc hc=>?_,by lia,by lia,by lia,?_⟩
 ·have:=i c hc
  exact⟨by lia,by lia⟩
 ·unfold WP
  rw[b6];unfold R7;simp[bV,d0,o,l,k,Z7,e]
theorem BC:∀(ks:List aS) (ws:List cM) (k:aS) (d:cM),ks.length=ws.length->k∉ks->YA ks ws k d=(ks++[k],ws++[d])
 |[],[],k,d,_,_=>by simp[YA]
 |k'::ks,w::ws,k,d,hl,a=>by have h1:¬k'=k:=λe=>a (by rw[e];exact Aw);have b:=BC ks ws k d (by simpa using hl) λh=>a (Ap _ h);simp[YA,h1,b]
theorem EY:∀(ks:List aS) (ws:List cM) (i:Nat) (k:aS),ks.Nodup->ks.length=ws.length->ks[i]?=b0 k->bA ks ws k=ws[i]?
 |[],_,i,k,_,_,e=>by simp at e
 |k'::ks,[],i,k,_,hl,_=>by simp at hl
 |k'::ks,w::ws,0,k,_,_,e=>by simp at e;simp[bA,e]
 |k'::ks,w::ws,i+1,k,b,hl,e=>by
  have c:ks[i]?=b0 k:=by simpa using e
  have a:¬k'=k:=λz=>(Cd.mp b).1 (by rw[z];exact Cn c);have:=EY ks ws i k (Cd.mp b).2 (by simpa using hl) c
  simp[bA,a,this]
noncomputable def cnt:cM->Nat
 |.tup (.str x::_)=>if x= "number" ∨x= "load" then 0 else if x= "store" then 1 else if x= "pick" then 3 else 2
 |_=>0
def EI{x:String}(b:x∈["over","plus","minus","times","least","most","less"]){y:String}(a:(["over","plus","minus","times","least","most","less"].contains y)=ba):(¬x=y)/\¬y=x:=by
 have h:¬x=y:=λe=>by subst e;rw[List.contains_iff_mem.mpr b]at a;cases a
 exact⟨h,λe=>h e.symm⟩
def CY{M:Int->Prop}{row:cM}(h:ZZ M row):∃as:List Int,(∀a∈as,M a)/\as.length=cnt row/\ZQ [row]=b0 (.lst (as.map .int),[])/\VL [row]=b0 (.lst (as.map .int),[]):=by
 cases h with
 | @number n _ _=>
  refine⟨[],(λ_ h=>nomatch h),by kernel_rfl,?_,?_⟩
  ·kernel_rfl
  ·kernel_rfl
 | @two x a b e d f=>
  refine⟨[a,b],by simp[d,f],?_,?_,?_⟩
  ·simp only[Aj,Az,or_false]at e
   rcases e with rfl|rfl|rfl|rfl|rfl|rfl|rfl<;>kernel_rfl
  ·simp only[Aj,Az,or_false]at e
   rcases e with rfl|rfl|rfl|rfl|rfl|rfl|rfl<;>kernel_rfl
  ·simp only[Aj,Az,or_false]at e
   rcases e with rfl|rfl|rfl|rfl|rfl|rfl|rfl<;>kernel_rfl
 | @pick c a b hc d f=>
  refine⟨[c,a,b],by simp[hc,d,f],by kernel_rfl,?_,?_⟩
  ·kernel_rfl
  ·kernel_rfl
 | @load p _ _=>
  refine⟨[],(λ_ h=>nomatch h),by kernel_rfl,?_,?_⟩
  ·kernel_rfl
  ·kernel_rfl
 | @take p c a _ _ hc d=>
  refine⟨[c,a],by simp[hc,d],by kernel_rfl,?_,?_⟩
  ·kernel_rfl
  ·kernel_rfl
 | @store p a _ _ d=>
  refine⟨[a],by simp[d],by kernel_rfl,?_,?_⟩
  ·kernel_rfl
  ·kernel_rfl
 | @put p a c _ _ d hc=>
  refine⟨[a,c],by simp[d,hc],by kernel_rfl,?_,?_⟩
  ·kernel_rfl
  ·kernel_rfl
inductive Bl:List Kd->List cM->List Kd->Prop
 |nil {kds:List Kd}:Bl kds [] kds
 |cons {kds aj:List Kd}{row:cM}{rows:List cM}:ZZ (Nm kds .w) row->Bl (kds++[JG .w row]) rows aj->Bl kds (row::rows) aj
def Bl.snoc{kds b:List Kd}{rows:List cM}{row:cM}(h:Bl kds rows b)(r:ZZ (Nm b .w) row):Bl kds (rows++[row]) (b++[JG .w row]):=by
 induction h with
 |nil=>exact .cons r .nil
 |cons a _ c=>exact .cons a (c r)
def Bl.len{kds a:List Kd}{rows:List cM}(h:Bl kds rows a):a.length=kds.length+rows.length:=by
 induction h with
 |nil=>simp
 |cons _ _ b=>simp only[b,Ay,Bg,Gj];lia
def Bl.all{kds c:List Kd}{rows:List cM}(h:Bl kds rows c):∀d∈rows,ZZ (Nm c .w) d:=by
 induction h with
 |nil=>intro d hd;cases hd
 | @cons kds c row rows a t b=>
  intro d hd;rcases Aj.mp hd with rfl|hd
  ·refine a.imp λx e => ?_
   have:∀{k k':List Kd}{rs:List cM},Bl k rs k'->Nm k .w x->Nm k' .w x:=by
    intro k k' rs h;induction h with
    |nil=>exact id
    |cons _ _ b=>exact λz=>b z.snoc
   exact this t e.snoc
  ·exact b d hd
theorem NU:∀ns:List Int,W8 (ns.map .int)=b0 ns
 |[]=>rfl
 |i::ns=>by show(W8 (ns.map .int)).map (λns=>i::ns)=_;rw[NU ns];rfl
theorem A7{n:Int}:∀{ns:List Int},n∈ns->∃j:Nat,T8 n ns=b0 j/\j<ns.length
 | i :: ns,h => by
  unfold T8;by_cases e:i=n
  ·rw[if_pos e];exact⟨0,rfl,by simp⟩
  ·rw[if_neg e]
   obtain⟨j,h1,h2⟩:=A7 (ns:=ns) (by
    rcases Aj.mp h with z|z
    ·exact absurd z.symm e
    ·exact z)
   exact⟨j+1,by rw[h1];rfl,by simp;lia⟩
noncomputable def nst(ns:List Int)(n:Nat)(rows:List cM)(made:List Int)(sn:cM)(room:Int)(last:cM)(c:Int)(bs:List Int)(b a:Sl):Ev:=
 [.va (WK ns),.ow (X3 n),.va (.lst rows),.va (.lst (made.map .int)),.ow sn,.va (.int room),.va last,.va (.int c),.ow (.lst (bs.map .int)),b,a]
def my(ns:List Int)(n:Nat)(rows:List cM)(made:List Int)(sn:cM)(room:Int)(last:cM)(h:Int)(bs:List Int)(a:Int)(d:Sl)(hl:ns.length<=63)(r:n<700000)(e:a∈made)(s:bs.length<100):∃b∈made,∃o,YB (nst ns n rows made sn room last h bs (.va (.int a)) d)=b0 (.nx (nst ns (n+1) rows made sn room last h (bs++[b]) (.va (.int a)) o)):=by
 obtain⟨j,l,k⟩:=A7 e;obtain⟨x,g,ex⟩:=X0 ns n [.int 1,.int 1,.int 1,.int 1,.int (-1),.int 0,.int 2] hl (by lia) (by simp);obtain⟨p,rfl⟩:∃p,x=.int p:=by simp only[Aj,Az,or_false]at g;rcases g with rfl|rfl|rfl|rfl|rfl|rfl|rfl<;>exact⟨_,rfl⟩
 have hi:C3 (.lst (made.map .int)) (.int a)=b0 (.int j):=by show(W8 (made.map .int)).bind (λns=>(T8 a ns).map λj=>cM.int j)=_;rw[NU,Ai,l];rfl
 have c:bs.length<16777216:=by lia
 by_cases h1:0<=(j:Int)+p/\(j:Int)+p<made.length
 ·obtain⟨q,i,eq⟩:=MJ (ns:=made) h1.1 h1.2
  by_cases h2:q=(rows.length:Int)-1
  ·refine⟨a,e,.va (.int (j+p)),?_⟩
   unfold YB;simp[nst,hi,ex,h1.1,h1.2,eq,h2,c]
  ·refine⟨q,i,.va (.int (j+p)),?_⟩
   unfold YB;simp[nst,hi,ex,h1.1,h1.2,eq,h2,c]
 ·refine⟨a,e,.va (.int (j+p)),?_⟩
  unfold YB;by_cases f:0<=(j:Int)+p
  ·have m : ¬ (j : Int) + p < made.length := λz => h1 ⟨f,z⟩
   simp[nst,hi,ex,f,m,c]
  ·simp[nst,hi,ex,f,c]
theorem C1(ns:List Int)(rows:List cM)(made:List Int)(sn:cM)(room:Int)(last:cM)(g:Int)(hl:ns.length<=63):∀(as:List Int) (n:Nat) (bs:List Int) (h d:Sl),n+as.length<700000->(∀a∈as,a∈made)->bs.length+as.length<100->∃cs:List Int,(∀c∈cs,c∈made)/\cs.length=as.length/\∃f k,Y3 (gN 9) YB (as.map .int) (nst ns n rows made sn room last g bs h d)=b0 (.nx (nst ns (n+as.length) rows made sn room last g (bs++cs) f k))
 |[],n,bs,h,d,_,_,_=>⟨[],by simp,rfl,h,d,by simp⟩
 | a :: as,n,bs,h,d,p,l,q => by
  simp only[Bg]at p q;obtain⟨b,j,i,e⟩:=my ns n rows made sn room last g bs a d hl (by lia) (l a Aw) (by lia);obtain⟨cs,h1,h2,f,k,m⟩:=C1 ns rows made sn room last g hl as (n+1) (bs++[b]) (.va (.int a)) i (by lia) (λx o=>l x (Ap _ o)) (by simp;lia);refine⟨b::cs,λc hc=>?_,by simp[h2],f,k,?_⟩
  ·rcases Aj.mp hc with rfl|hc
   ·exact j
   ·exact h1 c hc
  rw[Ba,YT,P1,W9,show(nst ns n rows made sn room last g bs h d).set 9 (.va (.int a))=nst ns n rows made sn room last g bs (.va (.int a)) d from rfl,e,VR,m];simp[Nq,Kb 1]
def cel4{x:String}(h:onC x):(decide ("load"=x) || (decide ("take"=x) || (decide ("store"=x) || decide ("put"=x))))=b5:=by
 rcases h with rfl|rfl|rfl|rfl<;>decide
def snM{m k:Nat}{d:cM}(h:Sn m d)(hk:m<=k):Sn k d:=by obtain⟨ks,vs,e,h1,h2,a⟩:=h;exact⟨ks,vs,e,h1,h2,by lia⟩
def MM(ns:List Int)(n:Nat)(rows:List cM)(made:List Int)(sn:cM)(room:Int){x:String}{p:Int}{as:List Int}{m:Nat}(hl:ns.length<=63)(C:n<600000)(D:m<8000000)(s:Sn m sn)(j:0<room)(r:onC x)(z:VC rows (-1)=b0 (.tup (.str x:: .int p::as.map .int)))(t:∀a∈as,a∈made)(G:as.length<=3):∃(q:Int) (cs:List Int) (d:cM),0<=q/\q<room/\(∀c∈cs,c∈made)/\cs.length=as.length/\Sn (m+1) d/\XU [WK ns,X3 n,.lst rows,.lst (made.map .int),sn,.int room]=b0 (.tup (.str x:: .int q::cs.map .int),[X3 (n+as.length),d]):=by
 obtain⟨cs,h1,h2,A,l,e⟩:=C1 ns rows made sn room (.tup (.str x:: .int p::as.map .int)) 2 hl as n [] .no .no (by lia) t (by simp;lia);simp only[nst,Dc,By]at e;obtain⟨ks,vs,rfl,o,i,B⟩:=s;obtain⟨f,b,pe,w,v,F,E,u⟩:=putI ks vs (.inr (x:Si)) ((p+1) % room) o i;have hk:ks.length<16777216:=by lia
 refine⟨(p+1) % room,cs,.dct f (b.map .int),Hr _ (by lia),Ez _ j,h1,h2,⟨f,b,rfl,w,v,by lia⟩,?_⟩;unfold XU;rw[b6,T5.eq_1];have g:=cel4 r;have y:T2 (.str x:: .int p::as.map cM.int) (b0 2) b3=as.map cM.int:=by
  have:=Q8 (ds:=.str x:: .int p::as.map cM.int) (k:=2) (by simp)
  simpa using this
 have h:2+cs.length<=16777216:=by lia
 simp[bV,z,g,y,e,j,hk,i,pe,u,h]
def off4{x:String}(h:¬onC x):(¬x= "load" /\¬ "load"=x)/\(¬x= "take" /\¬ "take"=x)/\(¬x= "store" /\¬ "store"=x)/\¬x= "put" /\¬ "put"=x:=by refine⟨⟨λz=>h (.inl z),λz=>h (.inl z.symm)⟩,⟨λz=>h (.inr (.inl z)),λz=>h (.inr (.inl z.symm))⟩,⟨λz=>h (.inr (.inr (.inl z))),λz=>h (.inr (.inr (.inl z.symm)))⟩,λz=>h (.inr (.inr (.inr z))),λz=>h (.inr (.inr (.inr z.symm)))⟩
def E8(ns:List Int)(n:Nat)(rows:List cM)(made:List Int)(sn:cM)(room:Int){x:String}{as:List Int}(hl:ns.length<=63)(r:n<600000)(j:¬onC x)(p:VC rows (-1)=b0 (.tup (.str x::as.map .int)))(l:∀a∈as,a∈made)(s:as.length<=3):∃cs:List Int,(∀c∈cs,c∈made)/\cs.length=as.length/\XU [WK ns,X3 n,.lst rows,.lst (made.map .int),sn,.int room]=b0 (.tup (.str x::cs.map .int),[X3 (n+as.length),sn]):=by
 obtain⟨cs,h1,h2,q,i,e⟩:=C1 ns rows made sn room (.tup (.str x::as.map .int)) 1 hl as n [] .no .no (by lia) l (by simp;lia);simp only[nst,Dc,By]at e;refine⟨cs,h1,h2,?_⟩;unfold XU;rw[b6,T5.eq_1];obtain⟨⟨_,h⟩,⟨_,g⟩,⟨_,f⟩,_,d⟩:=off4 j;have o:T2 (.str x::as.map cM.int) (b0 1) b3=as.map cM.int:=by
  have:=Q8 (ds:=.str x::as.map cM.int) (k:=1) (by simp)
  simpa using this
 have m:T2 (.str x::as.map cM.int) b3 (b0 1)=[.str x]:=by
  have:=ON (ds:=.str x::as.map cM.int) (k:=1)
  simpa using this
 have b:1+cs.length<=16777216:=by lia
 simp[bV,p,h,g,f,d,o,m,e,b]
def gZ(ns:List Int)(n:Nat)(rows:List cM)(made:List Int)(sn:cM)(room:Int){last:cM}{m:Nat}(hl:ns.length<=63)(l:n<600000)(s:m<8000000)(j:Sn m sn)(r:0<room)(A:room<=64)(o:VC rows (-1)=b0 last)(ok:ZZ (· ∈made) last)(y:∀k,last≠ .tup [.str "number",.int k]):∃row n' g,n<=n'/\n'<=n+3/\Sn (m+1) g/\ZZ (· ∈made) row/\XU [WK ns,X3 n,.lst rows,.lst (made.map .int),sn,.int room]=b0 (row,[X3 n',g]):=by
 cases ok with
 |number=>exact absurd rfl (y _)
 | @two x a b w i v=>
  obtain⟨cs,h1,h2,e⟩:=E8 ns n rows made sn room (x:=x) (as:=[a,b]) hl l (B5 w) o (by simp[i,v]) (by simp);match cs,h2 with
  |[c,d],_=>exact⟨_,n+2,sn,by lia,by lia,snM j (by lia),.two w (h1 c (by simp)) (h1 d (by simp)),e⟩
 | @pick c a b hc i v=>
  obtain⟨cs,h1,h2,e⟩:=E8 ns n rows made sn room (x:= "pick") (as:=[c,a,b]) hl l (λz=>by rcases z with z|z|z|z<;>exact absurd z (by decide)) o (by simp[i,v,hc]) (by simp);match cs,h2 with
  |[c,d,f],_=>exact⟨_,n+3,sn,by lia,by lia,snM j (by lia),.pick (h1 c (by simp)) (h1 d (by simp)) (h1 f (by simp)),e⟩
 | @load p u t=>
  obtain⟨q,cs,g,q0,q1,h1,h2,h,e⟩:=MM ns n rows made sn room (x:= "load") (p:=p) (as:=[]) hl l s j r (.inl rfl) o (by simp) (by simp);match cs,h2 with
  |[],_=>exact⟨_,n+0,g,by lia,by lia,h,.load q0 (by lia),e⟩
 | @take p c a u t hc i=>
  obtain⟨q,cs,g,q0,q1,h1,h2,h,e⟩:=MM ns n rows made sn room (x:= "take") (p:=p) (as:=[c,a]) hl l s j r (.inr (.inl rfl)) o (by simp[hc,i]) (by simp);match cs,h2 with
  |[c,d],_=>exact⟨_,n+2,g,by lia,by lia,h,.take q0 (by lia) (h1 c (by simp)) (h1 d (by simp)),e⟩
 | @store p a u t i=>
  obtain⟨q,cs,g,q0,q1,h1,h2,h,e⟩:=MM ns n rows made sn room (x:= "store") (p:=p) (as:=[a]) hl l s j r (.inr (.inr (.inl rfl))) o (by simp[i]) (by simp);match cs,h2 with
  |[c],_=>exact⟨_,n+1,g,by lia,by lia,h,.store q0 (by lia) (h1 c (by simp)),e⟩
 | @put p a c u t i hc=>
  obtain⟨q,cs,g,q0,q1,h1,h2,h,e⟩:=MM ns n rows made sn room (x:= "put") (p:=p) (as:=[a,c]) hl l s j r (.inr (.inr (.inr rfl))) o (by simp[i,hc]) (by simp);match cs,h2 with
  |[c,d],_=>exact⟨_,n+2,g,by lia,by lia,h,.put q0 (by lia) (h1 c (by simp)) (h1 d (by simp)),e⟩
structure RI(rows:List cM)(made:List Int)(kds:List Kd):Prop where
 bl:Bl [] rows kds
 ex:∀a,a∈made↔Nm kds .w a
 ml:made.length<=rows.length
def RI.len{rows:List cM}{made:List Int}{kds:List Kd}(h:RI rows made kds):kds.length=rows.length:=by
 have:=h.bl.len
 simpa using this
def la{kds:List Kd}{k:Kd}{a:Int}:Nm (kds++[k]) .w a↔Nm kds .w a∨(k=.w/\a=kds.length):=by
 constructor
 ·intro h
  have b:=h.1;have hl:=h.lt;rw[Ay,Bp]at hl;by_cases hi:a.toNat<kds.length
  ·exact .inl ⟨b,by have:=h.2;rwa[Ae hi]at this⟩
  ·have hi : a.toNat = kds.length := by lia
   have e:=h.2;rw[hi]at e;simp at e;exact .inr ⟨e,by lia⟩
 ·rintro (h|⟨rfl,rfl⟩)
  ·exact h.snoc
  ·exact Nm.new
def RI.more{rows:List cM}{made:List Int}{kds:List Kd}{row:cM}(h:RI rows made kds)(r:ZZ (· ∈made) row):RI (rows++[row]) (if JG .w row=.w then made++[(rows.length:Int)]else made) (kds++[JG .w row]):=by
 refine⟨h.bl.snoc (r.imp λa b=>(h.ex a).mp b),λa=>?_,?_⟩
 ·rw[la,<- h.ex a,h.len]
  split
  ·rename_i e
   simp[e]
  ·rename_i e
   simp[e]
 ·have:=h.ml
  split<;>simp<;>lia
theorem RI.last{rs:List cM}{last:cM}{made:List Int}{kds:List Kd}(h:RI (rs++[last]) made kds):ZZ (· ∈made) last:=(h.bl.all last (by simp)).imp λa b=>(h.ex a).mpr b
noncomputable def MY(ns:List Int)(n:Nat)(b room:Int)(rows:List cM)(made:List Int)(sn:cM)(a:Sl):Ev:=
 [.va (WK ns),.ow (X3 n),.va (.int b),.va (.int room),.ow (.lst rows),.ow (.lst (made.map .int)),.ow sn,a]
theorem IZ:∀vs:List Int,TM (vs.map .int)=b5
 |[]=>rfl
 |_::vs=>by show((cM.int _).hard&&TM (vs.map .int))=b5;rw[IZ vs];rfl
def BY{m:Nat}{sn:cM}(h:Sn m sn):SI sn=b5:=by obtain⟨ks,vs,rfl,_⟩:=h;exact IZ vs
def AU{row:cM}(x:String)(t:List cM)(e:row=.tup (.str x::t)):JG .w row=.w↔ ¬(x= "store" ∨x= "put"):=by
 subst e;by_cases h:x= "store" ∨x= "put"
 ·rw[lP h];simp[h]
 ·have : x ∉ ["store","put"] := by simpa using h
  rw[gP this];simp[h]
def gA(ns:List Int)(n:Nat)(q room:Int){rows:List cM}{made:List Int}{kds:List Kd}{sn:cM}{m:Nat}(w:Sl)(hl:ns.length<=63)(H:n<600000)(I:m<8000000)(r:Sn m sn)(G:0<room)(s:room<=64)(R:RI rows made kds)(A:rows≠[])(L:rows.length<1000):∃p B J n' a,RI p B J/\rows.length<=p.length/\((rows.length:Int)<=q->(p.length:Int)<=q)/\p.length<=rows.length+1/\n<=n'/\n'<=n+3/\Sn (m+1) a/\YC (MY ns n q room rows made sn w)=b0 (.nx (MY ns n' q room p B a w)):=by
 obtain⟨rs,last,rfl⟩:∃rs last,rows=rs++[last]:=⟨rows.dropLast,rows.getLast A,(Gg A).symm⟩;have ok:=R.last;have o:=OH rs last;have v:made.length<16777216:=by have:=R.ml;lia
 have f:(rs++[last]).length<16777216:=by lia
 generalize K:rs++[last]=rows at*;obtain⟨x,t,l,_⟩:=LQ ok;by_cases h1:(rows.length:Int)<q
 ·by_cases h2:x= "number"
  ·refine ⟨rows,made,kds,n,sn,R,Au _,id,by lia,by lia,by lia,snM r (by lia),?_⟩
   unfold YC;simp[MY,h1,o,l,h2]
  ·obtain ⟨row,n',a,F,E,h,c,e⟩ := gZ ns n rows made sn room hl H I r G s o ok (λk z => by rw [l]at z;simp [ZL]at z;exact h2 z.1)
   obtain⟨y,u,j,_⟩:=LQ c;have g:=OH rows row;refine⟨_,_,_,n',a,R.more c,by simp,by simp;lia,by simp,F,E,h,?_⟩;unfold YC;have key:=AU y u j;have b:=c.hard;rw[j]at b;have d:=BY h;by_cases i:y= "store" ∨y= "put"
   ·rw [if_neg (by rw [key];simp [i])]
    rcases i with rfl|rfl
    ·simp[MY,h1,o,l,h2,e,g,j,f,b,d]
    ·simp[MY,h1,o,l,h2,e,g,j,f,b,d]
   ·rw [if_pos (by rw [key];exact i)]
    have D:¬ "store"=y:=λz=>i (.inl z.symm);have C:¬ "put"=y:=λz=>i (.inr z.symm);simp[MY,h1,o,l,h2,e,g,j,f,b,d,D,C,v]
 ·refine ⟨rows,made,kds,n,sn,R,Au _,id,by lia,by lia,by lia,snM r (by lia),?_⟩
  unfold YC;simp[MY,h1]
theorem Vm(ns:List Int)(b room:Int)(hl:ns.length<=63)(q:0<room)(h:room<=64):∀(ds:List cM) (n:Nat) {rows:List cM}{made:List Int}{kds:List Kd}{sn:cM}{m:Nat}(g:Sl),n+3*ds.length<600000->m+ds.length<8000000->Sn m sn->RI rows made kds->rows≠[]->rows.length+ds.length<1000->∃f i o n' a c,RI f i o/\rows.length<=f.length/\((rows.length:Int)<=b->(f.length:Int)<=b)/\n<=n'/\n'<=n+3*ds.length/\Sn (m+ds.length) a/\Y3 (gN 7) YC ds (MY ns n b room rows made sn g)=b0 (.nx (MY ns n' b room f i a c))
 |[],n,rows,made,kds,sn,m,g,_,_,l,R,_,_=>⟨rows,made,kds,n,sn,g,R,Au _,id,by lia,by simp,l,by simp⟩
 |d::ds,n,rows,made,kds,sn,m,g,u,v,l,R,r,hz=>by simp only[Bg]at u v hz;obtain⟨E,D,C,t,s,A,p,y,J,a4,I,j,w⟩:=gA ns n b room (.va d) hl (by lia) (by lia) l q h R r (by lia);obtain⟨f,i,o,n',a,c,B,H,x,G,F,k,e⟩:=Vm ns b room hl q h ds t (.va d) (by lia) (by lia) j A (λz=>by rw[z]at p;simp at p;exact r p) (by lia);refine⟨f,i,o,n',a,c,B,by lia,λz=>x (y z),by lia,by simp only[Bg];lia,snM k (by simp only[Bg];lia),?_⟩;rw[YT,P1,W9,show(MY ns n b room rows made sn g).set 7 (.va d)=MY ns n b room rows made sn (.va d) from rfl,w,VR,e]
def iT(ns:List Int)(n:Nat)(o room:Int){rows:List cM}{made:List Int}{kds:List Kd}{sn:cM}(A:Sl)(hl:ns.length<=63)(S:n<500000)(H:KJ n sn)(D:0<room)(q:room<=64)(R:RI rows made kds)(I:(rows.length:Int)<o)(K:o<=40):∃m s w n' a d,RI m s w/\rows.length<m.length/\(m.length:Int)<=o/\n<=n'/\n'<=n+20/\KJ n' a/\WA (MY ns n o room rows made sn A)=b0 (.nx (MY ns n' o room m s a d)):=by
 obtain⟨row,B,G,U,T,p,f,_,e⟩:=Vr ns n made sn room hl (by lia) H D q;obtain⟨x,C,ex⟩:=X0 ns B [.int 0,.int 1,.int 1,.int 2,.int 3] hl (by lia) (by simp);obtain⟨k,rfl,Q,P⟩:∃k:Nat,x=.int k/\0<=k/\k<=3:=by
  simp only[Aj,Az,or_false]at C;rcases C with rfl|rfl|rfl|rfl|rfl
  ·exact⟨0,rfl,by lia,by lia⟩
  ·exact⟨1,rfl,by lia,by lia⟩
  ·exact⟨1,rfl,by lia,by lia⟩
  ·exact⟨2,rfl,by lia,by lia⟩
  ·exact⟨3,rfl,by lia,by lia⟩
 have N:=R.more f;have h:rows.length<16777216:=by lia
 have v:made.length<16777216:=by have:=R.ml;lia
 have J:(X8 0 k).length=k:=FM k;obtain⟨m,s,w,n',a,d,O,M,L,W,V,t,c⟩:=Vm ns o room hl D q (X8 0 k) (B+1) A (by lia) (by lia) p N (by simp) (by simp;lia);refine⟨m,s,w,n',a,d,O,by simp at M;lia,L (by simp;lia),by lia,by lia,snM t (by lia),?_⟩;obtain⟨y,u,l,_⟩:=LQ f;have i:=OH rows row;have key:=AU y u l;have b:=f.hard;rw[l]at b;have g:=BY p;have j:(-4611686018427387904:Int)<=k/\(k:Int)<4611686018427387904:=by lia
 unfold WA;by_cases r:y= "store" ∨y= "put"
 ·rw [if_neg (by rw [key];simp [r])]at c
  simp only[MY]at c;rw[l]at c;rcases r with rfl|rfl
  ·simp[MY,e,i,l,h,b,g,ex,j,c]
  ·simp[MY,e,i,l,h,b,g,ex,j,c]
 ·rw [if_pos (by rw [key];exact r)]at c
  simp only[MY,Ft,Ba,By]at c;rw[l]at c;have F:¬ "store"=y:=λz=>r (.inl z.symm);have E:¬ "put"=y:=λz=>r (.inr z.symm);simp[MY,e,i,l,h,b,g,ex,j,F,E,v,c]
def PV{t:VB}{g:VS}{k:Nat}{δ δ1 δ2:Ev}(h:t δ=b0 (b5,δ1))(h2:g δ1=b0 (.nx δ2)):Z4 t g (k+1) δ=Z4 t g k δ2:=by show((t δ).bind λp=>if p.1=b5 then(g p.2).bind (XE (Z4 t g k))else b0 (.nx p.2))=_;rw[h,Ai];show(if b5=b5 then(g δ1).bind (XE (Z4 t g k))else _)=_;rw[if_pos rfl,h2];rfl
def PU{t:VB}{g:VS}{k:Nat}{δ δ1:Ev}(h:t δ=b0 (ba,δ1)):Z4 t g (k+1) δ=b0 (.nx δ1):=by show((t δ).bind λp=>if p.1=b5 then(g p.2).bind (XE (Z4 t g k))else b0 (.nx p.2))=_;rw[h];rfl
theorem We(ns:List Int)(a room:Int)(hl:ns.length<=63)(p:0<room)(h:room<=64)(i:a<=40):∀(f:Nat) (n:Nat) {rows:List cM}{made:List Int}{kds:List Kd}{sn:cM}(d:Sl),a-rows.length<=f->(rows.length:Int)<=a->n+20*f<500000->KJ n sn->RI rows made kds->∃j k m n' b c,RI j k m/\(j.length:Int)=a/\n<=n'/\n'<=n+20*f/\Z4 (fB (f2 oLt (f1 YU (fO 4)) (fV 2))) WA (f+1) (MY ns n a room rows made sn d)=b0 (.nx (MY ns n' a room j k b c))
 |0,n,rows,made,kds,sn,d,h1,h2,t,o,R=>by
  refine⟨rows,made,kds,n,sn,d,R,by lia,by lia,by lia,PU ?_⟩;have:¬(rows.length:Int)<a:=by lia
  simp[MY,this]
 | f + 1,n,rows,made,kds,sn,d,h1,h2,t,o,R => by
  by_cases g:(rows.length:Int)<a
  ·obtain ⟨B,A,z,s,r,q,x,F,w,E,a4,l,u⟩ := iT ns n a room d hl (by lia) o p h R g i
   obtain⟨j,k,m,n',b,c,y,v,D,C,e⟩:=We ns a room hl p h i f s q (by lia) w (by lia) l x;refine⟨j,k,m,n',b,c,y,v,by lia,by lia,?_⟩;rw[PV (δ1:=MY ns n a room rows made sn d) (by simp[MY,g]) u,e]
  ·refine ⟨rows,made,kds,n,sn,d,R,by lia,by lia,by lia,PU ?_⟩
   simp[MY,g]
def kB(ns:List Int)(n:Nat)(b room:Int)(hl:ns.length<=63)(k:n<400000)(f:0<room)(c:room<=64)(g:0<=b)(d:b<=40):∃rows kds n',Bl [] rows kds/\(rows.length:Int)=b/\n<=n'/\n'<=n+20*40/\TW [WK ns,X3 n,.int b,.int room]=b0 (.tup rows,[X3 n']):=by obtain⟨rows,made,kds,n',sn,j,R,i,h,l,e⟩:=We ns b room hl f c d b.toNat n (rows:=[]) (made:=[]) (kds:=[]) (sn:=.dct [] []) .no (by simp;lia) (by simpa using g) (by lia) ⟨[],[],rfl,rfl,Qw,Dx _⟩ ⟨.nil,λa=>by simp[Nm],by simp⟩;refine⟨rows,kds,n',R.bl,i,h,by lia,?_⟩;have e:=N6 e;simp only[MY,By]at e;unfold TW;rw[b6,P9.eq_1];simp[bV,e]
def dR{f g:VF}{δ δ1 δ2:Ev}{i j:Int}(h1:f δ=b0 (.int i,δ1))(h2:g δ1=b0 (.int j,δ2))(a:(-4611686018427387904<=i/\i<4611686018427387904)/\ -4611686018427387904<=j/\j<4611686018427387904):iR2 f g δ=b0 (X8 i (j-i).toNat,δ2):=by unfold iR2;rw[h1,Ai,h2,Ai];exact if_pos a
theorem MF(a:Nat)(tb:VB)(p:cM->Bool)(fe:VF)(f:cM->cM)(δ:Ev)(b:δ.length=a):∀(ds acc:List cM),(∀d∈ds,tb (δ++[Sl.va d])=b0 (p d,δ++[Sl.va d])/\(p d=b5->fe (δ++[Sl.va d])=b0 (f d,δ++[Sl.va d])))->acc.length+ds.length<16777216->ZK a 1 (gN a) tb fe ds acc δ=b0 (acc++(ds.filter p).map f,δ)
 |[],acc,_,_=>by simp
 | d :: ds,acc,h,hl => by
  have j:(δ++[Sl.no]).set a (.va d)=δ++[Sl.va d]:=by rw[Ew _ _ (by lia)];simp[b]
  have k:(δ++[Sl.va d]).take a=δ:=by rw[Db (by lia),Bx (by lia)]
  have l:acc.length<16777216:=by simp at hl;lia
  obtain⟨h1,h2⟩:=h d Aw;cases c:p d with
  |true=>
   have g:=MF a tb p fe f δ b ds (acc++[f d]) (λe i=>h e (Ap _ i)) (by simp at hl⊢;lia);have h2:=h2 c;rw[c]at h1;simp only[Q7,AX,P1,j,JM,h1,BD,h2,BE,if_pos l,k,g];simp[c]
  |false=>
   have g:=MF a tb p fe f δ b ds acc (λe i=>h e (Ap _ i)) (by simp at hl⊢;lia);rw[c]at h1;simp only[Q7,AX,P1,j,JM,h1,Uw,k,g];simp[c]
def ZZ.ints{M:Int->Prop}{row:cM}(h:ZZ M row):∃(x:String) (a:Int) (as:List Int),row=.tup (.str x:: .int a::as.map .int)/\(x= "over" ->∃b,as=[b]/\M b):=by
 cases h with
 | @number n _ _=>exact⟨"number",n,[],rfl,λz=>absurd z (by decide)⟩
 | @two x a b e f d=>exact⟨x,a,[b],rfl,λ_=>⟨b,rfl,d⟩⟩
 | @pick c a b _ _ _=>exact⟨"pick",c,[a,b],rfl,λz=>absurd z (by decide)⟩
 | @load p _ _=>exact⟨"load",p,[],rfl,λz=>absurd z (by decide)⟩
 | @take p c a _ _ _ _=>exact⟨"take",p,[c,a],rfl,λz=>absurd z (by decide)⟩
 | @store p a _ _ _=>exact⟨"store",p,[a],rfl,λz=>absurd z (by decide)⟩
 | @put p a c _ _ _ _=>exact⟨"put",p,[a,c],rfl,λz=>absurd z (by decide)⟩
theorem SD{k:Nat}:∀as:List Int,∀d∈as.map cM.int,QT k d
 |[],d,h=>nomatch h
 |a::as,d,h=>by
  rcases Aj.mp h with rfl|h
  ·exact ZT
  ·exact SD as d h
def BN{M:Int->Prop}{row:cM}(h:ZZ M row):QT 1 row:=by obtain⟨x,a,as,rfl,_⟩:=h.ints;exact RG (Z3 YD (Z3 ZT (SD as)))
def Xl{sure:Int}{rows:List cM}{kds:List Kd}(t:Bl [] rows kds){i:Int}(D:0<=i)(h1:i<rows.length):∃b,WU [.tup [.int sure,.tup rows],.int i]=b0 (.bl b,[]):=by
 have N:kds.length=rows.length:=by simpa using t.len
 obtain⟨row,I,u⟩:∃row∈rows,VC rows i=b0 row:=by
  have hi:i.toNat<rows.length:=by lia
  exact⟨rows[i.toNat],Gz hi,by rw[WV D h1];simp[hi]⟩
 have ok:=t.all row I;obtain⟨x,a,as,rfl,o⟩:=ok.ints;unfold WU;rw[b6];unfold NS;by_cases v:onC x
 ·have m1:=cel4 v
  exact⟨_,by simp[bV,u,m1];rfl⟩
 ·obtain⟨⟨_,B⟩,⟨_,A⟩,⟨_,z⟩,_,y⟩:=off4 v
  by_cases p:x= "over"
  ·obtain⟨b,rfl,c⟩:=o p
   subst p;have K:=c.1;have M:=c.lt;obtain⟨E,n,G⟩:∃row∈rows,VC rows b=b0 row:=by
    have hi:b.toNat<rows.length:=by lia
    exact⟨rows[b.toNat],Gz hi,by rw[WV K (by lia)];simp[hi]⟩
   obtain⟨l,m,h,rfl,_⟩:=(t.all E n).ints;have H:T2 (.str l:: .int m::h.map cM.int) b3 (b0 2)=[.str l,.int m]:=by
    have:=ON (ds:=.str l:: .int m::h.map cM.int) (k:=2)
    simpa using this
   have F:∀δ,iR2 (fC (.int 1)) (fC (.int 1000)) δ=b0 (X8 1 ((1000:Int)-1).toNat,δ):=λδ=>dR (f:=fC (.int 1)) (g:=fC (.int 1000)) (δ:=δ) (δ1:=δ) (δ2:=δ) (i:=1) (j:=1000) rfl rfl (by lia);have w:=RY 0 (aJ (cG (fC (.str "number")) (cG (fV 0) bS))) [] (λd=>.tup [.str "number",d]) rfl (X8 1 ((1000:Int)-1).toNat) [] (λd _=>by simp) (by simp[X8]);have r:∀neg,∃b,ZS neg (.tup [.str l,.int m]) (.lst ((X8 1 ((1000:Int)-1).toNat).map λd=>.tup [.str "number",d]))=b0 (.bl b):=λneg=>⟨_,HH (j:=1) (k:=1) (RG (Z3 YD (Z3 ZT YE))) (λe C=>by
    obtain⟨d,hd,rfl⟩:=Cs.mp C;obtain⟨q,rfl⟩:∃q,d=.int q:=by unfold X8 at hd;obtain⟨q,_,rfl⟩:=Cs.mp hd;exact⟨_,rfl⟩
    exact RG (Z3 YD (Z3 ZT YE)))⟩
   obtain⟨J,s⟩:=r b5;simp only[Dc]at w;generalize (X8 1 ((1000:Int)-1).toNat).map (λd=>cM.tup [.str "number",d])=big at*;generalize X8 1 ((1000:Int)-1).toNat=L at*;exact⟨J,by simp -implicitDefEqProofs [bV,u,G,H,Z7,F,w,s]⟩
  ·exact⟨ba,by simp[bV,u,B,A,z,y,p]⟩
def ZI(p:Int×Int):cM:=.tup [.int p.1,.int p.2]
noncomputable def KM:cM:=.tup [.str "load",.str "take",.str "store",.str "put"]
def NZ(a:cM)(ps:List (Int×Int))(j:Int)(there:Sl)(e d c b:Sl):Ev:=
 [.va a,.ow (.lst (ps.map ZI)),.va KM,.va (.int j),there,e,d,c,b]
def mm{bs:List Bool}:ZS ba (.bl b5) (.lst (bs.map .bl))=b0 (.bl (bs.any id)):=by
 rw[HH (j:=0) (k:=0) Vg (λe c=>by obtain⟨b,_,rfl⟩:=Cs.mp c;exact Vg)]
 induction bs with
 |nil=>rfl
 |cons b bs a=>
  have e:eqD (.bl b) (.bl b5)=b:=by cases b<;>rfl
  simp only[Ba,Tv,Iz,id,e];simp only[Du,if_false,Ki,cM.bl.injEq]at a⊢;rw[a]
theorem AM{i:Int}:∀{as:List Int},i∈as->JB (.int i) (as.map .int)=b5
 |q::as,h=>by
  simp only[Ba,Tv];rcases Aj.mp h with rfl|h
  ·simp
  ·simp[AM h]
noncomputable def wrT:cM->Bool
 |.tup (.str x::_)=>decide (Bk "store"=x) || decide (Bk "put"=x)
 |_=>ba
def LY{s1 a:VS}{δ δ1:Ev}{r:Option Ou}(h1:s1 δ=b0 (.nx δ1))(h2:a δ1=r):b8 s1 a δ=r:=by rw[Xa,h1,qS_n,h2]
def j7{sure:Int}{rows:List cM}{kds:List Kd}(r:Bl [] rows kds)(ps:List (Int×Int)){i j:Int}{here there:cM}(V:0<=i)(U:i<rows.length)(S:0<=j)(R:j<rows.length)(hh:here∈rows)(W:there∈rows){as:List Int}(hn:ZQ [there]=b0 (.lst (as.map .int),[]))(L E:Sl)(hp:ps.length<1000000):∃(c:Bool) (K J:Sl),(i∈as->c=b5)/\V8 (NZ (.tup [.int sure,.tup rows]) ps j (.va there) (.va (.int i)) (.va here) L E)=b0 (.nx (NZ (.tup [.int sure,.tup rows]) (ps++if c then[(i,j)]else[]) j (.va there) (.va (.int i)) (.va here) K J)):=by
 obtain⟨f,I⟩:=Xl (sure:=sure) r V U;obtain⟨l,H⟩:=Xl (sure:=sure) r S R;have q:=r.all here hh;have p:=r.all there W;have Q:=BN q;have P:=BN p;obtain⟨x,a,xs,G,_⟩:=q.ints;obtain⟨y,b,ys,F,_⟩:=p.ints;have B:ZS ba (.int i) (.lst (as.map .int))=b0 (.bl (JB (.int i) (as.map .int))):=by rw[HH (j:=0) (k:=0) ZT (SD as)];simp
 have T:=AM (i:=i) (as:=as);generalize JB (.int i) (as.map .int)=bi at*;have D:∃w:List cM,ZK 0 1 (gN 0) (fB (f2 (ZS ba) (f2 bX (fV 0) (fC (.int 0))) (aJ (cG (fC (.str "store")) (cG (fC (.str "put")) bS))))) (fV 0) [here,there] [] []=b0 (w,[])/\∀d∈w,QT 1 d:=by
  have c:=MF 0 (fB (f2 (ZS ba) (f2 bX (fV 0) (fC (.int 0))) (aJ (cG (fC (.str "store")) (cG (fC (.str "put")) bS))))) wrT (fV 0) id [] rfl [here,there] [] (λd hd=>by
   simp only[Aj,Az,or_false]at hd;rcases hd with rfl|rfl
   ·rw[G];simp[wrT,ZL]
   ·rw[F];simp[wrT,ZL]) (by simp)
  refine⟨_,c,λd hd=>?_⟩;simp only[Dc,List.map_id_fun,id,Hh,Aj,Az,or_false]at hd;rcases hd.1 with rfl|rfl
  ·exact Q
  ·exact P
 obtain⟨w,D,O⟩:=D;have A:QW (.lst w) (.lst [])=b0 (.bl (!eqD (.lst w) (.lst []))):=JI (j:=2) (k:=0+1) (XY O) (XY YE);generalize (!eqD (.lst w) (.lst []))=m at*;have z:ps.length<16777216:=by lia
 have u:∃h,ZS ba (.str x) KM=b0 (.bl h):=⟨_,Ui⟩;have s:∃e,ZS ba (.str y) KM=b0 (.bl e):=⟨_,Ui⟩;have v:∃h,ZS ba (.str x) (.tup [.str "store",.str "put"])=b0 (.bl h):=⟨_,AN⟩;have t:∃e,ZS ba (.str y) (.tup [.str "store",.str "put"])=b0 (.bl e):=⟨_,AN⟩;obtain⟨h,u⟩:=u;obtain⟨e,s⟩:=s;obtain⟨o,v⟩:=v;obtain⟨n,t⟩:=t;subst G F;have g:=mm (bs:=[bi,f&&l,h&&(e&&(decide (a=b)&&m)),f&&n,l&&o]);simp only[Ba,By]at g;refine⟨[bi,f&&l,h&&(e&&(decide (a=b)&&m)),f&&n,l&&o].any id,.va (.lst w),.ow (.lst [.bl bi,.bl (f&&l),.bl (h&&(e&&(decide (a=b)&&m))),.bl (f&&n),.bl (l&&o)]),?_,?_⟩
 ·intro hi
  rw[T hi];rfl
 ·unfold V8
  refine LY (δ1:=NZ (.tup [.int sure,.tup rows]) ps j (.va (.tup (.str y:: .int b::ys.map .int))) (.va (.int i)) (.va (.tup (.str x:: .int a::xs.map .int))) (.va (.lst w)) E) (by simp[NZ,Z7,D]) ?_;refine LY (δ1:=NZ (.tup [.int sure,.tup rows]) ps j (.va (.tup (.str y:: .int b::ys.map .int))) (.va (.int i)) (.va (.tup (.str x:: .int a::xs.map .int))) (.va (.lst w)) (.ow (.lst [.bl bi,.bl (f&&l)]))) ?_ ?_
  ·clear g
   cases f<;>simp[NZ,hn,B,I,H]
  refine LY (δ1:=NZ (.tup [.int sure,.tup rows]) ps j (.va (.tup (.str y:: .int b::ys.map .int))) (.va (.int i)) (.va (.tup (.str x:: .int a::xs.map .int))) (.va (.lst w)) (.ow (.lst [.bl bi,.bl (f&&l),.bl (h&&(e&&(decide (a=b)&&m)))]))) ?_ ?_
  ·clear g
   cases h<;>cases e<;>by_cases C:a=b<;>simp[NZ,u,s,A,C]
  refine LY (δ1:=NZ (.tup [.int sure,.tup rows]) ps j (.va (.tup (.str y:: .int b::ys.map .int))) (.va (.int i)) (.va (.tup (.str x:: .int a::xs.map .int))) (.va (.lst w)) (.ow (.lst [.bl bi,.bl (f&&l),.bl (h&&(e&&(decide (a=b)&&m))),.bl (f&&n)]))) ?_ ?_
  ·clear g
   generalize (h&&(e&&(decide (a=b)&&m)))=q3;cases f<;>simp[-AN,NZ,I,t]
  refine LY (δ1:=NZ (.tup [.int sure,.tup rows]) ps j (.va (.tup (.str y:: .int b::ys.map .int))) (.va (.int i)) (.va (.tup (.str x:: .int a::xs.map .int))) (.va (.lst w)) (.ow (.lst [.bl bi,.bl (f&&l),.bl (h&&(e&&(decide (a=b)&&m))),.bl (f&&n),.bl (l&&o)]))) ?_ ?_
  ·clear g
   generalize (h&&(e&&(decide (a=b)&&m)))=q3;cases l<;>simp[-AN,NZ,H,v]
  generalize (h&&(e&&(decide (a=b)&&m)))=q3 at*;generalize Z:(f&&l)=q1 at*;generalize Y:(f&&n)=N at*;generalize X:(l&&o)=M at*;generalize hc:[bi,q1,q3,N,M].any id=c at*;cases c
  ·simp[NZ,g]
  ·simp[NZ,g,z,ZI]
def V0(i:Nat)(d:cM)(ds:List cM):Y6 i (d::ds)=.tup [.int i,d]::Y6 (i+1) ds:=rfl
abbrev GP(a b:Nat):VG:=OC 2 (bG (gN a) (bG (gN b) Y4))
theorem Vt{sure:Int}{rows:List cM}{kds:List Kd}(v:Bl [] rows kds){j:Int}{there:cM}(r:0<=j)(q:j<rows.length)(s:there∈rows){as:List Int}(t:ZQ [there]=b0 (.lst (as.map .int),[])):∀(a:List cM) (k:Nat) (ps:List (Int×Int)) (l g f b:Sl),(∀d∈a,d∈rows)->k+a.length<=rows.length->ps.length+a.length<1000000->∃(qs:List (Int×Int)) (D C n m:Sl),(∀p∈qs,p.2=j/\(k:Int)<=p.1/\p.1<k+a.length)/\(∀i∈as,(k:Int)<=i->i<k+a.length->(i,j)∈qs)/\qs.length<=a.length∧Y3 (GP 5 6) V8 (Y6 k a) (NZ (.tup [.int sure,.tup rows]) ps j (.va there) l g f b)=b0 (.nx (NZ (.tup [.int sure,.tup rows]) (ps++qs) j (.va there) D C n m))
 |[],k,ps,l,g,f,b,_,_,_=>⟨[],l,g,f,b,by simp,λi _ h1 h2=>by simp at h2;lia,by simp,by simp[Y6]⟩
 | h :: a,k,ps,l,g,f,b,u,hk,o => by
  simp only[Bg]at hk o;obtain⟨c,n,m,G,e⟩:=j7 (sure:=sure) v ps (i:=(k:Int)) (j:=j) (here:=h) (there:=there) (by lia) (by lia) r q (u h Aw) s t f b (by lia);obtain⟨qs,B,A,y,x,q1,q2,q3,E⟩:=Vt v r q s t a (k+1) (ps++if c then[((k:Int),j)]else[]) (.va (.int k)) (.va h) n m (λd hd=>u d (Ap _ hd)) (by lia) (by cases c<;>simp<;>lia);refine⟨(if c then[((k:Int),j)]else[])++qs,B,A,y,x,?_,?_,?_,?_⟩
  ·intro p o
   simp only[Bg];rcases Bo.mp o with z|z
   ·cases c
    ·simp at z
    ·simp at z;subst z;exact⟨rfl,by simp,by simp;lia⟩
   ·obtain⟨w,I,H⟩:=q1 p z
    exact⟨w,by lia,by lia⟩
  ·intro i hi h1 h2
   simp only[Bg]at h2;by_cases F:i=k
   ·subst F
    rw[G hi];simp
   ·exact Bo.mpr (.inr (q2 i hi (by lia) (by lia)))
  ·cases c<;>simp<;>lia
  ·rw[V0,YT]
   have s1:GP 5 6 (.tup [.int k,h]) (NZ (.tup [.int sure,.tup rows]) ps j (.va there) l g f b)=b0 (NZ (.tup [.int sure,.tup rows]) ps j (.va there) (.va (.int k)) (.va h) f b):=by simp[NZ]
   rw[s1,W9,e,VR,E,Ar]
structure Prs(rows:List cM)(ps:List (Int×Int)):Prop where
 lt:∀p∈ps,0<=p.1/\p.1<p.2/\p.2<rows.length
 nm:∀(j:Nat) (row:cM) (as:List Int),rows[j]?=b0 row->ZQ [row]=b0 (.lst (as.map .int),[])->∀i∈as,0<=i->i<j->(i,(j:Int))∈ps
def iW{as bs:List Int}(h:as.map cM.int=bs.map cM.int):as=bs:=by
 induction as generalizing bs with
 |nil=>cases bs with
  |nil=>rfl
  |cons=>simp at h
 | cons a as c => cases bs with
  |nil=>simp at h
  |cons b bs=>
   simp only[Ba,Jr,cM.int.injEq]at h;rw[h.1,c h.2]
theorem Wz{sure:Int}{rows:List cM}{kds:List Kd}(y:Bl [] rows kds)(A:rows.length<=40):∀(g:List cM) (k:Nat) (ps:List (Int×Int)) (B:Int) (n f c b a:Sl) (m:Sl),rows.drop k=g->k+g.length=rows.length->ps.length+40*g.length<10000->∃(qs:List (Int×Int)) (N M u s r q:Sl),(∀p∈qs,0<=p.1/\p.1<p.2/\p.2<rows.length)/\(∀(j:Nat) (row:cM) (as:List Int),k<=j->rows[j]?=b0 row->ZQ [row]=b0 (.lst (as.map .int),[])->∀i∈as,0<=i->i<j->(i,(j:Int))∈qs)/\qs.length<=40*g.length∧Y3 (GP 3 4) V9 (Y6 k g) [.va (.tup [.int sure,.tup rows]),.ow (.lst (ps.map ZI)),.va KM,m,n,f,c,b,a]=b0 (.nx [.va (.tup [.int sure,.tup rows]),.ow (.lst ((ps++qs).map ZI)),.va KM,N,M,u,s,r,q])
 |[],k,ps,B,n,f,c,b,a,m,h1,h2,_=>by
  refine⟨[],m,n,f,c,b,a,by simp,λj row as Z U=>?_,by simp,by simp[Y6]⟩;have:=(Af.mp U).1
  simp at h2;lia
 | t :: g,k,ps,B,n,f,c,b,a,m,h1,h2,w => by
  simp only[Bg]at h2 w;have C:t∈rows:=List.mem_of_mem_drop (by rw[h1];exact Aw);have hk:rows[k]?=b0 t:=by
   have:(rows.drop k)[0]?=b0 t:=by rw[h1];rfl
   simpa using this
  obtain⟨as,_,_,D,_⟩:=CY (y.all t C);have E:(rows.take k).length=k:=by rw[Ct];lia
  obtain⟨h,u,s,r,q,q1,q2,q3,e⟩:=Vt (sure:=sure) y (j:=(k:Int)) (by lia) (by lia) C D (rows.take k) 0 ps f c b a (λd hd=>List.mem_of_mem_take hd) (by lia) (by lia);obtain⟨v,L,K,J,I,H,G,Q,P,X,R⟩:=Wz y A g (k+1) (ps++h) 0 (.va t) u s r q (.va (.int k)) (by rw[<-Qv,h1];rfl) (by lia) (by simp;lia);refine⟨h++v,L,K,J,I,H,G,?_,?_,?_,?_⟩
  ·intro p w
   rcases Bo.mp w with z|z
   ·obtain⟨W,V,F⟩:=q1 p z
    rw[E]at F;exact⟨by lia,by lia,by lia⟩
   ·exact Q p z
  ·intro j row bs Y o l i hi T S
   by_cases x:j=k
   ·subst x
    rw[hk]at o;injection o with o;subst o;rw[D]at l;have:as=bs:=iW (by simpa using l)
    subst this;exact Bo.mpr (.inl (q2 i hi (by lia) (by rw[E];lia)))
   ·exact Bo.mpr (.inr (P j row bs (by lia) o l i hi T S))
  ·simp only[Ay,Bg];lia
  ·rw[V0,YT]
   have s1:GP 3 4 (.tup [.int k,t]) [.va (.tup [.int sure,.tup rows]),.ow (.lst (ps.map ZI)),.va KM,m,n,f,c,b,a]=b0 (NZ (.tup [.int sure,.tup rows]) ps k (.va t) f c b a):=by simp[NZ]
   have O:V9 (NZ (.tup [.int sure,.tup rows]) ps k (.va t) f c b a)=b0 (.nx (NZ (.tup [.int sure,.tup rows]) (ps++h) k (.va t) u s r q)):=by
    unfold V9;have hc:=ON (ds:=rows) (k:=k);rw[lH];have:OQ (AF (f2 bX (fV 0) (fC (.int 1))) pNo (A3 (fV 3))) (NZ (.tup [.int sure,.tup rows]) ps k (.va t) f c b a)=b0 (Y6 0 (rows.take k),NZ (.tup [.int sure,.tup rows]) ps k (.va t) f c b a):=by simp[NZ,hc]
    rw[this,qF_s];exact e
   rw[s1,W9,O,VR];simp only[NZ];rw[R,Ar]
theorem A8:∀ps:List (Int×Int),LL (ps.map ZI)=b0 ps
 |[]=>rfl
 |p::ps=>by show(prD (ZI p)).bind (λq=>(LL (ps.map ZI)).map λqs=>q::qs)=_;rw[A8 ps];rfl
def lI(ps:List (Int×Int)):∃qs:List (Int×Int),qs.Perm ps/\C5 (.lst (ps.map ZI))=b0 (.lst (qs.map ZI)):=by
 refine⟨(FY ps).map λi=>ps.getD i (0,0),?_,?_⟩
 ·have h := (RP ps).map λi => ps.getD i (0,0)
  refine h.trans ?_
  have:(Bm ps.length).map (λi=>ps.getD i (0,0))=ps:=by refine List.ext_getElem (by simp) λi h1 h2=>?_;simp at h1;simp[h1]
  rw[this]
 ·show (LL (ps.map ZI)).bind (λqs => b0 (cM.lst ((FY qs).map λi => (ps.map ZI).getD i cM.non))) = _
  rw[A8,Ai,Rt];congr 2;refine Jn λi hi=>?_;have:i<ps.length:=Dq.mp ((RP ps).mem_iff.mp hi)
  simp[this]
def jo{sure:Int}{rows:List cM}{kds:List Kd}(f:Bl [] rows kds)(b:rows.length<=40):∃ps:List (Int×Int),Prs rows ps/\ps.length<=1600/\TU [.tup [.int sure,.tup rows]]=b0 (.lst (ps.map ZI),[]):=by obtain⟨qs,o,n,m,l,k,g,q1,q2,q3,e⟩:=Wz (sure:=sure) f b rows 0 [] 0 .no .no .no .no .no .no (by simp) (by simp) (by simp;lia);simp only[By,Dc,KM]at e;obtain⟨ps,a,es⟩:=lI qs;refine⟨ps,⟨λp h=>q1 p (a.mem_iff.mp h),λj row as h1 h2 i hi d c=>a.mem_iff.mpr (q2 j row as (by lia) h1 h2 i hi d c)⟩,by rw[a.length_eq];lia,?_⟩;unfold TU;rw[b6,P7.eq_1];simp[bV,e,es]
theorem OM(c:Nat)(tb:VB)(p:cM->Bool)(fe:VF)(f:cM->cM)(δ:Ev)(g:δ.length=c):∀(ds acc:List cM),(∀d∈ds,∃a b,d=.tup [a,b]/\tb (δ++[Sl.va a,Sl.va b])=b0 (p d,δ++[Sl.va a,Sl.va b])/\(p d=b5->fe (δ++[Sl.va a,Sl.va b])=b0 (f d,δ++[Sl.va a,Sl.va b])))->acc.length+ds.length<16777216->ZK c 2 (GP c (c+1)) tb fe ds acc δ=b0 (acc++(ds.filter p).map f,δ)
 |[],acc,_,_=>by simp
 | d :: ds,acc,h,hl => by
  obtain⟨a,b,rfl,h1,h2⟩:=h d Aw;have l:GP c (c+1) (.tup [a,b]) (δ++[Sl.no,Sl.no])=b0 (δ++[Sl.va a,Sl.va b]):=by
   have o:(δ++[Sl.no,Sl.no]).set c (.va a)=δ++[Sl.va a,Sl.no]:=by rw[Ew _ _ (by lia)];simp[g]
   have n:(δ++[Sl.va a,Sl.no]).set (c+1) (.va b)=δ++[Sl.va a,Sl.va b]:=by rw[Ew _ _ (by lia),g,show c+1-c=1 by lia];rfl
   simp[o,n]
  have m:(δ++[Sl.va a,Sl.va b]).take c=δ:=by rw[Db (by lia),Bx (by lia)]
  have q:acc.length<16777216:=by simp at hl;lia
  cases i:p (.tup [a,b])with
  |true=>
   have j:=OM c tb p fe f δ g ds (acc++[f (.tup [a,b])]) (λe k=>h e (Ap _ k)) (by simp at hl⊢;lia);have h2:=h2 i;rw[i]at h1;simp only[Q7,Xp,l,JM,h1,BD,h2,BE,if_pos q,m,j];simp[i]
  |false=>
   have j:=OM c tb p fe f δ g ds acc (λe k=>h e (Ap _ k)) (by simp at hl⊢;lia);rw[i]at h1;simp only[Q7,Xp,l,JM,h1,Uw,m,j];simp[i]
noncomputable def ost(ns:List Int)(n:Nat)(a:cM)(ps:List (Int×Int))(left made:List Int)(b:Sl):Ev:=
 [.va (WK ns),.ow (X3 n),.va a,.va (.lst (ps.map ZI)),.ow (.lst (left.map .int)),.ow (.lst (made.map .int)),b]
noncomputable def pw(left:List Int)(r:Int):cM->Bool
 |.tup [.int a,.int b]=>decide (b=r)&&JB (.int a) (left.map .int)
 |_=>ba
theorem HE{i:Int}:∀{as:List Int},JB (.int i) (as.map .int)=b5↔i∈as
 |[]=>by simp
 |a::as=>by rw[Ba,Tv,Hn,Zd,decide_eq_true_eq,HE (as:=as),Aj];exact⟨λh=>h.imp Eq.symm id,λh=>h.imp Eq.symm id⟩
def lr(ps:List (Int×Int))(left:List Int)(r:Int)(g:ps.length<16777216):ZK 2 2 (GP 2 3) (UF (fB (f2 X7 (fV 3) (fV 1))) (fB (f2 (ZS ba) (fV 2) (fO 0)))) (fC (.int 1)) (ps.map ZI) [] [.ow (.lst (left.map .int)),.va (.int r)]=b0 (((ps.map ZI).filter (pw left r)).map λ_=>.int 1,[.ow (.lst (left.map .int)),.va (.int r)]):=by
 have e:∀a:Int,ZS ba (.int a) (.lst (left.map .int))=b0 (.bl (JB (.int a) (left.map .int))):=λa=>by rw[HH (j:=0) (k:=0) ZT (SD left)];simp
 have:=OM 2 (UF (fB (f2 X7 (fV 3) (fV 1))) (fB (f2 (ZS ba) (fV 2) (fO 0)))) (pw left r) (fC (.int 1)) (λ_=>.int 1) [.ow (.lst (left.map .int)),.va (.int r)] rfl (ps.map ZI) [] (λd hd=>by
  obtain⟨⟨a,b⟩,_,rfl⟩:=Cs.mp hd;refine⟨.int a,.int b,rfl,?_,λ_=>by simp⟩;have hi:=e a;have c:pw left r (ZI (a,b))=(decide (b=r)&&JB (.int a) (left.map .int)):=rfl;rw[c];generalize left.map cM.int=L at*;by_cases f:b=r
  ·simp[f,hi]
  ·simp[f]) (by simpa using g)
 simpa using this
def CP{ds:List cM}:eqD (.lst ds) (.lst [])=ds.isEmpty:=by cases ds<;>rfl
def rdD(ps:List (Int×Int))(left:List Int):cM->Bool
 |.int r=>((ps.map ZI).filter (pw left r)).isEmpty
 |_=>ba
theorem LK{x:Int}:∀{ns:List Int},x∈ns->∃j,T8 x ns=b0 j/\ns.eraseIdx j=ns.erase x
 | i :: ns,h => by
  unfold T8;by_cases e:i=x
  ·rw[if_pos e];exact⟨0,rfl,by simp[e]⟩
  ·rw[if_neg e]
   obtain⟨j,h1,h2⟩:=LK (ns:=ns) (by
    rcases Aj.mp h with z|z
    ·exact absurd z.symm e
    ·exact z)
   refine⟨j+1,by rw[h1];rfl,?_⟩;rw[List.eraseIdx_cons_succ,h2,List.erase_cons_tail (by simpa using e)]
def kJ{x:Int}{ns:List Int}(h:x∈ns):mRem (ns.map .int) [.int x]=b0 ((ns.erase x).map .int):=by obtain⟨j,h1,h2⟩:=LK h;show(W8 (ns.map .int)).bind (λns=>(T8 x ns).map λj=>(ns.eraseIdx j).map cM.int)=_;rw[NU,Ai,h1,Qo,h2]
def BJ{ps:List (Int×Int)}{left:List Int}{r:Int}:rdD ps left (.int r)=b5↔ ∀p∈ps,p.2=r->p.1∉left:=by
 show((ps.map ZI).filter (pw left r)).isEmpty=b5↔_;rw[Pf,List.filter_eq_nil_iff];constructor
 ·intro h p a b hl
  have:=h (ZI p) (Cs.mpr ⟨p,a,rfl⟩)
  refine this ?_;show(decide (p.2=r)&&JB (.int p.1) (left.map .int))=b5;rw[HE.mpr hl,b];simp
 ·intro h d hd z
  obtain⟨p,a,rfl⟩:=Cs.mp hd;have z:(decide (p.2=r)&&JB (.int p.1) (left.map .int))=b5:=z;rw[Ag,decide_eq_true_eq,HE]at z;exact h p a z.1 z.2
def lv(ps:List (Int×Int))(left:List Int)(c:ps.length<16777216)(a:left.length<16777216):ZK 2 1 (gN 2) (fB (f2 X7 (ZG [1,2] 2 (WB (fV 0)) (OC 2 (bG (gN 2) (bG (gN 3) Y4))) (UF (fB (f2 X7 (fV 3) (fV 1))) (fB (f2 (ZS ba) (fV 2) (fO 0)))) (fC (.int 1))) (ZA bS))) (fV 2) (left.map .int) [] [.va (.lst (ps.map ZI)),.ow (.lst (left.map .int))]=b0 ((left.filter λr=>rdD ps left (.int r)).map .int,[.va (.lst (ps.map ZI)),.ow (.lst (left.map .int))]):=by
 have:=MF 2 (fB (f2 X7 (ZG [1,2] 2 (WB (fV 0)) (OC 2 (bG (gN 2) (bG (gN 3) Y4))) (UF (fB (f2 X7 (fV 3) (fV 1))) (fB (f2 (ZS ba) (fV 2) (fO 0)))) (fC (.int 1))) (ZA bS))) (rdD ps left) (fV 2) id [.va (.lst (ps.map ZI)),.ow (.lst (left.map .int))] rfl (left.map .int) [] (λd hd=>by
  obtain⟨r,_,rfl⟩:=Cs.mp hd;refine⟨?_,λ_=>by simp⟩;have w:=lr ps left r c;have b:X7 (.lst (((ps.map ZI).filter (pw left r)).map λ_=>cM.int 1)) (.lst [])=b0 (.bl (rdD ps left (.int r))):=by
   rw[Te (j:=1) (k:=1) (XY λd hd=>by obtain⟨_,_,rfl⟩:=Cs.mp hd;exact ZT) (XY YE),CP,List.isEmpty_map]
   rfl
  generalize ((ps.map ZI).filter (pw left r)).map (λ_=>cM.int 1)=W at*;generalize rdD ps left (.int r)=B at*;generalize left.map cM.int=L at*;generalize ps.map ZI=Q at*;simp[Z7,w,b]) (by simpa using a)
 rw[this,List.filter_map];simp[Function.comp_def]
def iJ(ns:List Int)(n:Nat)(c:cM)(ps:List (Int×Int))(left made:List Int)(k:Sl)(hl:ns.length<=63)(F:n<800000)(h:left≠[])(g:left.Pairwise (· < ·))(i:∀p∈ps,p.1<p.2)(y:left.length<1000)(v:made.length<1000)(s:ps.length<10000):∃x∈left,(∀p∈ps,p.2=x->p.1∉left)/\∃e,Y9 (ost ns n c ps left made k)=b0 (.nx (ost ns (n+1) c ps (left.erase x) (made++[x]) e)):=by
 have q:=lv ps left (by lia) (by lia);have B:0<((left.filter λr=>rdD ps left (.int r)).map cM.int).length:=by
  match left,h,g with
  |a::t,_,g=>
   have:a∈((a::t).filter λr=>rdD ps (a::t) (.int r)):=by
    refine Hh.mpr ⟨Aw,BJ.mpr λp u A hi=>?_⟩;have h1:=i p u;rw[A]at h1;rcases Aj.mp hi with z|z
    ·lia
    ·have:=(List.pairwise_cons.mp g).1 _ z
     lia
   rw[Ce];exact List.length_pos_of_mem this
 obtain⟨d,hd,C⟩:=X0 ns n ((left.filter λr=>rdD ps left (.int r)).map .int) hl (by lia) B;obtain⟨x,o,rfl⟩:=Cs.mp hd;obtain⟨b,f⟩:=Hh.mp o;have w:=kJ b;have j:=OH (made.map cM.int) (.int x);have l:made.length<16777216:=by lia
 refine⟨x,b,BJ.mp f,.va (.lst ((left.filter λr=>rdD ps left (.int r)).map .int)),?_⟩;unfold Y9;simp only[ost,Ft,Ba,By];generalize (left.filter λr=>rdD ps left (.int r)).map cM.int=R at*;generalize (left.erase x).map cM.int=E at*;generalize left.map cM.int=L at*;generalize ps.map ZI=Q at*;have m:(made.map cM.int).length<16777216:=by simpa using l
 generalize made.map cM.int=D at*;simp[Z7,q,C,w,j,m]
theorem A2(ns:List Int)(b:cM)(ps:List (Int×Int))(hl:ns.length<=63)(l:∀p∈ps,p.1<p.2)(h:ps.length<10000):∀(f n:Nat) (left made:List Int) (d:Sl),left.length=f->n+f<700000->left.Pairwise (· < ·)->made.length+left.length<1000->(∀p∈ps,p.1∈made∨p.1∈left)->(∀p∈ps,∀k:Nat,made[k]?=b0 p.2->p.1∈made.take k)->∃(order:List Int) (c:Sl),order.Perm (made++left)/\(∀p∈ps,∀k:Nat,order[k]?=b0 p.2->p.1∈order.take k)/\Z4 (fB (f2 QW (fO 4) (ZA bS))) Y9 (f+1) (ost ns n b ps left made d)=b0 (.nx (ost ns (n+f) b ps [] order c))
 |0,n,left,made,d,m,y,o,A,h1,h2=>by
  have:left=[]:=Fz.mp m
  subst this;refine⟨made,d,by simp,h2,PU ?_⟩;have e:QW (.lst []) (.lst [])=b0 (.bl ba):=by rw[JI (j:=1) (k:=1) (XY YE) (XY YE),CP];rfl
  simp[ost,e]
 | f + 1,n,left,made,d,m,y,o,A,h1,h2 => by
  have i:left≠[]:=λz=>by rw[z]at m;simp at m
  obtain⟨x,s,w,t,D⟩:=iJ ns n b ps left made d hl (by lia) i o l (by lia) (by lia) h;have B:=List.length_erase_of_mem s;obtain⟨order,c,v,u,C⟩:=A2 ns b ps hl l h f (n+1) (left.erase x) (made++[x]) t (by lia) (by lia) (o.sublist (List.erase_sublist)) (by simp;lia) (λp a=>by
   rcases h1 p a with z|z
   ·exact .inl (Bo.mpr (.inl z))
   ·by_cases g:p.1=x
    ·exact .inl (by simp[g])
    ·exact .inr ((List.mem_erase_of_ne g).mpr z)) (λp a k hk=>by
   by_cases r:k<made.length
   ·rw[Ae r]at hk
    rw[Db (by lia)];exact h2 p a k hk
   ·have E:=(Af.mp hk).1
    simp at E;have:k=made.length:=by lia
    subst this;simp at hk;have q:=w p a hk.symm;rw[Im];exact(h1 p a).resolve_right q)
  refine⟨order,c,?_,u,?_⟩
  ·refine v.trans ?_
   rw[Ar,Iq];exact(List.perm_cons_erase s).symm.append_left made
  ·have e:QW (.lst (left.map .int)) (.lst [])=b0 (.bl b5):=by
    rw[JI (j:=1) (k:=1) (XY (SD left)) (XY YE),CP];cases left with
    |nil=>exact absurd rfl i
    |cons=>rfl
   rw[PV (δ1:=ost ns n b ps left made d) (by simp[ost,e]) D,C,show n+1+f=n+(f+1) by lia]
def eF{f:VF}{δ δ1:Ev}{j:Int}(h:f δ=b0 (.int j,δ1))(a:0<=j)(h1:j<=16777216):RA f δ=b0 (.lst (X8 0 j.toNat),δ1):=by unfold RA;rw[h,Ai];exact if_pos ⟨a,h1⟩
def rgI(k:Nat):List Int:=(Bm k).map λi:Nat=>(i:Int)
def l5(k:Nat):X8 0 k=(rgI k).map .int:=by simp[X8,rgI]
def BM{k:Nat}{a:Int}:a∈rgI k↔0<=a/\a<k:=by
 unfold rgI;rw[Cs];constructor
 ·rintro ⟨i,hi,rfl⟩
  have:=Dq.mp hi
  lia
 ·rintro ⟨b,h1⟩
  exact⟨a.toNat,Dq.mpr (by lia),by lia⟩
def DH(k:Nat):(rgI k).Pairwise (· < ·):=Ks _ (λa b h=>by lia) (List.pairwise_lt_range)
def HP(k:Nat):(rgI k).length=k:=by simp[rgI]
def Yu(ns:List Int)(n:Nat){sure:Int}{rows:List cM}{kds:List Kd}(hl:ns.length<=63)(l:n<500000)(g:Bl [] rows kds)(b:rows.length<=40):∃(ps:List (Int×Int)) (order:List Int),Prs rows ps/\order.Perm (rgI rows.length)/\(∀p∈ps,∀k:Nat,order[k]?=b0 p.2->p.1∈order.take k)/\YO [WK ns,X3 n,.tup [.int sure,.tup rows]]=b0 (.lst (order.map .int),[X3 (n+rows.length)]):=by
 obtain⟨ps,P,f,em⟩:=jo (sure:=sure) g b;obtain⟨order,i,d,c,e⟩:=A2 ns (.tup [.int sure,.tup rows]) ps hl (λp a=>(P.lt p a).2.1) (by lia) rows.length n (rgI rows.length) [] .no (HP _) (by lia) (DH _) (by simp[HP];lia) (λp a=>.inr (BM.mpr ⟨(P.lt p a).1,by have:=P.lt p a;lia⟩)) (λp a k hk=>by simp at hk);refine⟨ps,order,P,by simpa using d,c,?_⟩;have e:=N6 e;simp only[ost,By]at e;have h:RA (f1 YU (f2 bX (fV 2) (fC (.int 1)))) [.va (WK ns),.ow (X3 n),.va (.tup [.int sure,.tup rows]),.no,.no,.no,.no]=b0 (.lst ((rgI rows.length).map .int),[.va (WK ns),.ow (X3 n),.va (.tup [.int sure,.tup rows]),.no,.no,.no,.no]):=by rw[<-l5,eF (j:=(rows.length:Int)) (δ1:=[.va (WK ns),.ow (X3 n),.va (.tup [.int sure,.tup rows]),.no,.no,.no,.no]) (by simp) (by lia) (by lia)];simp
 unfold YO;rw[b6,XH.eq_1];generalize (rgI rows.length).map cM.int=L at*;generalize order.map cM.int=O at*;generalize ps.map ZI=Q at*;simp[bV,em,h,e]
def ZZ.strong{M:Int->Prop}{row:cM}(h:ZZ M row):∃as:List Int,(∀a∈as,M a)/\ZZ (· ∈as) row/\ZQ [row]=b0 (.lst (as.map .int),[]):=by
 cases h with
 | @number n e h1=>exact⟨[],(λ_ h=>nomatch h),.number e h1,by kernel_rfl⟩
 | @two x a b f d g=>
  refine⟨[a,b],by simp[d,g],.two f (by simp) (by simp),?_⟩;simp only[Aj,Az,or_false]at f;rcases f with rfl|rfl|rfl|rfl|rfl|rfl|rfl<;>kernel_rfl
 | @pick c a b hc d g=>exact⟨[c,a,b],by simp[hc,d,g],.pick (by simp) (by simp) (by simp),by kernel_rfl⟩
 | @load p e h1=>exact⟨[],(λ_ h=>nomatch h),.load e h1,by kernel_rfl⟩
 | @take p c a e h1 hc d=>exact⟨[c,a],by simp[hc,d],.take e h1 (by simp) (by simp),by kernel_rfl⟩
 | @store p a e h1 d=>exact⟨[a],by simp[d],.store e h1 (by simp),by kernel_rfl⟩
 | @put p a c e h1 d hc=>exact⟨[a,c],by simp[d,hc],.put e h1 (by simp) (by simp),by kernel_rfl⟩
def DG{as:List Int}{row:cM}(h:ZZ (· ∈as) row){ks:List aS}{vs:List cM}(e:Int->Int)(hk:∀a∈as,bA ks vs (.inl a)=b0 (.int (e a))):∃j,aY [row,.dct ks vs]=b0 (j,[])/\ZZ (λb=>∃a∈as,b=e a) j/\JG .w j=JG .w row:=by
 cases h with
 | @number n f h1=>
  refine⟨_,?_,.number f h1,rfl⟩;unfold aY;rw[b6];unfold ZX;simp[bV]
 | @two x a b g d i=>
  have q:=(EI g (y:= "number") (by decide)).1;have o:=(EI g (y:= "load") (by decide)).2;have m:=(EI g (y:= "take") (by decide)).2;have l:=(EI g (y:= "store") (by decide)).2;have k:=(EI g (y:= "put") (by decide)).2;refine⟨.tup [.str x,.int (e a),.int (e b)],?_,.two g ⟨a,d,rfl⟩ ⟨b,i,rfl⟩,?_⟩
  ·unfold aY
   rw[b6];unfold ZX;simp[bV,q,o,m,l,k,Z7,hk a d,hk b i]
  ·simp only[Aj,Az,or_false]at g
   rcases g with rfl|rfl|rfl|rfl|rfl|rfl|rfl<;>rfl
 | @pick c a b hc d i=>
  refine⟨.tup [.str "pick",.int (e c),.int (e a),.int (e b)],?_,.pick ⟨c,hc,rfl⟩ ⟨a,d,rfl⟩ ⟨b,i,rfl⟩,rfl⟩;unfold aY;rw[b6];unfold ZX;simp[bV,Z7,hk a d,hk b i,hk c hc]
 | @load p f h1=>
  refine⟨.tup [.str "load",.int p],?_,.load f h1,rfl⟩;unfold aY;rw[b6];unfold ZX;simp[bV,Z7]
 | @take p c a f h1 hc d=>
  refine⟨.tup [.str "take",.int p,.int (e c),.int (e a)],?_,.take f h1 ⟨c,hc,rfl⟩ ⟨a,d,rfl⟩,rfl⟩;unfold aY;rw[b6];unfold ZX;simp[bV,Z7,hk a d,hk c hc]
 | @store p a f h1 d=>
  refine⟨.tup [.str "store",.int p,.int (e a)],?_,.store f h1 ⟨a,d,rfl⟩,rfl⟩;unfold aY;rw[b6];unfold ZX;simp[bV,Z7,hk a d]
 | @put p a c f h1 d hc=>
  refine⟨.tup [.str "put",.int p,.int (e a),.int (e c)],?_,.put f h1 ⟨a,d,rfl⟩ ⟨c,hc,rfl⟩,rfl⟩;unfold aY;rw[b6];unfold ZX;simp[bV,Z7,hk a d,hk c hc]
theorem Bl.at{kds d:List Kd}{rows:List cM}(h:Bl kds rows d):∀{j:Nat}{row:cM},rows[j]?=b0 row->ZZ (λa=>Nm d .w a/\a<kds.length+j) row/\d[kds.length+j]?=b0 (JG .w row)/\∀a,Nm kds .w a->Nm d .w a:=by
 have keep:∀{k k':List Kd}{rs:List cM},Bl k rs k'->∀(i:Nat) (x:Kd),k[i]?=b0 x->k'[i]?=b0 x:=by
  intro k k' rs h;induction h with
  |nil=>exact λ_ _ z=>z
  |cons _ _ e=>exact λi x z=>e i x (by rw[Ae (Af.mp z).1];exact z)
 induction h with
 |nil=>intro j row c;simp at c
 | @cons kds d r rows a t e=>
  intro j row c;cases j with
  |zero=>
   simp at c;subst c;refine⟨a.imp λx b=>⟨⟨b.1,keep t _ _ (b.snoc (j:=JG .w r)).2⟩,by have:=b.lt;lia⟩,keep t _ _ (by simp),λx b=>⟨b.1,keep t _ _ (b.snoc (j:=JG .w r)).2⟩⟩
  |succ j=>
   obtain⟨h1,h2,f⟩:=e (by simpa using c);rw[Ay,Bp]at h1 h2;refine⟨h1.imp λx b=>⟨b.1,by have:=b.2;lia⟩,by rw[show kds.length+(j+1)=kds.length+1+j by lia];exact h2,λx b=>f x b.snoc⟩
noncomputable def swD:cM->cM
 |.tup [a,b]=>.tup [b,a]
 |_=>.non
noncomputable def kvz:Nat->List Int->List (aS×cM)
 |_,[]=>[]
 |k,x::xs=>(.inl x,.int (k:Int))::kvz (k+1) xs
theorem ET:∀(xs:List Int) (k:Nat),OS ((Y6 k (xs.map .int)).map swD)=b0 (kvz k xs)
 |[],_=>rfl
 |x::xs,k=>by rw[Ba,V0,Ba];show(kprD (.tup [.int x,.int (k:Int)])).bind (λp=>(OS ((Y6 (k+1) (xs.map .int)).map swD)).map λps=>p::ps)=_;rw[ET xs (k+1)];rfl
theorem ML:∀(xs:List Int) (k:Nat),(kvz k xs).map Cg=xs.map .inl
 |[],_=>rfl
 |x::xs,k=>by rw[kvz,Ba,ML xs (k+1)];rfl
theorem AS:∀(xs:List Int) (k i:Nat),i<xs.length->((kvz k xs).map Dd)[i]?=b0 (.int ((k+i:Nat):Int))
 |[],_,i,h=>by simp at h
 |x::xs,k,0,_=>rfl
 |x::xs,k,i+1,h=>by
  have:=AS xs (k+1) i (by simpa using h)
  rw[kvz,Ba,La,this];congr 3;lia
def kL{order:List Int}(c:order.Nodup){a:Int}(d:a∈order):bA ((kvz 0 order).map Cg) ((kvz 0 order).map Dd) (.inl a)=b0 (.int (order.idxOf a:Int)):=by
 have hi:order.idxOf a<order.length:=Js d;rw[EY _ _ (order.idxOf a) (.inl a) ?_ (by simp) ?_,AS _ _ _ hi]
 ·simp
 ·rw[ML]
  exact Ks _ (λa b h e=>h (by injection e)) c
 ·rw[ML,De,Cm hi,Nv hi]
  rfl
def TQ(rows:List cM)(r:Int):cM:=(rows[r.toNat]?).getD .non
noncomputable def DF(rows:List cM)(names:cM):cM->cM
 |.int r=>match aY [TQ rows r,names]with
  |some (d,_)=>d
  |none=>.non
 |_=>.non
def BK{rows os:List cM}{names a:cM}{r:Int}(e:aY [TQ rows r,names]=b0 (a,os)):DF rows names (.int r)=a:=by simp only[DF,e]
def G2(order:List Int):cM:=.dct ((kvz 0 order).map Cg) ((kvz 0 order).map Dd)
def Vl{rows:List cM}{kds:List Kd}(o:Bl [] rows kds){ps:List (Int×Int)}(P:Prs rows ps){order:List Int}(s:order.Perm (rgI rows.length))(x:∀p∈ps,∀k:Nat,order[k]?=b0 p.2->p.1∈order.take k){c rest:List Int}{r:Int}(g:order=c++r::rest):∃j,aY [TQ rows r,G2 order]=b0 (j,[])/\VC rows r=b0 (TQ rows r)/\ZZ (Nm (c.map λa=>JG .w (TQ rows a)) .w) j/\JG .w j=JG .w (TQ rows r):=by
 have y:order.Nodup:=s.nodup_iff.mpr ((DH _).imp λh=>by lia);have z:r∈order:=by rw[g];simp
 have l:=BM.mp (s.mem_iff.mp z);have q:rows[r.toNat]?=b0 (TQ rows r):=by unfold TQ;rw[Cm (by lia)];rfl
 obtain⟨h1,h2,_⟩:=o.at q;obtain⟨as,v,E,D⟩:=h1.strong;have u:∀a∈as,a∈c:=λa d=>by
  have f:=v a d;have F:a<r:=by have:=f.2;simp at this;lia
  have A:=P.nm r.toNat _ as q D a d f.1.1 (by lia);have:=x _ A c.length (by rw[g];simp;lia)
  rw[g,Im]at this;exact this
 obtain⟨j,e,ok,mk⟩:=DG E (ks:=(kvz 0 order).map Cg) (vs:=(kvz 0 order).map Dd) (λa=>(order.idxOf a:Int)) (λa d=>kL y (by rw[g];exact Bo.mpr (.inl (u a d))));refine⟨j,e,by rw[WV l.1 (by lia)];exact q,ok.imp λb n=>?_,mk⟩;obtain⟨a,d,rfl⟩:=n;have i:=u a d;have hi:c.idxOf a<c.length:=Js i;have m:order.idxOf a=c.idxOf a:=by rw[g,List.idxOf_append,if_pos i]
 refine⟨by lia,?_⟩;rw[m,Ia,De,Cm hi,Nv hi];have f:=(v a d).1;have B:=f.lt;have G:kds.length=rows.length:=by simpa using o.len
 have C:rows[a.toNat]?=b0 (TQ rows a):=by unfold TQ;rw[Cm (by have:=f.1;lia)];rfl
 obtain⟨_,t,_⟩:=o.at C;simp only[Gj,Jx]at t;have:=f.2
 rw[t]at this;injection this with this;rw[Qo,this]
theorem Vc{rows:List cM}{kds:List Kd}(g:Bl [] rows kds){ps:List (Int×Int)}(P:Prs rows ps){order:List Int}(f:order.Perm (rgI rows.length))(d:∀p∈ps,∀k:Nat,order[k]?=b0 p.2->p.1∈order.take k):∀(rest b:List Int),order=b++rest->Bl (b.map λa=>JG .w (TQ rows a)) ((rest.map .int).map (DF rows (G2 order))) (order.map λa=>JG .w (TQ rows a))
 |[],b,c=>by rw[c,Cz];exact .nil
 |r::rest,b,c=>by obtain⟨j,e,_,ok,mk⟩:=Vl g P f d c;have i:=BK e;have h:=Vc g P f d rest (b++[r]) (by rw[c,Ar];rfl);rw[Ba,Ba,i];refine .cons ok ?_;rw[mk];simpa using h
def Yt(ns:List Int)(n:Nat)(c:Int)(hl:ns.length<=63)(Z:n<100000)(h0:0<=c)(Q:c<=40):∃(sure:Int) (rows:List cM) (kds:List Kd) (n':Nat),Bl [] rows kds/\(rows.length:Int)<=c/\0<=sure/\sure<=64/\n'<=n+1000/\WO [WK ns,X3 n,.int c]=b0 (.tup [.int sure,.tup rows],[X3 n']):=by
 obtain⟨x,t,ex⟩:=X0 ns n [.int 3,.int 6,.int 9,.int 64] hl (by lia) (by simp);obtain⟨room,rfl,I,H⟩:∃q:Int,x=.int q/\0<q/\q<=64:=by simp only[Aj,Az,or_false]at t;rcases t with rfl|rfl|rfl|rfl<;>exact⟨_,rfl,by lia,by lia⟩
 have E:=Y2 ns (n+1) (room+1) hl (by lia) (by lia);have Y:=TL ns (n+1) (b:=room+1) (by lia);have X:M7 ns (n+1) (room+1)<room+1:=Ez _ (by lia);obtain⟨y,s,v⟩:=X0 ns (n+2) [.int 0,.int room,.int room,.int (M7 ns (n+1) (room+1))] hl (by lia) (by simp);obtain⟨sure,rfl,o,s1⟩:∃q:Int,y=.int q/\0<=q/\q<=64:=by simp only[Aj,Az,or_false]at s;rcases s with rfl|rfl|rfl|rfl<;>exact⟨_,rfl,by lia,by lia⟩
 have C:=Y2 ns (n+3) (c+1) hl (by lia) (by lia);have m:=TL ns (n+3) (b:=c+1) (by lia);have W:M7 ns (n+3) (c+1)<c+1:=Ez _ (by lia);obtain⟨rows,kds,f,j,ah,m1,m2,w⟩:=kB ns (n+4) (M7 ns (n+3) (c+1)) room hl (by lia) I H m (by lia);have A:=Y2 ns f 3 hl (by lia) (by decide);have k:rows.length<=40:=by lia
 by_cases u:0<M7 ns f 3
 ·refine ⟨sure,rows,kds,f + 1,j,by lia,o,s1,by lia,?_⟩
  unfold WO;rw[b6];unfold U7;simp[bV,ex,E,v,C,w,A,u]
 ·obtain ⟨ps,order,P,g,p,V⟩ := Yu ns (f + 1) (sure := sure) hl (by lia) j k
  have M:order.length=rows.length:=by rw[g.length_eq,HP]
  have K:order.Nodup:=g.nodup_iff.mpr ((DH _).imp λh=>by lia);have G:=OM 0 V6 (λ_=>b5) (aJ (cG (fV 1) (cG (fV 0) bS))) swD [] rfl (Y6 0 (order.map .int)) [] (λd hd=>by obtain⟨i,hi,e⟩:=List.getElem_of_mem hd;obtain⟨z,_,rfl⟩:=KQ (Af.mpr ⟨hi,e⟩);exact⟨_,_,rfl,by simp,λ_=>by simp[swD]⟩) (by rw[KR];simp;lia)
  have f1:(Y6 0 (order.map cM.int)).filter (λ_=>b5)=Y6 0 (order.map .int):=List.filter_eq_self.mpr λ_ _=>rfl;rw[f1,Dc]at G;have hd:AY (.lst ((Y6 0 (order.map .int)).map swD))=b0 (G2 order):=by
   show(OS ((Y6 0 (order.map .int)).map swD)).bind (λkds=>if(kds.map Cg).Nodup then b0 (cM.dct (kds.map Cg) (kds.map Dd))else b3)=_;rw[ET,Ai,if_pos]
   ·rfl
   ·rw[ML]
    exact Ks _ (λa b h e=>h (by injection e)) K
  have F:=RY 2 (cA 2 [] aY (aE (f2 bX (f2 bX (fV 0) (fC (.int 1))) (fV 2)) (aE (fV 1) bR))) [.va (.tup [.int sure,.tup rows]),.va (G2 order)] (DF rows (G2 order)) rfl (order.map .int) [] (λd hd=>by obtain⟨r,L,rfl⟩:=Cs.mp hd;obtain⟨J,rest,N⟩:=List.append_of_mem L;obtain⟨az,e,U,_,_⟩:=Vl j P g p N;have T:=BK e;rw[T];simp[U,e]) (by simp;lia)
  rw[Dc]at F;have B:=Vc j P g p order [] rfl;refine⟨sure,(order.map .int).map (DF rows (G2 order)),_,f+1+rows.length,B,by simp;lia,o,s1,by lia,?_⟩;have l:¬0<M7 ns f 3:=u;unfold WO;rw[b6];unfold U7;have O:((order.map cM.int).map (DF rows (G2 order))).length<=16777216:=by simp;lia
  generalize (order.map cM.int).map (DF rows (G2 order))=R at*;generalize (Y6 0 (order.map cM.int)).map swD=S at*;generalize G2 order=D at*;simp[bV,ex,E,v,C,w,A,l,V,Z7,G,hd,F]
noncomputable abbrev D7:List String:=["over","plus","minus","times","least","most","less"]
inductive Rw where
 |num (n:Int)|two (x:String) (a b:Int)|pick (c a b:Int)|load (p:Int)|take (p c a:Int)|store (p a:Int)|put (p a c:Int)
def Rw.dat:Rw->cM
 |.num n=>.tup [.str "number",.int n]
 |.two x a b=>.tup [.str x,.int a,.int b]
 |.pick c a b=>.tup [.str "pick",.int c,.int a,.int b]
 |.load p=>.tup [.str "load",.int p]
 |.take p c a=>.tup [.str "take",.int p,.int c,.int a]
 |.store p a=>.tup [.str "store",.int p,.int a]
 |.put p a c=>.tup [.str "put",.int p,.int a,.int c]
def Rw.nms:Rw->List Int
 |.num _=>[]
 |.two _ a b=>[a,b]
 |.pick c a b=>[c,a,b]
 |.load _=>[]
 |.take _ c a=>[c,a]
 |.store _ a=>[a]
 |.put _ a c=>[a,c]
def Rw.hd:Rw->String
 |.num _=> "number"
 |.two x _ _=>x
 |.pick _ _ _=> "pick"
 |.load _=> "load"
 |.take _ _ _=> "take"
 |.store _ _=> "store"
 |.put _ _ _=> "put"
def Rw.mk:Rw->Bool
 |.store _ _=>ba
 |.put _ _ _=>ba
 |_=>b5
abbrev Pl(p:Int):Prop:=0<=p/\p<=63
def Rw.Ok(M:Int->Prop):Rw->Prop
 |.num n=>Wd n
 |.two x a b=>x∈D7/\M a/\M b
 |.pick c a b=>M c/\M a/\M b
 |.load p=>Pl p
 |.take p c a=>Pl p/\M c/\M a
 |.store p a=>Pl p/\M a
 |.put p a c=>Pl p/\M a/\M c
section
variable{M M':Int->Prop}{r:Rw}
def Rw.Ok.imp(h:r.Ok M)(f:∀a,M a->M' a):r.Ok M':=by
 cases r with
 |num=>exact h
 |two=>exact⟨h.1,f _ h.2.1,f _ h.2.2⟩
 |pick=>exact⟨f _ h.1,f _ h.2.1,f _ h.2.2⟩
 |load=>exact h
 |take=>exact⟨h.1,f _ h.2.1,f _ h.2.2⟩
 |store=>exact⟨h.1,f _ h.2⟩
 |put=>exact⟨h.1,f _ h.2.1,f _ h.2.2⟩
def Rw.Ok.row(h:r.Ok M):ZZ M r.dat:=by
 cases r with
 |num=>exact .number h.1 h.2
 |two=>exact .two h.1 h.2.1 h.2.2
 |pick=>exact .pick h.1 h.2.1 h.2.2
 |load=>exact .load h.1 h.2
 |take=>exact .take h.1.1 h.1.2 h.2.1 h.2.2
 |store=>exact .store h.1.1 h.1.2 h.2
 |put=>exact .put h.1.1 h.1.2 h.2.1 h.2.2
def Rw.Ok.nm(h:r.Ok M):∀a∈r.nms,M a:=by
 cases r with
 |num=>exact λ_ h=>nomatch h
 |two=>
  intro a b;simp only[Rw.nms,Aj,Az,or_false]at b;rcases b with rfl|rfl
  ·exact h.2.1
  ·exact h.2.2
 |pick=>
  intro a b;simp only[Rw.nms,Aj,Az,or_false]at b;rcases b with rfl|rfl|rfl
  ·exact h.1
  ·exact h.2.1
  ·exact h.2.2
 |load=>exact λ_ h=>nomatch h
 |take=>
  intro a b;simp only[Rw.nms,Aj,Az,or_false]at b;rcases b with rfl|rfl
  ·exact h.2.1
  ·exact h.2.2
 |store=>
  intro a b;simp only[Rw.nms,Aj,Az,or_false]at b;rcases b with rfl
  ·exact h.2
 |put=>
  intro a b;simp only[Rw.nms,Aj,Az,or_false]at b;rcases b with rfl|rfl
  ·exact h.2.1
  ·exact h.2.2
def Rw.nl:r.nms.length<=3:=by cases r<;>simp[Rw.nms]
@[simp] theorem Rw.ix0:bX r.dat (.int 0)=b0 (.str (Bk r.hd)):=by cases r<;>rfl
@[simp] theorem Rw.dat_hard:r.dat.hard=b5:=by cases r<;>rfl
def d7{x:String}(h:x∈D7):x= "over" ∨x= "plus" ∨x= "minus" ∨x= "times" ∨x= "least" ∨x= "most" ∨x= "less":=by simpa using h
def Rw.Ok.noif(h:r.Ok M):¬r.hd= "if":=by
 cases r with
 |two=>obtain⟨h,_⟩:=h;rcases d7 h with rfl|rfl|rfl|rfl|rfl|rfl|rfl<;>simp[Rw.hd]
 |_=>simp[Rw.hd]
def Rw.Ok.names(h:r.Ok M):VL [r.dat]=b0 (.lst (r.nms.map .int),[])/\ZQ [r.dat]=b0 (.lst (r.nms.map .int),[]):=by
 cases r with
 |two=>obtain⟨h,_⟩:=h;rcases d7 h with rfl|rfl|rfl|rfl|rfl|rfl|rfl<;>exact⟨by kernel_rfl,by kernel_rfl⟩
 |_=>exact⟨by kernel_rfl,by kernel_rfl⟩
def Rw.Ok.made(h:r.Ok M):V4 [r.dat]=b0 (.bl r.mk,[]):=by
 cases r with
 |two=>obtain⟨h,_⟩:=h;rcases d7 h with rfl|rfl|rfl|rfl|rfl|rfl|rfl<;>kernel_rfl
 |_=>kernel_rfl
def Rw.Ok.isif(h:r.Ok M):MA [r.dat]=b0 (.bl ba,[]):=by
 cases r with
 |two=>obtain⟨h,_⟩:=h;rcases d7 h with rfl|rfl|rfl|rfl|rfl|rfl|rfl<;>kernel_rfl
 |_=>kernel_rfl
end
noncomputable def dv(x:String)(u v:Int):Option Int:=match RT [.str x,.lst [.int u,.int v]]with
 |some (.int w,_)=>b0 w
 |_=>b3
noncomputable def oD:Option Int->cM
 |some w=>.int w
 |none=>.non
def G3{x:String}(b:x∈D7){u v:Int}(d:Wd u)(c:Wd v):RT [.str x,.lst [.int u,.int v]]=b0 (oD (dv x u v),[])/\XT [.str x,.lst [.int u,.int v]]=b0 (oD (dv x u v),[])/\∀w,dv x u v=b0 w->Wd w:=by
 obtain⟨r,a,f,e⟩:=jy b d c;unfold dv;rw[f];rcases e with rfl|⟨w,rfl,h⟩
 ·exact⟨rfl,a,λ_ h=>nomatch h⟩
 ·exact⟨rfl,a,λ_ h'=>by cases h';exact h⟩
inductive MS where
 |ok (m:cM) (cs:List Int)|bad (s:String)
noncomputable def UP(w:Int->Int)(cs:List Int):Rw->MS
 |.num n=>.ok (.int n) cs
 |.two x a b=>match dv x (w a) (w b)with
  |some v=>.ok (.int v) cs
  |none=>.bad "nought"
 |.pick c a b=>.ok (.int (if w c=0 then w b else w a)) cs
 |.load p=>if p<cs.length then .ok (.int (cs.getD p.toNat 0)) cs else .bad "beyond"
 |.take p c a=>if w c=0 then .ok (.int (w a)) cs else if p<cs.length then .ok (.int (cs.getD p.toNat 0)) cs else .bad "beyond"
 |.store p a=>if p<cs.length then .ok .non (cs.set p.toNat (w a))else .bad "beyond"
 |.put p a c=>if w c=0 then .ok .non cs else if p<cs.length then .ok .non (cs.set p.toNat (w a))else .bad "beyond"
def MS.out(cs:List Int):MS->cM×List cM
 |.ok m cs'=>(.tup [m,.non],[.lst (cs'.map .int)])
 |.bad s=>(.tup [.non,.str s],[.lst (cs.map .int)])
def GZ{cs:List Int}{p:Int}(a:0<=p)(h1:p<cs.length):VC (cs.map cM.int) p=b0 (.int (cs.getD p.toNat 0)):=by
 have hi:p.toNat<cs.length:=by lia
 rw[WV a (by simpa using h1),De,Cm hi];simp[hi]
def Wk{cs:List Int}{p:Int}(h1:p<cs.length)(b:0<=p)(a:∀c∈cs,Wd c):Wd (cs.getD p.toNat 0):=by
 have hi:p.toNat<cs.length:=by lia
 simp[hi];exact a _ (Gz hi)
def GY{cs:List Int}{p:Int}(a:0<=p)(h1:p<cs.length):K4 cs.length p=b0 p.toNat:=by unfold K4;rw[if_pos a,if_pos h1]
@[simp] theorem mW{p:Int}{t:List cM}:aC [.tup (.str "load":: .int p::t)]=b0 (.int p,[]):=by unfold aC;rw[b6];unfold YG;simp[bV,WX,ZP]
@[simp] theorem pL{p:Int}{t:List cM}:aC [.tup (.str "take":: .int p::t)]=b0 (.int p,[]):=by unfold aC;rw[b6];unfold YG;simp[bV,WX,ZP]
@[simp] theorem qZ{p:Int}{t:List cM}:aC [.tup (.str "store":: .int p::t)]=b0 (.int p,[]):=by unfold aC;rw[b6];unfold YG;simp[bV,WX,ZP]
@[simp] theorem oH{p:Int}{t:List cM}:aC [.tup (.str "put":: .int p::t)]=b0 (.int p,[]):=by unfold aC;rw[b6];unfold YG;simp[bV,WX,ZP]
@[simp] theorem rm{t:List cM}:aC [.tup (.str "pick"::t)]=b0 (.non,[]):=by unfold aC;rw[b6];unfold YG;simp[bV,WX,ZP]
def mS{x:String}(a:x∈D7){t:List cM}:aC [.tup (.str x::t)]=b0 (.non,[]):=by unfold aC;rw[b6];unfold YG;have e:=(EI a (y:= "load") (by decide)).2;have d:=(EI a (y:= "take") (by decide)).2;have c:=(EI a (y:= "store") (by decide)).2;have b:=(EI a (y:= "put") (by decide)).2;simp[bV,WX,ZP,e,d,c,b]
@[simp] theorem sG{d:cM}:XS [.str "load",d]=b0 (.bl b5,[]):=by kernel_rfl
@[simp] theorem pN{d:cM}:XS [.str "store",d]=b0 (.bl b5,[]):=by kernel_rfl
@[simp] theorem nC{a:Int}{ds:List cM}:XS [.str "take",.lst (.int a::ds)]=b0 (.bl (!decide (a=0)),[]):=by unfold XS;rw[b6];unfold RB;simp[bV]
@[simp] theorem rB{a b:Int}{ds:List cM}:XS [.str "put",.lst (.int a:: .int b::ds)]=b0 (.bl (!decide (b=0)),[]):=by unfold XS;rw[b6];unfold RB;simp[bV]
def WT{x:String}{p:Int}{t ws cs:List cM}{r:cM×List cM}{c:cM}(a:x= "load" ∨x= "take" ∨x= "store" ∨x= "put")(h:aM [.str x,.int p,.lst ws,.lst cs]=b0 (r.1,[c])):X1 [.tup (.str x:: .int p::t),.lst ws,.lst cs,.int 0]=b0 (r.1,[c]):=by
 have b:aC [.tup (.str x:: .int p::t)]=b0 (.int p,[]):=by rcases a with rfl|rfl|rfl|rfl<;>simp
 have d:¬x= "number":=by rcases a with rfl|rfl|rfl|rfl<;>decide
 unfold X1;rw[b6];unfold R6;simp[bV,h,b,d]
def gJ{u v z:Int}:RT [.str "pick",.lst [.int u,.int v,.int z]]=b0 (.int (if u=0 then z else v),[]):=by
 have e:GI [.int u,.int v,.int z]=b0 (.int (if u=0 then z else v),[]):=by unfold GI;rw[b6];unfold CT;by_cases h:u=0<;>simp[bV,h]
 unfold RT;rw[b6];unfold G8;simp[bV,e,cM.hard]
def je{u v z:Int}:XT [.str "pick",.lst [.int u,.int v,.int z]]=b0 (.int (if u=0 then z else v),[]):=by unfold XT;rw[b6];unfold T4;by_cases h:u=0<;>simp[bV,h]
section
variable{M:Int->Prop}{r:Rw}{w:Int->Int}{cs:List Int}
def Xu(h:r.Ok M)(hw:∀a∈r.nms,Wd (w a)):X1 [r.dat,.lst ((r.nms.map w).map .int),.lst (cs.map .int),.int 0]=b0 ((UP w cs r).out cs):=by
 cases r with
 |num n=>exact(by kernel_rfl:X1 [.tup [.str "number",.int n],.lst [],.lst (cs.map .int),.int 0]=b0 (.tup [.int n,.non],[.lst (cs.map .int)]))
 |two x a b=>
  obtain⟨j,_⟩:=h;obtain⟨e,_,_⟩:=G3 j (hw a (by simp[Rw.nms])) (hw b (by simp[Rw.nms]));have l:=mS j (t:=[.int a,.int b]);have k:=(EI j (y:= "number") (by decide)).1;unfold X1;rw[b6];unfold R6;simp only[Rw.dat,Rw.nms,UP,Ba,By];cases hd:dv x (w a) (w b)with
  |none=>rw[hd]at e;simp[bV,l,e,oD,MS.out,k]
  |some v=>rw[hd]at e;simp[bV,l,e,oD,MS.out,k]
 |pick c a b=>
  unfold X1;rw[b6];unfold R6;simp[Rw.dat,Rw.nms,UP,bV,gJ,MS.out]
 |load p=>
  have i:=h.1;simp only[Rw.dat,Rw.nms,UP,By];by_cases f:p<cs.length
  ·have d : ¬ (cs.length : Int) <= p := by lia
   rw[if_pos f];refine WT (r:=(_,[])) (by simp) ?_;unfold aM;rw[b6];unfold aF;simp[bV,d,GZ i f,ZP]
  ·have d : (cs.length : Int) <= p := by lia
   rw[if_neg f];refine WT (r:=(_,[])) (by simp) ?_;unfold aM;rw[b6];unfold aF;simp[bV,d]
 |take p c a=>
  have i:=h.1.1;simp only[Rw.dat,Rw.nms,UP,Ba,By];by_cases g:w c=0
  ·rw[if_pos g]
   refine WT (r:=(_,[])) (by simp) ?_;unfold aM;rw[b6];unfold aF;simp[bV,g]
  ·rw[if_neg g]
   by_cases f:p<cs.length
   ·have d : ¬ (cs.length : Int) <= p := by lia
    rw[if_pos f];refine WT (r:=(_,[])) (by simp) ?_;unfold aM;rw[b6];unfold aF;simp[bV,g,d,GZ i f,ZP]
   ·have d : (cs.length : Int) <= p := by lia
    rw[if_neg f];refine WT (r:=(_,[])) (by simp) ?_;unfold aM;rw[b6];unfold aF;simp[bV,g,d]
 |store p a=>
  have i:=h.1.1;simp only[Rw.dat,Rw.nms,UP,Ba,By];by_cases f:p<cs.length
  ·have d : ¬ (cs.length : Int) <= p := by lia
   rw[if_pos f];refine WT (r:=(_,[])) (by simp) ?_;unfold aM;rw[b6];unfold aF;simp[bV,d,GY i f,Mf,ZP]
  ·have d : (cs.length : Int) <= p := by lia
   rw[if_neg f];refine WT (r:=(_,[])) (by simp) ?_;unfold aM;rw[b6];unfold aF;simp[bV,d]
 |put p a c=>
  have i:=h.1.1;simp only[Rw.dat,Rw.nms,UP,Ba,By];by_cases g:w c=0
  ·rw[if_pos g]
   refine WT (r:=(_,[])) (by simp) ?_;unfold aM;rw[b6];unfold aF;simp[bV,g]
  ·rw[if_neg g]
   by_cases f:p<cs.length
   ·have d : ¬ (cs.length : Int) <= p := by lia
    rw[if_pos f];refine WT (r:=(_,[])) (by simp) ?_;unfold aM;rw[b6];unfold aF;simp[bV,g,d,GY i f,Mf,ZP]
   ·have d : (cs.length : Int) <= p := by lia
    rw[if_neg f];refine WT (r:=(_,[])) (by simp) ?_;unfold aM;rw[b6];unfold aF;simp[bV,g,d]
def iP(h:r.Ok M)(q:¬r.hd= "number")(hw:∀a∈r.nms,Wd (w a)):TY [r.dat,.int 0,.lst ((r.nms.map w).map .int),.lst (cs.map .int)]=b0 ((UP w cs r).out cs):=by
 unfold TY;rw[b6];unfold QA;cases r with
 |num n=>exact absurd rfl q
 |two x a b=>
  obtain⟨j,_⟩:=h;obtain⟨_,e,_⟩:=G3 j (hw a (by simp[Rw.nms])) (hw b (by simp[Rw.nms]));have o:=(EI j (y:= "load") (by decide)).2;have m:=(EI j (y:= "take") (by decide)).2;have l:=(EI j (y:= "store") (by decide)).2;have k:=(EI j (y:= "put") (by decide)).2;simp only[Rw.dat,Rw.nms,UP,Ba,By];cases hd:dv x (w a) (w b)with
  |none=>rw[hd]at e;simp[bV,e,oD,MS.out,o,m,l,k]
  |some v=>rw[hd]at e;simp[bV,e,oD,MS.out,o,m,l,k]
 |pick c a b=>simp[Rw.dat,Rw.nms,UP,bV,je,MS.out]
 |load p=>
  have i:=h.1;simp only[Rw.dat,Rw.nms,UP,By];by_cases f:p<cs.length
  ·have d : ¬ (cs.length : Int) <= p := by lia
   simp[bV,f,d,GZ i f,MS.out]
  ·have d : (cs.length : Int) <= p := by lia
   simp[bV,f,d,MS.out]
 |take p c a=>
  have i:=h.1.1;simp only[Rw.dat,Rw.nms,UP,Ba,By];by_cases g:w c=0
  ·simp[bV,g,MS.out]
  ·by_cases f:p<cs.length
   ·have d : ¬ (cs.length : Int) <= p := by lia
    simp[bV,g,f,d,GZ i f,MS.out]
   ·have d : (cs.length : Int) <= p := by lia
    simp[bV,g,f,d,MS.out]
 |store p a=>
  have i:=h.1.1;simp only[Rw.dat,Rw.nms,UP,Ba,By];by_cases f:p<cs.length
  ·have d : ¬ (cs.length : Int) <= p := by lia
   simp[bV,f,d,GY i f,Mf,MS.out]
  ·have d : (cs.length : Int) <= p := by lia
   simp[bV,f,d,MS.out]
 |put p a c=>
  have i:=h.1.1;simp only[Rw.dat,Rw.nms,UP,Ba,By];by_cases g:w c=0
  ·simp[bV,g,MS.out]
  ·by_cases f:p<cs.length
   ·have d : ¬ (cs.length : Int) <= p := by lia
    simp[bV,g,f,d,GY i f,Mf,MS.out]
   ·have d : (cs.length : Int) <= p := by lia
    simp[bV,g,f,d,MS.out]
def Vd{p:Int}{u:Int}(a:∀c∈cs,Wd c)(b:Wd u):∀c∈cs.set p.toNat u,Wd c:=λc h=>by
 rcases Kf h with z|z
 ·exact a c z
 ·rw[z];exact b
def HV(h:r.Ok M)(hw:∀a∈r.nms,Wd (w a))(d:∀c∈cs,Wd c){m:cM}{cs':List Int}(e:UP w cs r=.ok m cs'):cs'.length=cs.length/\(∀c∈cs',Wd c)/\QT 0 m/\(r.mk=b5->∃x,Wd x/\m=.int x):=by
 cases r with
 |num n=>cases e;exact⟨rfl,d,ZT,λ_=>⟨n,h,rfl⟩⟩
 |two x a b=>
  obtain⟨_,_,k⟩:=G3 h.1 (hw a (by simp[Rw.nms])) (hw b (by simp[Rw.nms]));simp only[UP]at e;cases hd:dv x (w a) (w b)with
  |none=>rw[hd]at e;cases e
  |some v=>rw[hd]at e;cases e;exact⟨rfl,d,ZT,λ_=>⟨v,k v hd,rfl⟩⟩
 |pick c a b=>
  cases e;refine⟨rfl,d,ZT,λ_=>⟨_,?_,rfl⟩⟩;split
  ·exact hw b (by simp[Rw.nms])
  ·exact hw a (by simp[Rw.nms])
 |load p=>
  simp only[UP]at e;split at e
  ·rename_i f;cases e;exact⟨rfl,d,ZT,λ_=>⟨_,Wk f h.1 d,rfl⟩⟩
  ·cases e
 |take p c a=>
  simp only[UP]at e;split at e
  ·cases e;exact⟨rfl,d,ZT,λ_=>⟨_,hw a (by simp[Rw.nms]),rfl⟩⟩
  ·split at e
   ·rename_i f;cases e;exact⟨rfl,d,ZT,λ_=>⟨_,Wk f h.1.1 d,rfl⟩⟩
   ·cases e
 |store p a=>
  simp only[UP]at e;split at e
  ·cases e;exact⟨by simp,Vd d (hw a (by simp[Rw.nms])),MN,λz=>nomatch z⟩
  ·cases e
 |put p a c=>
  simp only[UP]at e;split at e
  ·cases e;exact⟨rfl,d,MN,λz=>nomatch z⟩
  ·split at e
   ·cases e;exact⟨by simp,Vd d (hw a (by simp[Rw.nms])),MN,λz=>nomatch z⟩
   ·cases e
end
def Ab.lt{ab:List Bool}{a:Int}(h:Ab ab a):a<ab.length:=by
 have:=(Af.mp h.2).1
 have:=h.1
 lia
def Ab.app{ab b:List Bool}{a:Int}(h:Ab ab a):Ab (ab++b) a:=⟨h.1,by rw[Ae (Af.mp h.2).1];exact h.2⟩
def Ab.inv{ab:List Bool}{b:Bool}{a:Int}(h:Ab (ab++[b]) a):Ab ab a∨(a=ab.length/\b=b5):=by
 have d:=h.1;have hl:=h.lt;rw[Ay,Bp]at hl;by_cases hi:a.toNat<ab.length
 ·exact .inl ⟨d,by have:=h.2;rwa[Ae hi]at this⟩
 ·have c : a.toNat = ab.length := by lia
  have e:=h.2;rw[c]at e;exact .inr ⟨by lia,by simpa using e⟩
def Ab.new{ab:List Bool}:Ab (ab++[b5]) ab.length:=⟨by lia,by simp⟩
def wv(b:List cM)(a:Int):Int:=match VC b a with
 |some (.int x)=>x
 |_=>0
def GN{ws es:List cM}{a:Int}(b:0<=a)(h1:a<ws.length):VC (ws++es) a=VC ws a:=by rw[WV b (by simp;lia),WV b h1,Ae (by lia)]
def Vz{ws es:List cM}{a:Int}(b:0<=a)(h1:a<ws.length):wv (ws++es) a=wv ws a:=by unfold wv;rw[GN b h1]
def Wv{ws es:List cM}{m:cM}{a:Int}(h:a=ws.length):VC (ws++m::es) a=b0 m:=by subst h;rw[WV (by lia) (by simp;lia)];simp
def iR{ws es:List cM}{x a:Int}(h:a=ws.length):wv (ws++ .int x::es) a=x:=by unfold wv;rw[Wv h]
structure Ws(ab:List Bool)(ws:List cM):Prop where
 len:ws.length=ab.length
 wd:∀a,Ab ab a->∃x,Wd x/\VC ws a=b0 (.int x)
def Ws.nil:Ws [] []:=⟨rfl,λa h=>by have:=h.2;simp at this⟩
def Ws.word{ab:List Bool}{ws:List cM}{a:Int}(W:Ws ab ws)(h:Ab ab a):VC ws a=b0 (.int (wv ws a))/\Wd (wv ws a):=by obtain⟨x,b,e⟩:=W.wd a h;unfold wv;rw[e];exact⟨rfl,b⟩
def Ws.lt{ab:List Bool}{ws:List cM}{a:Int}(W:Ws ab ws)(h:Ab ab a):a<ws.length:=by have:=h.lt;rw[W.len];exact this
def Ws.snoc{ab:List Bool}{ws:List cM}{b:Bool}{m:cM}(W:Ws ab ws)(h:b=b5->∃x,Wd x/\m=.int x):Ws (ab++[b]) (ws++[m]):=by
 refine⟨by simp[W.len],λa d=>?_⟩;rcases d.inv with h1|⟨h1,h2⟩
 ·obtain⟨x,c,e⟩:=W.wd a h1
  exact⟨x,c,by rw[GN h1.1 (W.lt h1)];exact e⟩
 ·obtain⟨x,c,rfl⟩:=h h2
  exact⟨x,c,Wv (by rw[h1,W.len])⟩
structure Out where
 ws:List cM
 cs:List Int
 er:Option String
def Out.fd(o:Out):cM:=match o.er with
 |none=>.non
 |some s=>.tup [.int o.ws.length,.str s]
noncomputable def go:List Rw->List cM->List Int->Out
 |[],ws,cs=>⟨ws,cs,b3⟩
 |r::rs,ws,cs=>match UP (wv ws) cs r with
  |.ok m cs'=>go rs (ws++[m]) cs'
  |.bad s=>⟨ws,cs,b0 s⟩
section
variable{r:Rw}{rs qs:List Rw}{ws:List cM}{cs cs':List Int}{m:cM}{s:String}{ab:List Bool}
def Uk(e:UP (wv ws) cs r=.ok m cs'):go (r::rs) ws cs=go rs (ws++[m]) cs':=by
 show(match UP (wv ws) cs r with
  |.ok m cs'=>go rs (ws++[m]) cs'
  |.bad s=>⟨ws,cs,b0 s⟩)=_
 rw[e]
def Xh(e:UP (wv ws) cs r=.bad s):go (r::rs) ws cs=⟨ws,cs,b0 s⟩:=by
 show(match UP (wv ws) cs r with
  |.ok m cs'=>go rs (ws++[m]) cs'
  |.bad s=>⟨ws,cs,b0 s⟩)=_
 rw[e]
def Wfs:List Bool->List Rw->Prop
 |_,[]=>True
 |ab,r::rs=>r.Ok (Ab ab)/\Wfs (ab++[r.mk]) rs
noncomputable def fW(b:List cM):cM->cM
 |.int a=>.int (wv b a)
 |_=>.non
def fR(a:List cM)(as:List Int):(as.map cM.int).map (fW a)=(as.map (wv a)).map cM.int:=by simp[fW]
def QP{as:List Int}{d:cM}{ws:List cM}(c:as.length<=3)(h:∀a∈as,bX d (.int a)=b0 (.int (wv ws a))):ZK 1 1 (gN 1) V6 (f2 bX (fO 0) (fV 1)) (as.map .int) [] [.ow d]=b0 ((as.map (wv ws)).map .int,[.ow d]):=by
 rw[RY 1 _ [.ow d] (fW ws) rfl _ [] (λe b=>?_) (by simp;lia),fR]
 ·rfl
 ·obtain⟨a,f,rfl⟩:=Cs.mp b
  simp[h a f,fW]
def stB(rws:cM)(cs:List cM)(ws:List cM)(a b c d:Sl):Ev:=
 [.va rws,.ow (.lst cs),.ow (.lst ws),a,b,c,d]
def fZ{rws:cM}{cs ws:List cM}{a b c d:Sl}{i r:cM}:GP 3 4 (.tup [i,r]) (stB rws cs ws a b c d)=b0 (stB rws cs ws (.va i) (.va r) c d):=by simp[stB]
theorem lf(h:r.Ok (Ab ab))(W:Ws ab ws)(hl:ws.length<16777216)(rws i:cM)(c d:Sl):U4 (stB rws (cs.map .int) ws (.va i) (.va r.dat) c d)=match UP (wv ws) cs r with
  |.ok m cs'=>b0 (.nx (stB rws (cs'.map .int) (ws++[m]) (.va i) (.va r.dat) (.va m) (.va .non)))
  |.bad s=>b0 (.rt (.tup [.lst ws,.tup [i,.str s]]) (stB rws (cs.map .int) ws (.va i) (.va r.dat) (.va .non) (.va (.str s)))):=by
 have f:=QP (d:=.lst ws) (ws:=ws) Rw.nl λa b=>by rw[Vo];exact(W.word (h.nm a b)).1
 have p2:=Xu (cs:=cs) h λa b=>(W.word (h.nm a b)).2;have g:=h.names.1;generalize (r.nms.map (wv ws)).map cM.int=zs at f p2;unfold U4;cases e:UP (wv ws) cs r with
 |ok m cs'=>rw[e]at p2;simp[stB,g,Z7,f,p2,MS.out,hl]
 |bad s=>rw[e]at p2;simp[stB,g,Z7,f,p2,MS.out]
theorem BO:∀{rs:List Rw}{ab:List Bool}{ws:List cM}{cs:List Int},Wfs ab rs->Ws ab ws->(∀c∈cs,Wd c)->ws.length+rs.length<1000->∀rws a b c d,∃h g f d',Y3 (GP 3 4) U4 (Y6 ws.length (rs.map Rw.dat)) (stB rws (cs.map .int) ws a b c d)=b0 (match(go rs ws cs).er with
  |none=>.nx (stB rws ((go rs ws cs).cs.map .int) (go rs ws cs).ws h g f d')
  |some s=>.rt (.tup [.lst (go rs ws cs).ws,.tup [.int (go rs ws cs).ws.length,.str s]]) (stB rws ((go rs ws cs).cs.map .int) (go rs ws cs).ws h g f d'))
 |[],ab,ws,cs,_,_,_,_,rws,a,b,c,d=>⟨a,b,c,d,by simp[go,Y6]⟩
 | r :: rs,ab,ws,cs,⟨h1,h2⟩,W,i,hk,rws,a,b,c,d => by
  simp only[Bg]at hk;have st:=lf (cs:=cs) h1 W (by lia) rws (.int ws.length) c d;rw[Ba,V0,YT,fZ,W9,st];cases e:UP (wv ws) cs r with
  |bad s=>
   rw[Xh e];exact⟨_,_,_,_,rfl⟩
  |ok m cs'=>
   rw[Uk e];obtain⟨_,l,_,k⟩:=HV h1 (λa n=>(W.word (h1.nm a n)).2) i e;obtain⟨h,g,f,d',j⟩:=BO h2 (W.snoc k) l (by simp;lia) rws (.va (.int ws.length)) (.va r.dat) (.va m) (.va .non);rw[Ay,Bp]at j;exact⟨h,g,f,d',by rw[VR];exact j⟩
theorem D4(a rws:cM)(sure:Int):∀{rs:List Rw}{ab:List Bool},Wfs ab rs->ab.length+rs.length<1000->∀s:Sl,∃s',Y3 (gN 4) V7 (rs.map Rw.dat) [.va a,.va (.int sure),.va rws,.ow (.lst (ab.map .bl)),s]=b0 (.nx [.va a,.va (.int sure),.va rws,.ow (.lst ((ab++rs.map Rw.mk).map .bl)),s'])
 |[],ab,_,_,s=>⟨s,by simp⟩
 |r::rs,ab,⟨h1,h2⟩,hk,s=>by
  simp only[Bg]at hk;obtain⟨s',c⟩:=D4 a rws sure h2 (by simp;lia) (.va r.dat);refine⟨s',?_⟩;have e:=EO h1.row;have em:=h1.made;have b:ab.length<16777216:=by lia
  rw[Ba,YT,P1,W9];have d:V7 [.va a,.va (.int sure),.va rws,.ow (.lst (ab.map .bl)),.va r.dat]=b0 (.nx [.va a,.va (.int sure),.va rws,.ow (.lst ((ab++[r.mk]).map .bl)),.va r.dat]):=by unfold V7;simp[e,em,b,cM.hard]
  have s1:([.va a,.va (.int sure),.va rws,.ow (.lst (ab.map .bl)),s]:Ev).set 4 (.va r.dat)=[.va a,.va (.int sure),.va rws,.ow (.lst (ab.map .bl)),.va r.dat]:=rfl;rw[s1,d,VR,c];simp
def dF{sure:Int}(h:Wfs [] rs)(g:0<=sure)(s1:sure<=64)(i:rs.length<=40)(a:∀c∈cs,Wd c)(j:sure<=cs.length)(o:cs.length<=64):Tb [.tup [.int sure,.tup (rs.map Rw.dat)],.lst (cs.map .int)]=b0 (.tup [.lst ((go rs [] cs).cs.map .int),(go rs [] cs).fd],[]):=by
 obtain⟨s',f⟩:=D4 (.tup [.int sure,.tup (rs.map Rw.dat)]) (.tup (rs.map Rw.dat)) sure h (by simp;lia) .no;simp only[By]at f;have d:¬(40:Int)<(rs.length:Int):=by lia
 have n:TR [.tup [.int sure,.tup (rs.map Rw.dat)]]=b0 (.bl b5,[]):=by unfold TR;rw[b6,P2.eq_1];simp[bV,U6,M5,g,s1,d,f]
 have m:=EE a j o;have k:U2 [.tup [.int sure,.tup (rs.map Rw.dat)],.lst (cs.map .int)]=b0 (.non,[]):=by unfold U2;rw[b6];unfold R0;simp[bV,n,m]
 obtain⟨r,q,p,d',b⟩:=BO h Ws.nil a (by simp;lia) (.tup (rs.map Rw.dat)) .no .no .no .no;have l:Q0 [.tup (rs.map Rw.dat),.lst (cs.map .int)]=b0 (.tup [.lst (go rs [] cs).ws,(go rs [] cs).fd],[.lst ((go rs [] cs).cs.map .int)]):=by
  unfold Out.fd;simp only[stB,Gj]at b;unfold Q0;rw[b6,NP.eq_1];cases e:(go rs [] cs).er with
  |none=>rw[e]at b;simp[bV,b]
  |some s=>rw[e]at b;simp[bV,b]
 unfold Tb;rw[b6];unfold Tn;simp[bV,k,l]
end
inductive Ts where
 |nil|row (r:Rw) (t:Ts)|ifs (c:Int) (a b t:Ts)
def Ts.dats:Ts->List cM
 |.nil=>[]
 |.row r t=>r.dat::t.dats
 |.ifs c a b t=>.tup [.str "if",.int c,.tup a.dats,.tup b.dats]::t.dats
def Ts.size:Ts->Nat
 |.nil=>0
 |.row _ t=>1+t.size
 |.ifs _ a b t=>1+(a.size+b.size)+t.size
def Ts.dep:Ts->Nat
 |.nil=>0
 |.row _ t=>t.dep
 |.ifs _ a b t=>max (1+max a.dep b.dep) t.dep
abbrev YS(n:Nat):List Bool:=Ak n ba
def Ts.sgt:Ts->List Bool->List Bool
 |.nil,ab=>ab
 |.row r t,ab=>t.sgt (ab++[r.mk])
 |.ifs _ a b t,ab=>t.sgt (ab++[ba]++YS a.size++YS b.size)
def Ts.Wf:Ts->List Bool->Prop
 |.nil,_=>True
 |.row r t,ab=>r.Ok (Ab ab)/\t.Wf (ab++[r.mk])
 |.ifs c a b t,ab=>Ab ab c/\a.Wf (ab++[ba])/\b.Wf (ab++[ba]++YS a.size)/\t.Wf (ab++[ba]++YS a.size++YS b.size)
theorem Ts.sgt_len:∀(t:Ts) (ab:List Bool),(t.sgt ab).length=ab.length+t.size
 |.nil,_=>rfl
 |.row r t,ab=>by simp[Ts.sgt,Ts.size,Ts.sgt_len t];lia
 |.ifs c a b t,ab=>by simp[Ts.sgt,Ts.size,Ts.sgt_len t];lia
def Ts.cnts:Ts->List Int
 |.nil=>[]
 |.row _ t=>1::t.cnts
 |.ifs _ a b t=>(1+((a.size:Int)+b.size))::t.cnts
theorem Ts.cnts_sum:∀t:Ts,t.cnts.sum=t.size
 |.nil=>rfl
 |.row _ t=>by simp[Ts.cnts,Ts.size,Ts.cnts_sum t]
 |.ifs _ a b t=>by simp[Ts.cnts,Ts.size,Ts.cnts_sum t]
theorem AO:∀xs:List Int,W8 (xs.map .int)=b0 xs
 |[]=>rfl
 |_::xs=>by simp[W8,AO xs]
noncomputable abbrev Xg(R:bW):VF:=f2 aV (fC (.int 1)) (KH (fB (f2 X7 (f2 bX (fV 0) (fC (.int 0))) (fC (.str "if")))) (f2 aV (cA 1 [] R (aE (f2 bX (fV 0) (fC (.int 2))) bR)) (cA 1 [] R (aE (f2 bX (fV 0) (fC (.int 3))) bR))) (fC (.int 0)))
def OU{n:Nat}{t:Ts}(h:∀acc,acc.length+t.size<1000->ZK 0 1 (gN 0) V6 (Xg (YF n)) t.dats acc []=b0 (acc++t.cnts.map .int,[]))(hk:t.size<1000):YF (n+1) [.tup t.dats]=b0 (.int t.size,[]):=by show aT 1 [] (VN (YF n)) _=_;have e:=h [] (by simpa using hk);rw[b6];unfold VN;simp only[Dc]at e;simp[bV,Z7,e,oSum,AO,Ts.cnts_sum]
theorem WY:∀{t:Ts}{n:Nat}{ab:List Bool},t.dep<=n->t.Wf ab->∀acc,acc.length+t.size<1000->ZK 0 1 (gN 0) V6 (Xg (YF n)) t.dats acc []=b0 (acc++t.cnts.map .int,[])
 |.nil,n,ab,_,_,acc,_=>by simp[Ts.dats,Ts.cnts]
 |.row r t,n,ab,hd,⟨h1,h2⟩,acc,hk=>by
  simp only[Ts.size]at hk;have d:=WY (t:=t) hd h2 (acc++[.int 1]) (by simp;lia);have f:=h1.noif;have e:acc.length<16777216:=by lia
  simp[Ts.dats,Ts.cnts,f,e,GD,d]
 |.ifs c a b t,0,ab,hd,_,acc,hk=>by simp only[Ts.dep]at hd;lia
 |.ifs c a b t,n+1,ab,hd,⟨_,h1,h2,g⟩,acc,hk=>by
  simp only[Ts.size]at hk;simp only[Ts.dep]at hd;have i:=OU (t:=a) (n:=n) (WY (by lia) h1) (by lia);have h:=OU (t:=b) (n:=n) (WY (by lia) h2) (by lia);have d:=WY (t:=t) (n:=n+1) (by lia) g (acc++[.int (1+((a.size:Int)+b.size))]) (by simp;lia);have e:acc.length<16777216:=by lia
  simp[Ts.dats,Ts.cnts,i,h,e,GD,d]
@[simp] theorem oj{ds:List cM}:LC (.lst ds) .non=b0 (.bl ba):=(rfl)
@[simp] theorem oB{ds:List cM}:UK (.lst ds) .non=b0 (.bl b5):=(rfl)
@[simp] theorem sO{ds:List cM}{k:Int}:AZ (.lst ds) (.int k)=if(0<=k/\k<4611686018427387904)/\ds.length*k.toNat<=16777216 then b0 (.lst (QM k.toNat ds))else b3:=by show(if(0<=k/\k<2 ^ 62)/\_ then _ else _)=_;rw[show(2:Int) ^ 62=4611686018427387904 by decide]
def jW{d:cM}(k:Nat):QM k [d]=Ak k d:=by
 unfold QM;induction k with
 |zero=>rfl
 |succ k a=>rw[Cy,Fu,a,Cy];rfl
section
variable{R:bW}{ab:List Bool}{k:Nat}{deep:Nat}
def BX{ds:List cM}{xs:List Bool}(th able:cM)(e:R [.tup ds,.lst (ab.map .bl),.int ((deep:Int)+1)]=b0 (.lst (xs.map .bl),[]))(c:xs.length=ab.length+k)(hk:ab.length+k<=20)(s:Sl):X6 R [.va th,.va able,.va (.int deep),.va (.lst (ab.map .bl)),.va (.tup ds),s]=b0 (.nx [.va th,.va able,.va (.int deep),.va (.lst ((ab++YS k).map .bl)),.va (.tup ds),.va (.lst (xs.map .bl))]):=by
 have h1:((xs.length:Int)-(ab.length:Int))=(k:Int):=by lia
 have h2:(k:Int)<4611686018427387904:=by lia
 have b:k<=16777216:=by lia
 have a:ab.length+k<=16777216:=by lia
 unfold X6;simp -implicitDefEqProofs [e,h1,h2,b,a,jW]
def Zm{c:Int}{d b:List cM}{e h:List Bool}{a f:Nat}(hc:Ab ab c)(hd:deep<3)(l:R [.tup d,.lst ((ab++[ba]).map .bl),.int ((deep:Int)+1)]=b0 (.lst (e.map .bl),[]))(h1:e.length=(ab++[ba]).length+a)(k:R [.tup b,.lst ((ab++[ba]++YS a).map .bl),.int ((deep:Int)+1)]=b0 (.lst (h.map .bl),[]))(h2:h.length=(ab++[ba]++YS a).length+f)(hk:ab.length+1+a+f<=20):YQ R [.tup [.str "if",.int c,.tup d,.tup b],.lst (ab.map .bl),.int deep]=b0 (.lst ((ab++[ba]++YS a++YS f).map .bl),[]):=by
 have f1:=BX (.tup [.str "if",.int c,.tup d,.tup b]) (.lst (ab.map .bl)) l h1 (by simp;lia) .no;have f2:=BX (.tup [.str "if",.int c,.tup d,.tup b]) (.lst (ab.map .bl)) k h2 (by simp;lia) (.va (.lst (e.map .bl)));have em:=Ul hc;have j:¬(deep:Int)=3:=by lia
 have hl:ab.length+1<=16777216:=by lia
 generalize i:ab.map cM.bl=A at em f1 f2;have g:A.length=ab.length:=by rw[<-i];simp
 have m:(ab++[ba]).map cM.bl=A++[.bl ba]:=by rw[Ft,i];rfl
 rw[m]at f1;unfold YQ;rw[b6,XI.eq_1];simp[bV,em,M4,g,hl,j];rw[f1];simp only[VR,YT,P1,W9,Nw,Nx,Vn];rw[f2];simp
def LZ{n:Nat}{t:Ts}{able:cM}(h:∀th able s,∃s',Y3 (gN 4) (Z1 (aN n)) t.dats [.va th,.va able,.va (.int deep),.va (.lst (ab.map .bl)),s]=b0 (.nx [.va th,.va able,.va (.int deep),.va (.lst ((t.sgt ab).map .bl)),s'])):aN (n+1) [.tup t.dats,.lst (ab.map .bl),.int deep]=b0 (.lst ((t.sgt ab).map .bl),[]):=by show aT 5 [] (YH (aN n)) _=_;obtain⟨s',e⟩:=h (.tup t.dats) (.lst (ab.map .bl)) .no;rw[b6,YH.eq_1];simp[bV,e]
end
theorem VU:∀{t:Ts}{n:Nat}{ab:List Bool}{deep:Nat},t.dep<=n->deep+t.dep<=3->t.Wf ab->ab.length+t.size<=20->∀th able s,∃s',Y3 (gN 4) (Z1 (aN n)) t.dats [.va th,.va able,.va (.int deep),.va (.lst (ab.map .bl)),s]=b0 (.nx [.va th,.va able,.va (.int deep),.va (.lst ((t.sgt ab).map .bl)),s'])
 |.nil,n,ab,deep,_,_,_,_,th,able,s=>⟨s,rfl⟩
 |.row r t,n,ab,deep,hd,i,⟨h1,h2⟩,hk,th,able,s=>by
  simp only[Ts.size]at hk;obtain⟨s',d⟩:=VU (t:=t) (n:=n) (deep:=deep) hd i h2 (by simp;lia) th able (.va r.dat);refine⟨s',?_⟩;have e:=EO h1.row;have em:=h1.made;have j:=h1.isif;have g:ab.length+1<=16777216:=by lia
  have m:¬(20:Int)<(ab.length:Int)+1:=by lia
  rw[Ts.dats,YT,P1,W9];have k:Z1 (aN n) [.va th,.va able,.va (.int deep),.va (.lst (ab.map .bl)),.va r.dat]=b0 (.nx [.va th,.va able,.va (.int deep),.va (.lst ((ab++[r.mk]).map .bl)),.va r.dat]):=by unfold Z1;simp[e,em,j,g,m,WW]
  have s1:([.va th,.va able,.va (.int deep),.va (.lst (ab.map .bl)),s]:Ev).set 4 (.va r.dat)=[.va th,.va able,.va (.int deep),.va (.lst (ab.map .bl)),.va r.dat]:=rfl;rw[s1,k,VR,d];rfl
 |.ifs c a b t,0,ab,deep,hd,_,_,_,th,able,s=>by simp only[Ts.dep]at hd;lia
 |.ifs c a b t,n+1,ab,deep,hd,i,⟨hc,h1,h2,o⟩,hk,th,able,s=>by
  simp only[Ts.size]at hk;simp only[Ts.dep]at hd i;have q:=LZ (t:=a) (n:=n) (able:=able) (VU (deep:=deep+1) (by lia) (by lia) h1 (by simp;lia));have p:=LZ (t:=b) (n:=n) (able:=able) (VU (deep:=deep+1) (by lia) (by lia) h2 (by simp;lia));obtain⟨s',d⟩:=VU (t:=t) (n:=n+1) (deep:=deep) (by lia) (by lia) o (by simp;lia) th able (.va (.tup [.str "if",.int c,.tup a.dats,.tup b.dats]));refine⟨s',?_⟩;have f:=Zm (R:=aN (n+1)) (deep:=deep) hc (by lia) q (Ts.sgt_len _ _) p (Ts.sgt_len _ _) (by lia);have j:MA [.tup [.str "if",.int c,.tup a.dats,.tup b.dats]]=b0 (.bl b5,[]):=by kernel_rfl
  generalize l:ab++[ba]++YS a.size++YS b.size=B at f d;have h:¬(20:Int)<(B.length:Int):=by rw[<-l];simp;lia
  rw[Ts.dats,YT,P1,W9];have k:Z1 (aN (n+1)) [.va th,.va able,.va (.int deep),.va (.lst (ab.map .bl)),.va (.tup [.str "if",.int c,.tup a.dats,.tup b.dats])]=b0 (.nx [.va th,.va able,.va (.int deep),.va (.lst (B.map .bl)),.va (.tup [.str "if",.int c,.tup a.dats,.tup b.dats])]):=by unfold Z1;simp[j,f,h,WW]
  have s1:([.va th,.va able,.va (.int deep),.va (.lst (ab.map .bl)),s]:Ev).set 4 (.va (.tup [.str "if",.int c,.tup a.dats,.tup b.dats]))=[.va th,.va able,.va (.int deep),.va (.lst (ab.map .bl)),.va (.tup [.str "if",.int c,.tup a.dats,.tup b.dats])]:=rfl;rw[s1,k,VR,d,Ts.sgt,l]
def jH{sure:Int}{t:Ts}(hd:t.dep<=3)(h:t.Wf [])(hk:t.size<=20)(a:0<=sure)(s1:sure<=64):Q2 [.tup [.int sure,.tup t.dats]]=b0 (.bl b5,[]):=by have e:=LZ (t:=t) (n:=7) (able:=.non) (VU (ab:=[]) (deep:=0) (by lia) (by lia) h (by simp;lia));simp only[By]at e;have b:aN 8 [.tup t.dats,.lst [],.int 0]=b0 (.lst ((t.sgt []).map .bl),[]):=e;unfold Q2;rw[b6];unfold NR;simp[bV,U6,a,s1,b]
@[simp] theorem ph{ds es:List cM}:mExt ds [.lst es]=if ds.length+es.length<=16777216 then b0 (ds++es)else b3:=(rfl)
noncomputable abbrev YL(p:List (Int×Bool)):List cM:=p.map λq=>.tup [.int q.1,.bl q.2]
def Ts.lsd:Ts->List (Int×Bool)->List cM
 |.nil,_=>[]
 |.row r t,p=>.tup [r.dat,.tup (YL p)]::t.lsd p
 |.ifs c a b t,p=>.tup [.tup [.str "if",.int c,.tup a.dats,.tup b.dats],.tup (YL p)]::(a.lsd (p++[(c,b5)])++(b.lsd (p++[(c,ba)])++t.lsd p))
theorem Ts.lsd_len:∀(t:Ts) (p:List (Int×Bool)),(t.lsd p).length=t.size
 |.nil,_=>rfl
 |.row r t,p=>by simp[Ts.lsd,Ts.size,Ts.lsd_len t];lia
 |.ifs c a b t,p=>by simp[Ts.lsd,Ts.size,Ts.lsd_len t,Ts.lsd_len a,Ts.lsd_len b];lia
def NX{n:Nat}{t:Ts}{p:List (Int×Bool)}(h:∀rows s,∃s',Y3 (gN 3) (XV (X2 n)) t.dats [.va rows,.va (.tup (YL p)),.ow (.lst []),s]=b0 (.nx [.va rows,.va (.tup (YL p)),.ow (.lst ([]++t.lsd p)),s'])):X2 (n+1) [.tup t.dats,.tup (YL p)]=b0 (.lst (t.lsd p),[]):=by show aT 4 [] (SA (X2 n)) _=_;obtain⟨s',e⟩:=h (.tup t.dats) .no;rw[b6,SA.eq_1];simp[bV,e]
theorem UI:∀{t:Ts}{n:Nat}{ab:List Bool}{p:List (Int×Bool)}{acc:List cM},t.dep<=n->t.Wf ab->acc.length+t.size+p.length<1000->∀rows s,∃s',Y3 (gN 3) (XV (X2 n)) t.dats [.va rows,.va (.tup (YL p)),.ow (.lst acc),s]=b0 (.nx [.va rows,.va (.tup (YL p)),.ow (.lst (acc++t.lsd p)),s'])
 |.nil,n,ab,p,acc,_,_,_,rows,s=>⟨s,by simp[Ts.dats,Ts.lsd]⟩
 |.row r t,n,ab,p,acc,hd,⟨h1,h2⟩,hk,rows,s=>by
  simp only[Ts.size]at hk;obtain⟨s',d⟩:=UI (t:=t) (n:=n) (p:=p) (acc:=acc++[.tup [r.dat,.tup (YL p)]]) hd h2 (by simp;lia) rows (.va r.dat);refine⟨s',?_⟩;have h:acc.length<16777216:=by lia
  have hi:=h1.noif;rw[Ts.dats,YT,P1,W9];have j:XV (X2 n) [.va rows,.va (.tup (YL p)),.ow (.lst acc),.va r.dat]=b0 (.nx [.va rows,.va (.tup (YL p)),.ow (.lst (acc++[.tup [r.dat,.tup (YL p)]])),.va r.dat]):=by unfold XV;simp[h,hi]
  have s1:([.va rows,.va (.tup (YL p)),.ow (.lst acc),s]:Ev).set 3 (.va r.dat)=[.va rows,.va (.tup (YL p)),.ow (.lst acc),.va r.dat]:=rfl;rw[s1,j,VR,d,Ts.lsd,Ar];rfl
 |.ifs c a b t,0,ab,p,acc,hd,_,_,rows,s=>by simp only[Ts.dep]at hd;lia
 |.ifs c a b t,n+1,ab,p,acc,hd,⟨hc,h1,h2,w⟩,hk,rows,s=>by
  simp only[Ts.size]at hk;simp only[Ts.dep]at hd;have f:=NX (t:=a) (n:=n) (p:=p++[(c,b5)]) (UI (acc:=[]) (by lia) h1 (by simp;lia));have e:=NX (t:=b) (n:=n) (p:=p++[(c,ba)]) (UI (acc:=[]) (by lia) h2 (by simp;lia));have q1:YL (p++[(c,b5)])=YL p++[.tup [.int c,.bl b5]]:=by simp
  have q2:YL (p++[(c,ba)])=YL p++[.tup [.int c,.bl ba]]:=by simp
  rw[q1]at f;rw[q2]at e;have l:=Ts.lsd_len a (p++[(c,b5)]);have k:=Ts.lsd_len b (p++[(c,ba)]);generalize i:cM.tup [.str "if",.int c,.tup a.dats,.tup b.dats]=I;have v:(YL p).length<1000:=by simp;lia
  obtain⟨s',d⟩:=UI (t:=t) (n:=n+1) (p:=p) (acc:=acc++(.tup [I,.tup (YL p)]::(a.lsd (p++[(c,b5)])++b.lsd (p++[(c,ba)])))) (by lia) w (by simp[l,k];lia) rows (.va I);refine⟨s',?_⟩;rw[Ts.dats,i,Ts.lsd,i,YT,P1,W9];generalize y:YL p=P at f e d v⊢;generalize C:a.lsd (p++[(c,b5)])=A at f d l⊢;generalize z:b.lsd (p++[(c,ba)])=B at e d k⊢;have u:acc.length<16777216:=by lia
  have q:acc.length+1+A.length<=16777216:=by lia
  have o:acc.length+(A.length+1)+B.length<=16777216:=by lia
  have g:acc.length+1+A.length+B.length<=16777216:=by lia
  have x:acc.length+(A.length+1+B.length)<=16777216:=by lia
  have m:P.length+1<=16777216:=by lia
  have j:XV (X2 (n+1)) [.va rows,.va (.tup P),.ow (.lst acc),.va I]=b0 (.nx [.va rows,.va (.tup P),.ow (.lst (acc++(.tup [I,.tup P]::(A++B)))),.va I]):=by unfold XV;subst i;simp[u,f,e,q,o,g,x,m]
  have s1:([.va rows,.va (.tup P),.ow (.lst acc),s]:Ev).set 3 (.va I)=[.va rows,.va (.tup P),.ow (.lst acc),.va I]:=rfl;rw[s1,j,VR,d];simp
def me{t:Ts}{ab:List Bool}(hd:t.dep<=7)(h:t.Wf ab)(hk:t.size<1000):X2 8 [.tup t.dats,.tup []]=b0 (.lst (t.lsd []),[]):=
 NX (t:=t) (n:=7) (p:=[]) (UI (acc:=[]) hd h (by simpa using hk))
@[simp] theorem nT{x y:Bool}:X7 (.bl x) (.bl y)=b0 (.bl (x==y)):=by cases x<;>cases y<;>kernel_rfl
noncomputable def CZ:cM->Bool
 |.int x=> !decide (x=0)
 |_=>b5
def wq(us:List cM)(c:Int):cM:=(VC us c).getD .non
def DR(us:List cM)(p:List (Int×Bool)):Bool:=p.all λq=>CZ (wq us q.1)==q.2
def QK(us:List cM)(p:List (Int×Bool)):Prop:=∀q∈p,0<=q.1/\q.1<us.length/\(wq us q.1=.non∨∃x,wq us q.1=.int x)
section
variable{ab:List Bool}{us ws:List cM}{cs:List Int}{r:Rw}{p:List (Int×Bool)}
def Ve{es:List cM}{c:Int}(a:0<=c)(h1:c<us.length):wq (us++es) c=wq us c:=by unfold wq;rw[GN a h1]
def QK.app{es:List cM}(h:QK us p):QK (us++es) p:=λq b=>by obtain⟨a,h1,h2⟩:=h q b;exact⟨a,by simp;lia,by rw[Ve a h1];exact h2⟩
theorem XZ{es:List cM}:∀{p:List (Int×Bool)},QK us p->DR (us++es) p=DR us p
 |[],_=>rfl
 |q::p,h=>by obtain⟨c,h1,_⟩:=h q Aw;have a:=XZ (es:=es) (p:=p) λx b=>h x (Ap _ b);unfold DR at a⊢;rw[Jb,Jb,a,Ve c h1]
def Xi{c:Int}(a:0<=c)(h1:c<us.length):VC us c=b0 (wq us c):=by
 obtain⟨k,rfl⟩:=Fb a;have h1:k<us.length:=by lia
 have e:=M3 (Cm h1);unfold wq;rw[e];rfl
abbrev PF:VF:=f2 X7 (f2 QW (f2 bX (fO 0) (fV 1)) (fC (.int 0))) (fV 2)
theorem N3:∀{p:List (Int×Bool)}{acc:List cM},QK us p->acc.length+p.length<1000->ZK 1 2 (OC 2 (bG (gN 1) (bG (gN 2) Y4))) V6 PF (YL p) acc [.ow (.lst us)]=b0 (acc++p.map (λq=>.bl (CZ (wq us q.1)==q.2)),[.ow (.lst us)])
 |[],acc,_,_=>by simp
 | (c,b) :: p,acc,h,hk => by
  simp only[Bg]at hk;obtain⟨j,h1,h2⟩:=h (c,b) Aw;have hw:=Xi j h1;have a:=N3 (p:=p) (acc:=acc++[.bl (CZ (wq us c)==b)]) (λx e=>h x (Ap _ e)) (by simp;lia);have i:acc.length<16777216:=by lia
  have d:QW (wq us c) (.int 0)=b0 (.bl (CZ (wq us c))):=by
   rcases h2 with h2|⟨x,h2⟩
   ·rw[h2];rfl
   ·rw[h2];simp[CZ]
  simp only at hw;generalize f:wq us c=v at hw d a;generalize g:CZ v=k at d a;simp[hw,d,i,GD,a,f,g]
theorem CF:∀{p:List (Int×Bool)},OJ (p.map λq=>cM.bl (CZ (wq us q.1)==q.2))=b0 (p.map λq=>CZ (wq us q.1)==q.2)
 |[]=>rfl
 |q::p=>by simp[OJ,CF (p:=p)]
def MZ(rws:cM)(cs:List cM)(ws:List cM)(a b c d e:Sl):Ev:=
 [.va rws,.ow (.lst cs),.ow (.lst ws),a,b,c,d,e]
noncomputable abbrev GT:VG:=OC 2 (bG (gN 3) (bG (OC 2 (bG (gN 4) (bG (gN 5) Y4))) Y4))
def AK{rws:cM}{cs ws:List cM}{a b c d e:Sl}{i r p:cM}:GT (.tup [i,.tup [r,p]]) (MZ rws cs ws a b c d e)=b0 (MZ rws cs ws (.va i) (.va r) (.va p) d e):=by simp[MZ]
theorem k5(h:r.Ok (Ab ab))(W:Ws ab ws)(g:QK ws p)(k:p.length<1000)(j:DR ws p=b5)(hl:ws.length<16777216)(rws i:cM)(d e:Sl):aQ (MZ rws (cs.map .int) ws (.va i) (.va r.dat) (.va (.tup (YL p))) d e)=match UP (wv ws) cs r with
  |.ok m cs'=>b0 (.nx (MZ rws (cs'.map .int) (ws++[m]) (.va i) (.va r.dat) (.va (.tup (YL p))) (.va m) (.va .non)))
  |.bad s=>b0 (.rt (.tup [i,.str s]) (MZ rws (cs.map .int) ws (.va i) (.va r.dat) (.va (.tup (YL p))) (.va .non) (.va (.str s)))):=by
 have c:=QP (d:=.lst ws) (ws:=ws) Rw.nl λa b=>by rw[Vo];exact(W.word (h.nm a b)).1
 have p2:=Xu (cs:=cs) h λa b=>(W.word (h.nm a b)).2;have f:=h.names.1;have hi:=h.noif;have pc:=N3 g (acc:=[]) (by simpa using k);rw[Dc]at pc;have pb:=CF (us:=ws) (p:=p);have pa:(p.map λq=>CZ (wq ws q.1)==q.2).all id=b5:=by rw[<-j];unfold DR;rw[Mb];rfl
 generalize (p.map λq=>cM.bl (CZ (wq ws q.1)==q.2))=bs at pc pb;generalize (p.map λq=>CZ (wq ws q.1)==q.2)=ks at pb pa;generalize YL p=P at pc⊢;generalize (r.nms.map (wv ws)).map cM.int=zs at c p2;unfold aQ;cases e:UP (wv ws) cs r with
 |ok m cs'=>rw[e]at p2;simp[MZ,f,Z7,c,p2,MS.out,hl,hi,pc,pb,pa]
 |bad s=>rw[e]at p2;simp[MZ,f,Z7,c,p2,MS.out,hi,pc,pb,pa]
def mP(hi:¬r.hd= "if")(a:QK us p)(c:p.length<1000)(b:DR us p=ba)(hl:us.length<16777216)(rws i:cM)(d e:Sl):aQ (MZ rws (cs.map .int) us (.va i) (.va r.dat) (.va (.tup (YL p))) d e)=b0 (.nx (MZ rws (cs.map .int) (us++[.non]) (.va i) (.va r.dat) (.va (.tup (YL p))) (.va .non) (.va .non))):=by
 have pc:=N3 a (acc:=[]) (by simpa using c);rw[Dc]at pc;have pb:=CF (us:=us) (p:=p);have pa:(p.map λq=>CZ (wq us q.1)==q.2).all id=ba:=by rw[<-b];unfold DR;rw[Mb];rfl
 generalize (p.map λq=>cM.bl (CZ (wq us q.1)==q.2))=bs at pc pb;generalize (p.map λq=>CZ (wq us q.1)==q.2)=ks at pb pa;generalize YL p=P at pc⊢;unfold aQ;simp[MZ,Z7,hi,pc,pb,pa,hl]
def F2{c:Int}{x y P:cM}(hl:ws.length<16777216)(rws i:cM)(d e:Sl):aQ (MZ rws (cs.map .int) ws (.va i) (.va (.tup [.str "if",.int c,x,y])) (.va P) d e)=b0 (.nx (MZ rws (cs.map .int) (ws++[.non]) (.va i) (.va (.tup [.str "if",.int c,x,y])) (.va P) (.va .non) (.va .non))):=by unfold aQ;simp[MZ,hl]
end
section
variable{cs:List Int}
def Wn(us:List cM):Prop:=∀d∈us,d=.non∨∃x,d=.int x
def Wn.non{us:List cM}(h:Wn us)(k:Nat):Wn (us++Ak k .non):=λd hd=>by
 rcases Bo.mp hd with z|z
 ·exact h d z
 ·exact .inl (Ed z)
def Wn.at_{us:List cM}(h:Wn us){c:Int}(a:0<=c)(h1:c<us.length):wq us c=.non∨∃x,wq us c=.int x:=by
 have e:=Xi a h1;obtain⟨k,rfl⟩:=Fb a;have h1:k<us.length:=by lia
 have d:=M3 (Cm h1);have b:wq us (k:Int)=us[k]:=by unfold wq;rw[d];rfl
 rw[b];exact h _ (Gz h1)
def FD{us:List cM}{p:List (Int×Bool)}{q:Int×Bool}:DR us (p++[q])=(DR us p&&(CZ (wq us q.1)==q.2)):=by unfold DR;rw[List.all_append,Jb,List.all_nil,Bool.and_true]
def QK.snoc{us:List cM}{p:List (Int×Bool)}{c:Int}{b:Bool}(h:QK us p)(w:Wn us)(a:0<=c)(h1:c<us.length):QK us (p++[(c,b)]):=λq d=>by
 rcases Bo.mp d with z|z
 ·exact h q z
 ·rw[An.mp z]
  exact⟨a,h1,w.at_ a h1⟩
def LP{us:List cM}{k:Nat}:us++[.non]++Ak k cM.non=us++Ak (1+k) .non:=by rw[Ar,Kb,Cy];rfl
inductive SkR(L:List cM)(δ:Ev)(k:Nat)(us:List cM)(rws:cM)(cs:List Int)(tl:List cM):Prop
 |mk (a' b' c' d' e':Sl) (q:Y3 GT aQ L δ=Y3 GT aQ (Y6 (us.length+k) tl) (MZ rws (cs.map .int) (us++Ak k .non) a' b' c' d' e')):SkR L δ k us rws cs tl
theorem V3:∀{t:Ts}{ab:List Bool}{p:List (Int×Bool)}{us tl:List cM},t.Wf ab->ab.length=us.length->Wn us->QK us p->DR us p=ba->us.length+2*t.size+p.length<1000->∀rws a b c d e,SkR (Y6 us.length (t.lsd p++tl)) (MZ rws (cs.map .int) us a b c d e) t.size us rws cs tl
 |.nil,ab,p,us,tl,_,_,_,_,_,_,rws,a,b,c,d,e=>⟨a,b,c,d,e,by simp[Ts.lsd,Ts.size]⟩
 |.row r t,ab,p,us,tl,⟨h1,h2⟩,hl,w,f,i,hk,rws,a,b,c,d,e=>by simp only[Ts.size]at hk⊢;have st:=mP (cs:=cs) h1.noif f (by lia) i (by lia) rws (.int us.length) d e;obtain⟨Q,L,H,d',A,l⟩:=V3 (t:=t) (us:=us++[.non]) (tl:=tl) h2 (by simp[hl]) (w.non 1) f.app (by rw[XZ f];exact i) (by simp;lia) rws (.va (.int us.length)) (.va r.dat) (.va (.tup (YL p))) (.va .non) (.va .non);refine⟨Q,L,H,d',A,?_⟩;rw[Ts.lsd,Ep,V0,YT,AK,W9,st,VR];rw[LP,Ay,Bp]at l;rw[l,Nq]
 |.ifs k x y t,ab,p,us,tl,⟨hc,h1,h2,s⟩,hl,w,f,i,hk,rws,a,b,c,d,e=>by
  simp only[Ts.size]at hk⊢;have h:=hc.1;have g:k<us.length:=by have:=hc.lt;rw[hl]at this;exact this
  have st:=F2 (cs:=cs) (c:=k) (x:=.tup x.dats) (y:=.tup y.dats) (P:=.tup (YL p)) (ws:=us) (by lia) rws (.int us.length) d e;have q:=(f.snoc (b:=b5) w h g).app (es:=[.non]);have p2:=(f.snoc (b:=ba) w h g).app (es:=[.non]);have j:∀b,DR us (p++[(k,b)])=ba:=λb=>by rw[FD,i];rfl
  obtain⟨O,K,G,D,z,o⟩:=V3 (t:=x) (us:=us++[.non]) (p:=p++[(k,b5)]) (tl:=y.lsd (p++[(k,ba)])++(t.lsd p++tl)) h1 (by simp[hl]) (w.non 1) q (by rw[XZ (f.snoc w h g)];exact j _) (by simp;lia) rws (.va (.int us.length)) (.va (.tup [.str "if",.int k,.tup x.dats,.tup y.dats])) (.va (.tup (YL p))) (.va .non) (.va .non);rw[LP,Ay,Bp]at o;obtain⟨N,J,F,C,v,n⟩:=V3 (t:=y) (us:=us++Ak (1+x.size) .non) (p:=p++[(k,ba)]) (tl:=t.lsd p++tl) h2 (by simp[hl];lia) (w.non _) (f.snoc w h g).app (by rw[XZ (f.snoc w h g)];exact j _) (by simp;lia) rws O K G D z;rw[Ar,Fv,Ay,Et]at n;obtain⟨M,I,E,B,u,m⟩:=V3 (t:=t) (us:=us++Ak (1+x.size+y.size) .non) (p:=p) (tl:=tl) s (by simp[hl];lia) (w.non _) f.app (by rw[XZ f];exact i) (by simp;lia) rws N J F C v;rw[Ar,Fv,Ay,Et]at m;refine⟨M,I,E,B,u,?_⟩;rw[Ts.lsd,Ep,V0,YT,AK,W9,st,VR,Ar,Ar,o];rw[show us.length+1+x.size=us.length+(1+x.size) by lia,n,show us.length+(1+x.size)+y.size=us.length+(1+x.size+y.size) by lia,m];rw[show us.length+(1+x.size+y.size)+t.size=us.length+(1+(x.size+y.size)+t.size) by lia,show 1+x.size+y.size+t.size=1+(x.size+y.size)+t.size by lia]
end
def Ws.offs{ab:List Bool}{ws es:List cM}{k:Nat}(W:Ws ab ws)(hl:es.length=k):Ws (ab++YS k) (ws++es):=by
 refine⟨by simp[W.len,hl],λa b=>?_⟩;have c:=b.1;by_cases hi:a.toNat<ab.length
 ·have h1 : Ab ab a := ⟨c,by have := b.2;rwa [Ae hi]at this⟩
  obtain⟨x,d,e⟩:=W.wd a h1;exact⟨x,d,by rw[GN c (W.lt h1)];exact e⟩
 ·have e:=b.2
  rw[At (by lia)]at e;have:=Ed (Cn e)
  cases this
noncomputable def Ts.run:Ts->List cM->List Int->Out
 |.nil,ws,cs=>⟨ws,cs,b3⟩
 |.row r t,ws,cs=>match UP (wv ws) cs r with
  |.ok m cs'=>t.run (ws++[m]) cs'
  |.bad s=>⟨ws,cs,b0 s⟩
 | .ifs c a b t,ws,cs => if wv ws c = 0 then
   (if(b.run (ws++Ak (1+a.size) .non) cs).er=b3 then t.run (b.run (ws++Ak (1+a.size) .non) cs).ws (b.run (ws++Ak (1+a.size) .non) cs).cs else b.run (ws++Ak (1+a.size) .non) cs)
  else
   (if(a.run (ws++[.non]) cs).er=b3 then t.run ((a.run (ws++[.non]) cs).ws++Ak b.size .non) (a.run (ws++[.non]) cs).cs else a.run (ws++[.non]) cs)
structure RunK(t:Ts)(ab:List Bool)(ws:List cM)(cs:List Int)(o:Out):Prop where
 len:o.cs.length=cs.length
 ok:∀c∈o.cs,Wd c
 all:o.er=b3->Ws (t.sgt ab) o.ws/\∃ex,o.ws=ws++ex/\ex.length=t.size
def UY{ab:List Bool}{n:Nat}:ab++[ba]++YS n=ab++YS (1+n):=by rw[Ar,Kb,YS,YS,Cy];rfl
def P0{ab:List Bool}{n m:Nat}:ab++YS n++YS m=ab++YS (n+m):=by rw[Ar,YS,YS,YS,Fv]
theorem XM:∀{t:Ts}{ab:List Bool}{ws:List cM}{cs:List Int},t.Wf ab->Ws ab ws->(∀c∈cs,Wd c)->RunK t ab ws cs (t.run ws cs)
 |.nil,ab,ws,cs,_,W,d=>⟨rfl,d,λ_=>⟨W,[],by simp[Ts.run],rfl⟩⟩
 | .row r t,ab,ws,cs,⟨h1,h2⟩,W,d => by
  unfold Ts.run;cases e:UP (wv ws) cs r with
  |bad s=>exact⟨rfl,d,λz=>nomatch z⟩
  |ok m cs'=>
   obtain⟨v,h,_,g⟩:=HV h1 (λa x=>(W.word (h1.nm a x)).2) d e;obtain⟨q1,q2,q3⟩:=XM (t:=t) h2 (W.snoc g) h;refine⟨q1.trans v,q2,λz=>?_⟩;obtain⟨w,ex,f,j⟩:=q3 z;exact⟨w,m::ex,by rw[f];simp,by simp[Ts.size,j];lia⟩
 | .ifs c a b t,ab,ws,cs,⟨hc,h1,h2,n⟩,W,d => by
  unfold Ts.run;rw[UY,P0]at n;rw[UY]at h2;split
  ·have k := XM (t := b) (ws := ws ++ Ak (1 + a.size) .non) h2 (W.offs (by simp)) d
   generalize b.run (ws++Ak (1+a.size) .non) cs=o at k;obtain⟨h,g,l⟩:=k;split
   ·rename_i i
    obtain⟨_,ex,f,j⟩:=l i;rw[Ar]at f;obtain⟨q1,q2,q3⟩:=XM (t:=t) (ws:=o.ws) (cs:=o.cs) n (by rw[f];exact W.offs (by simp[j])) g;refine⟨q1.trans h,q2,λz=>?_⟩;obtain⟨w,p,u,q⟩:=q3 z;refine⟨by rw[Ts.sgt,UY,P0];exact w,Ak (1+a.size) .non++ex++p,by rw[u,f,Ar],by simp[Ts.size,j,q];lia⟩
   ·rename_i i
    exact⟨h,g,λz=>absurd z i⟩
  ·have k:=XM (t:=a) (ws:=ws++[.non]) h1 (W.offs (k:=1) rfl) d
   generalize a.run (ws++[.non]) cs=o at k;obtain⟨h,g,l⟩:=k;split
   ·rename_i i
    obtain⟨_,ex,f,j⟩:=l i;rw[Ar]at f;obtain⟨q1,q2,q3⟩:=XM (t:=t) (ws:=o.ws++Ak b.size .non) (cs:=o.cs) n (by rw[f,Ar];exact W.offs (by simp[j];lia)) g;refine⟨q1.trans h,q2,λz=>?_⟩;obtain⟨w,p,u,q⟩:=q3 z;refine⟨by rw[Ts.sgt,UY,P0];exact w,[.non]++ex++Ak b.size .non++p,by rw[u,f];simp,by simp[Ts.size,j,q];lia⟩
   ·rename_i i
    exact⟨h,g,λz=>absurd z i⟩
def Wx{w:Int->Int}{cs cs':List Int}{r:Rw}{m:cM}(e:UP w cs r=.ok m cs'):m=.non∨∃x,m=.int x:=by
 cases r<;>unfold UP at e<;>(repeat' split at e)<;>cases e<;>first|exact .inl rfl|exact .inr ⟨_,rfl⟩
def Wn.snoc{us:List cM}{m:cM}(h:Wn us)(k:m=.non∨∃x,m=.int x):Wn (us++[m]):=λd hd=>by
 rcases Bo.mp hd with z|z
 ·exact h d z
 ·rw[An.mp z];exact k
theorem QN:∀{t:Ts}{ws:List cM}{cs:List Int},Wn ws->Wn (t.run ws cs).ws
 |.nil,ws,cs,h=>h
 |.row r t,ws,cs,h=>by
  unfold Ts.run;cases e:UP (wv ws) cs r with
  |bad s=>exact h
  |ok m cs'=>exact QN (t:=t) (h.snoc (Wx e))
 | .ifs c a b t,ws,cs,h => by
  have d:=QN (t:=b) (cs:=cs) (h.non (1+a.size));have f:=QN (t:=a) (cs:=cs) (h.non 1);unfold Ts.run;split
  ·split
   ·exact QN (t:=t) d
   ·exact d
  ·split
   ·exact QN (t:=t) (Wn.non f b.size)
   ·exact f
def lu{ab:List Bool}{ws:List cM}{c:Int}(W:Ws ab ws)(h:Ab ab c):wq ws c=.int (wv ws c):=by have e:=(W.word h).1;unfold wq;rw[e];rfl
section
inductive DoR(L:List cM)(δ:Ev)(t:Ts)(ws:List cM)(cs:List Int)(rws:cM)(tl:List cM):Prop
 |mk (a' b' c' d' e':Sl) (q:Y3 GT aQ L δ=match(t.run ws cs).er with
  |none=>Y3 GT aQ (Y6 (t.run ws cs).ws.length tl) (MZ rws ((t.run ws cs).cs.map .int) (t.run ws cs).ws a' b' c' d' e')
  |some s=>b0 (.rt (.tup [.int (t.run ws cs).ws.length,.str s]) (MZ rws ((t.run ws cs).cs.map .int) (t.run ws cs).ws a' b' c' d' e'))):DoR L δ t ws cs rws tl
theorem Q9:∀{t:Ts}{ab:List Bool}{p:List (Int×Bool)}{ws tl:List cM}{cs:List Int},t.Wf ab->Ws ab ws->Wn ws->(∀c∈cs,Wd c)->QK ws p->DR ws p=b5->ws.length+2*t.size+p.length<1000->∀rws a b c d e,DoR (Y6 ws.length (t.lsd p++tl)) (MZ rws (cs.map .int) ws a b c d e) t ws cs rws tl
 |.nil,ab,p,ws,tl,cs,_,_,_,_,_,_,_,rws,a,b,c,d,e=>⟨a,b,c,d,e,by simp[Ts.lsd,Ts.run]⟩
 | .row r t,ab,p,ws,tl,cs,⟨h1,h2⟩,W,w,f,l,v,hk,rws,a,b,c,d,e => by
  simp only[Ts.size]at hk;have st:=k5 (cs:=cs) h1 W l (by lia) v (by lia) rws (.int ws.length) d e;have s1:Y3 GT aQ (Y6 ws.length ((Ts.row r t).lsd p++tl)) (MZ rws (cs.map .int) ws a b c d e)=_:=YT;rw[AK,W9,st]at s1;cases e:UP (wv ws) cs r with
  |bad s=>
   rw[e]at s1;exact⟨_,_,_,_,_,by rw[s1];simp only[Ts.run,e];rfl⟩
  |ok m cs'=>
   rw[e]at s1;have g:(Ts.row r t).run ws cs=t.run (ws++[m]) cs':=by simp only[Ts.run,e]
   obtain⟨_,J,_,k2⟩:=HV h1 (λa ha=>(W.word (h1.nm a ha)).2) f e;obtain⟨a',b',c',d',e',X⟩:=Q9 (t:=t) (p:=p) (tl:=tl) h2 (W.snoc k2) (w.snoc (Wx e)) J l.app (by rw[XZ l];exact v) (by simp;lia) rws (.va (.int ws.length)) (.va r.dat) (.va (.tup (YL p))) (.va m) (.va .non);rw[Ay,Bp]at X;exact⟨a',b',c',d',e',by rw[g,s1];exact X⟩
 | .ifs k x y t,ab,p,ws,tl,cs,⟨hc,h1,h2,N⟩,W,w,f,l,v,hk,rws,a,b,c,d,e => by
  simp only[Ts.size]at hk;rw[UY,P0]at N;rw[UY]at h2;have k0:=hc.1;have J:k<ws.length:=W.lt hc;have hw:=lu W hc;have st:=F2 (cs:=cs) (c:=k) (x:=.tup x.dats) (y:=.tup y.dats) (P:=.tup (YL p)) (ws:=ws) (by lia) rws (.int ws.length) d e;have s1:Y3 GT aQ (Y6 ws.length ((Ts.ifs k x y t).lsd p++tl)) (MZ rws (cs.map .int) ws a b c d e)=_:=YT;rw[AK,W9,st,VR]at s1;have Z:(x.lsd (p++[(k,b5)])++(y.lsd (p++[(k,ba)])++t.lsd p)).append tl=x.lsd (p++[(k,b5)])++(y.lsd (p++[(k,ba)])++(t.lsd p++tl)):=by show(_++_)++tl=_;rw[Ar,Ar]
  rw[Z]at s1;have n:∀b,QK ws (p++[(k,b)]):=λb=>l.snoc w k0 J;have j:∀b,DR ws (p++[(k,b)])=((!decide (wv ws k=0))==b):=λb=>by rw[FD,v,hw];rfl
  by_cases hz:wv ws k=0
  ·have g : (Ts.ifs k x y t).run ws cs = if (y.run (ws ++ Ak (1 + x.size) .non) cs).er = b3 then t.run (y.run (ws ++ Ak (1 + x.size) .non) cs).ws (y.run (ws ++ Ak (1 + x.size) .non) cs).cs else y.run (ws ++ Ak (1 + x.size) .non) cs := by rw [Ts.run,if_pos hz]
   obtain⟨a1,b1,c1,d1,e1,Y⟩:=V3 (cs:=cs) (t:=x) (us:=ws++[.non]) (p:=p++[(k,b5)]) (tl:=y.lsd (p++[(k,ba)])++(t.lsd p++tl)) h1 (by simp[W.len]) (w.non 1) (n b5).app (by rw[XZ (n b5),j,hz];rfl) (by simp;lia) rws (.va (.int ws.length)) (.va (.tup [.str "if",.int k,.tup x.dats,.tup y.dats])) (.va (.tup (YL p))) (.va .non) (.va .non);rw[LP,Ay,Bp]at Y;rw[Y]at s1;obtain⟨H,G,F,E,D,A⟩:=Q9 (t:=y) (ws:=ws++Ak (1+x.size) .non) (cs:=cs) (p:=p++[(k,ba)]) (tl:=t.lsd p++tl) h2 (W.offs (by simp)) (w.non _) f (n ba).app (by rw[XZ (n ba),j,hz];rfl) (by simp;lia) rws a1 b1 c1 d1 e1;have z:=XM (t:=y) (ws:=ws++Ak (1+x.size) .non) h2 (W.offs (by simp)) f;have u:=QN (t:=y) (cs:=cs) (w.non (1+x.size));rw[Ay,Et]at A;rw[show ws.length+1+x.size=ws.length+(1+x.size) by lia,A]at s1;generalize y.run (ws++Ak (1+x.size) .non) cs=o at z u s1 g;obtain⟨q1,q2,q3⟩:=z;cases h:o.er with
   |some s=>
    rw[if_neg (by rw[h];simp)]at g;exact⟨H,G,F,E,D,by rw[g,s1];simp only[h]⟩
   |none=>
    rw[if_pos h]at g;rw[h]at s1;obtain⟨_,ex,i,C⟩:=q3 h;rw[Ar]at i;have L:QK o.ws p:=by rw[i];exact l.app
    have q:DR o.ws p=b5:=by rw[i,XZ l];exact v
    obtain⟨V,U,T,S,Q,I⟩:=Q9 (t:=t) (ws:=o.ws) (cs:=o.cs) (p:=p) (tl:=tl) N (by rw[i];exact W.offs (by simp[C])) u q2 L q (by rw[i];simp[C];lia) rws H G F E D;exact⟨V,U,T,S,Q,by rw[g,s1];exact I⟩
  ·have g : (Ts.ifs k x y t).run ws cs = if (x.run (ws ++ [.non]) cs).er = b3 then t.run ((x.run (ws ++ [.non]) cs).ws ++ Ak y.size .non) (x.run (ws ++ [.non]) cs).cs else x.run (ws ++ [.non]) cs := by rw [Ts.run,if_neg hz]
   have B:(!decide (wv ws k=0))=b5:=by simp[hz]
   obtain⟨H,G,F,E,D,A⟩:=Q9 (t:=x) (ws:=ws++[cM.non]) (cs:=cs) (p:=p++[(k,b5)]) (tl:=y.lsd (p++[(k,ba)])++(t.lsd p++tl)) h1 (W.offs (es:=[cM.non]) (k:=1) rfl) (w.snoc (.inl rfl)) f (n b5).app (by rw[XZ (n b5),j,B];rfl) (by simp;lia) rws (.va (.int ws.length)) (.va (.tup [.str "if",.int k,.tup x.dats,.tup y.dats])) (.va (.tup (YL p))) (.va .non) (.va .non);have z:=XM (t:=x) (ws:=ws++[.non]) h1 (W.offs (k:=1) rfl) f;have u:Wn (x.run (ws++[.non]) cs).ws:=QN (t:=x) (cs:=cs) (w.non 1);rw[Ay,Bp]at A;rw[A]at s1;generalize x.run (ws++[.non]) cs=o at z u s1 g;obtain⟨q1,q2,q3⟩:=z;cases h:o.er with
   |some s=>
    rw[if_neg (by rw[h];simp)]at g;exact⟨H,G,F,E,D,by rw[g,s1];simp only[h]⟩
   |none=>
    rw[if_pos h]at g;rw[h]at s1;obtain⟨_,ex,i,C⟩:=q3 h;rw[Ar]at i;have K:QK o.ws (p++[(k,ba)]):=by rw[i];exact(n ba).app
    have q:DR o.ws (p++[(k,ba)])=ba:=by rw[i,XZ (n ba),j,B];rfl
    have M:o.ws.length=ws.length+(1+x.size):=by rw[i];simp[C];lia
    obtain⟨a4,b4,c4,d4,R,i4⟩:=V3 (cs:=o.cs) (t:=y) (us:=o.ws) (p:=p++[(k,ba)]) (tl:=t.lsd p++tl) h2 (by simp[M,W.len]) u K q (by simp;lia) rws H G F E D;have O:o.ws++Ak y.size cM.non=ws++([.non]++ex++Ak y.size .non):=by rw[i];simp
    obtain⟨V,U,T,S,Q,I⟩:=Q9 (t:=t) (ws:=o.ws++Ak y.size .non) (cs:=o.cs) (p:=p) (tl:=tl) N (by rw[O];exact W.offs (by simp[C];lia)) (Wn.non u _) q2 (by rw[O];exact l.app) (by rw[O,XZ l];exact v) (by simp;lia) rws a4 b4 c4 d4 R;rw[Ay,Et]at I;exact⟨V,U,T,S,Q,by rw[g,s1];exact i4.trans I⟩
end
def CO{t:Ts}{cs:List Int}(hd:t.dep<=3)(h:t.Wf [])(hk:t.size<=20)(d:∀c∈cs,Wd c):Q1 [.tup t.dats,.lst (cs.map .int)]=b0 ((t.run [] cs).fd,[.lst ((t.run [] cs).cs.map .int)]):=by
 have b:=me (t:=t) (by lia) h (by lia);obtain⟨k,j,i,g,f,q1⟩:=Q9 (t:=t) (p:=[]) (ws:=[]) (tl:=[]) (cs:=cs) h Ws.nil (λ_ h=>nomatch h) d (λ_ h=>nomatch h) rfl (by simp;lia) (.tup t.dats) .no .no .no .no .no;rw[Cz]at q1;unfold Q1;rw[b6,NQ.eq_1];generalize t.dats=a at b q1⊢;generalize t.lsd []=L at b q1;have q0:Y3 GT aQ (Y6 0 L) [.va (.tup a),.ow (.lst (cs.map .int)),.ow (.lst []),.no,.no,.no,.no,.no]=match(t.run [] cs).er with
  |none=>Y3 GT aQ (Y6 (t.run [] cs).ws.length []) (MZ (.tup a) ((t.run [] cs).cs.map .int) (t.run [] cs).ws k j i g f)
  |some s=>b0 (.rt (.tup [.int (t.run [] cs).ws.length,.str s]) (MZ (.tup a) ((t.run [] cs).cs.map .int) (t.run [] cs).ws k j i g f)):=q1
 unfold Out.fd;generalize t.run [] cs=o at q0⊢;cases e:o.er with
 |none=>
  rw[e]at q0;simp[Y6]at q0;simp[bV,b,q0,MZ]
 |some s=>
  rw[e]at q0;simp at q0;simp[bV,b,q0,MZ]
def NE{sure:Int}{t:Ts}{cs:List Int}(hd:t.dep<=3)(h:t.Wf [])(hk:t.size<=20)(b:0<=sure)(s1:sure<=64)(a:∀c∈cs,Wd c)(e:sure<=cs.length)(j:cs.length<=64):VM [.tup [.int sure,.tup t.dats],.lst (cs.map .int)]=b0 (.tup [.lst ((t.run [] cs).cs.map .int),(t.run [] cs).fd],[]):=by have i:=jH hd h hk b s1;have g:=EE a e j;have f:=CO hd h hk a;generalize t.dats=d at*;unfold VM;rw[b6];unfold QD;simp[bV,i,g,f]
theorem EX:∀{ks:List aS}{ds:List cM}{k:aS}{v:cM}{a:List aS}{b:List cM},bA ks ds k=b0 v->bA (ks++a) (ds++b) k=b0 v
 |[],_,_,_,_,_,h=>by simp[bA]at h
 |_::_,[],_,_,_,_,h=>by simp[bA]at h
 | k' :: ks,d :: ds,k,v,a,b,h => by
  by_cases e:k'=k
  ·simp[bA,e]at h⊢
   exact h
  ·simp only[bA,if_neg e]at h
   simp only[Ep,bA,if_neg e];exact EX h
theorem E1:∀{ks:List aS}{ds:List cM}{k:aS}{v:cM},ks.length=ds.length->k∉ks->bA (ks++[k]) (ds++[v]) k=b0 v
 |[],[],_,_,_,_=>by simp[bA]
 |k'::ks,d::ds,k,v,hl,a=>by have h1:¬k'=k:=λe=>a (by rw[e];exact Aw);simp only[Ep,bA,if_neg h1];exact E1 (by simpa using hl) λh=>a (Ap _ h)
structure Dr(ab:List Bool)(ws:List cM)(ks:List aS)(ds:List cM):Prop where
 len:ks.length=ds.length
 nd:ks.Nodup
 lt:∀k∈ks,∃i:Nat,k=.inl (i:Int)/\i<ws.length
 sm:ks.length<=ws.length
 at_:∀a,Ab ab a->bA ks ds (.inl a)=b0 (.int (wv ws a))
section
variable{ab:List Bool}{ws:List cM}{ks:List aS}{ds:List cM}{R:bW}{r:Rw}{cs:List Int}{c:Int}{tl:List cM}
def Dr.nin(D:Dr ab ws ks ds):(.inl (ws.length:Int):aS)∉ks:=λh=>by obtain⟨i,e,hi⟩:=D.lt _ h;injection e with e;lia
def Dr.nil:Dr [] [] [] []:=⟨rfl,.nil,(λ_ h=>nomatch h),Au _,λa h=>by have:=h.2;simp at this⟩
def Dr.snoc{b:Bool}{m:cM}(D:Dr ab ws ks ds)(W:Ws ab ws)(h:b=b5->∃x,Wd x/\m=.int x):Dr (ab++[b]) (ws++[m]) (ks++[.inl (ws.length:Int)]) (ds++[m]):=by
 refine⟨by simp[D.len],?_,λk hk=>?_,by have:=D.sm;simp;lia,λa f=>?_⟩
 ·refine Om.mpr ⟨D.nd,by simp,λx d y c => ?_⟩
  rw[An.mp c];exact λe=>D.nin (e▸d)
 ·rcases Bo.mp hk with z|z
  ·obtain⟨i,e,hi⟩:=D.lt k z
   exact⟨i,e,by simp;lia⟩
  ·exact⟨ws.length,An.mp z,by simp⟩
 ·rcases f.inv with h1|⟨h1,h2⟩
  ·rw[EX (D.at_ a h1),Vz h1.1 (W.lt h1)]
  ·obtain⟨x,_,rfl⟩:=h h2
   have e:a=ws.length:=by rw[h1,W.len]
   rw[iR e,e];exact E1 D.len D.nin
def Dr.offs{es:List cM}{bs:List Bool}(D:Dr ab ws ks ds)(W:Ws ab ws)(d:∀b∈bs,b=ba):Dr (ab++bs) (ws++es) ks ds:=by
 refine⟨D.len,D.nd,λk hk=>?_,by have:=D.sm;simp;lia,λa c=>?_⟩
 ·obtain⟨i,e,hi⟩:=D.lt k hk
  exact⟨i,e,by simp;lia⟩
 ·by_cases hi:a.toNat<ab.length
  ·have h1 : Ab ab a := ⟨c.1,by have := c.2;rwa [Ae hi]at this⟩
   rw[D.at_ a h1,Vz h1.1 (W.lt h1)]
  ·have e:=c.2
   rw[At (by lia)]at e;exact absurd (d _ (Cn e)) (by simp)
noncomputable def KD(rows:cM)(n:Nat)(ks:List aS)(ds cs:List cM)(a b c d e:Sl):Ev:=[.va rows,.va (.int n),.ow (.dct ks ds),.ow (.lst cs),a,b,c,d,e]
def Rw.Ok.isnum{M:Int->Prop}(h:r.Ok M):(∃n,r=.num n)∨¬r.hd= "number":=by
 cases r with
 |num n=>exact .inl ⟨n,rfl⟩
 |two x a b=>exact .inr (EI h.1 (by decide)).1
 |_=>exact .inr (by simp[Rw.hd])
theorem kU(h:r.Ok (Ab ab))(W:Ws ab ws)(D:Dr ab ws ks ds)(hl:ws.length<1000)(rows:cM)(b c d e:Sl):∃d' p,bH R (KD rows ws.length ks ds (cs.map .int) (.va r.dat) b c d e)=match UP (wv ws) cs r with
  |.ok m cs'=>b0 (.nx (KD rows (ws.length+1) (ks++[.inl (ws.length:Int)]) (ds++[m]) (cs'.map .int) (.va r.dat) (.va .non) c d' p))
  |.bad s=>b0 (.rt (.tup [.int ws.length,.str s]) (KD rows ws.length (ks++[.inl (ws.length:Int)]) (ds++[.non]) (cs.map .int) (.va r.dat) (.va (.tup [.int ws.length,.str s])) c d' p)):=by
 have hi:=h.noif;have g:ks.length<16777216:=by have:=D.sm;lia
 have f:=D.nd;have pn:=λm=>BC ks ds (.inl (ws.length:Int)) m D.len D.nin;have i:=OU (n:=7) (t:=.row r .nil) (WY (by simp[Ts.dep]) ⟨h,trivial⟩) (by simp[Ts.size]);simp only[Ts.dats,Ts.size,Pa]at i;rcases h.isnum with⟨n,rfl⟩|j
 ·refine⟨d,e,?_⟩
  simp only[UP];simp only[Rw.dat]at i⊢;unfold bH;simp[KD,g,f,pn,i]
 ·have l := QP (d := .dct ks ds) (ws := ws) Rw.nl λa k => by rw[dZ];exact D.at_ a (h.nm a k)
  have p2:=iP (cs:=cs) h j λa k=>(W.word (h.nm a k)).2;have o:=h.names.2;generalize (r.nms.map (wv ws)).map cM.int=zs at l p2;unfold bH;cases es:UP (wv ws) cs r with
  |ok m cs'=>rw[es]at p2;exact⟨.va m,.va .non,by simp[KD,o,Z7,l,p2,MS.out,hi,j,g,f,pn,i]⟩
  |bad s=>rw[es]at p2;exact⟨.va .non,.va (.str s),by simp[KD,o,Z7,l,p2,MS.out,hi,j,g,f,pn]⟩
def Ab.offs{ab:List Bool}{k:Nat}{a:Int}(h:Ab (ab++YS k) a):Ab ab a:=by
 by_cases hi:a.toNat<ab.length
 ·exact⟨h.1,by have:=h.2;rwa[Ae hi]at this⟩
 ·have e:=h.2
  rw[At (by lia)]at e;have:=Ed (Cn e)
  cases this
theorem Ts.sgt_ab:∀{t:Ts}{ab:List Bool}{a:Int},Ab ab a->Ab (t.sgt ab) a
 |.nil,_,_,h=>h
 |.row _ t,_,_,h=>Ts.sgt_ab (t:=t) h.app
 |.ifs _ _ _ t,_,_,h=>Ts.sgt_ab (t:=t) h.app.app.app
def Dr.weak{b:List Bool}(D:Dr ab ws ks ds)(h:∀a,Ab b a->Ab ab a):Dr b ws ks ds:=⟨D.len,D.nd,D.lt,D.sm,λa c=>D.at_ a (h a c)⟩
inductive PlR(R:bW)(L:List cM)(δ:Ev)(t:Ts)(ab:List Bool)(ws:List cM)(cs:List Int)(rows:cM)(K:Ev->Option Ou):Prop
 |mk (N':Nat) (ks':List aS) (ds':List cM) (a' b' c' d' e':Sl) (hD:(t.run ws cs).er=b3->Dr (t.sgt ab) (t.run ws cs).ws ks' ds') (q:Y3 (gN 4) (bH R) L δ=match(t.run ws cs).er with
  |none=>K (KD rows (t.run ws cs).ws.length ks' ds' ((t.run ws cs).cs.map .int) a' b' c' d' e')
  |some s=>b0 (.rt (.tup [.int (t.run ws cs).ws.length,.str s]) (KD rows N' ks' ds' ((t.run ws cs).cs.map .int) a' b' c' d' e'))):PlR R L δ t ab ws cs rows K
inductive PlS(n:Nat)(N:Int)(ks:List aS)(ds:List cM)(t:Ts)(ab:List Bool)(ws:List cM)(cs:List Int):Prop
 |mk (ks':List aS) (ds':List cM) (hD:(t.run ws cs).er=b3->Dr (t.sgt ab) (t.run ws cs).ws ks' ds') (q:a9 (n+1) [.tup t.dats,.int N,.dct ks ds,.lst (cs.map .int)]=b0 ((t.run ws cs).fd,[.dct ks' ds',.lst ((t.run ws cs).cs.map .int)])):PlS n N ks ds t ab ws cs
def HL{n:Nat}{t:Ts}{N:Int}(d:N=ws.length)(q:∀rows,PlR (a9 n) (t.dats++[]) (KD rows ws.length ks ds (cs.map .int) .no .no .no .no .no) t ab ws cs rows (Y3 (gN 4) (bH (a9 n)) [])):PlS n N ks ds t ab ws cs:=by
 subst d;obtain⟨N',a,b,i,h,g,d',f,e,q⟩:=q (.tup t.dats);refine⟨a,b,e,?_⟩;show aT 9 [2,3] (YY (a9 n)) _=_;rw[b6,YY.eq_1];unfold Out.fd;simp only[KD,Cz]at q;generalize t.dats=L at q⊢;generalize t.run ws cs=o at q⊢;cases c:o.er with
 |none=>rw[c]at q;simp at q;simp[bV,q]
 |some s=>rw[c]at q;simp[bV,q]
theorem V2:∀{t:Ts}{n:Nat}{ab:List Bool}{ws:List cM}{cs:List Int}{ks:List aS}{ds tl:List cM},n<=7->t.dep<=n->t.Wf ab->Ws ab ws->Dr ab ws ks ds->(∀c∈cs,Wd c)->ws.length+t.size<1000->∀rows a b c d e,PlR (a9 n) (t.dats++tl) (KD rows ws.length ks ds (cs.map .int) a b c d e) t ab ws cs rows (Y3 (gN 4) (bH (a9 n)) tl)
 |.nil,n,ab,ws,cs,ks,ds,tl,_,_,_,_,D,_,_,rows,a,b,c,d,e=>⟨0,ks,ds,a,b,c,d,e,λ_=>D,by simp[Ts.dats,Ts.run]⟩
 | .row r t,n,ab,ws,cs,ks,ds,tl,G,hd,⟨h1,h2⟩,W,D,h,hk,rows,a,b,c,d,e => by
  simp only[Ts.size]at hk;simp only[Ts.dep]at hd;obtain⟨d1,e1,st⟩:=kU (R:=a9 n) (cs:=cs) h1 W D (by lia) rows b c d e;have s1:Y3 (gN 4) (bH (a9 n)) ((Ts.row r t).dats++tl) (KD rows ws.length ks ds (cs.map .int) a b c d e)=_:=YT;rw[P1,W9,show(KD rows ws.length ks ds (cs.map .int) a b c d e).set 4 (.va r.dat)=KD rows ws.length ks ds (cs.map .int) (.va r.dat) b c d e from rfl,st]at s1;cases es:UP (wv ws) cs r with
  |bad s=>
   rw[es]at s1;exact⟨_,_,_,_,_,_,_,_,(λz=>by simp[Ts.run,es]at z),by rw[s1];simp only[Ts.run,es];rfl⟩
  |ok m cs'=>
   rw[es]at s1;obtain⟨_,k1,_,k2⟩:=HV h1 (λa I=>(W.word (h1.nm a I)).2) h es;obtain⟨N',L,Q,a',b',c',d',e',C,ih⟩:=V2 (t:=t) (tl:=tl) G hd h2 (W.snoc k2) (D.snoc W k2) k1 (by simp;lia) rows (.va r.dat) (.va .non) c d1 e1;rw[Ay,Bp]at ih;have f:(Ts.row r t).run ws cs=t.run (ws++[m]) cs':=by simp only[Ts.run,es]
   exact⟨N',L,Q,a',b',c',d',e',by rw[f];exact C,by rw[f,s1];exact ih⟩
 |.ifs k x y t,0,ab,ws,cs,ks,ds,tl,G,hd,_,W,D,h,hk,rows,a,b,c,d,e=>by simp only[Ts.dep]at hd;lia
 | .ifs k x y t,n + 1,ab,ws,cs,ks,ds,tl,G,hd,⟨hc,h1,h2,O⟩,W,D,h,hk,rows,a,b,c,d,e => by
  simp only[Ts.size]at hk;simp only[Ts.dep]at hd;have q:=D.at_ k hc;have l:=OU (n:=7) (t:=x) (WY (by lia) h1) (by lia);have w:=OU (n:=7) (t:=.ifs k x y .nil) (WY (by simp only[Ts.dep];lia) ⟨hc,h1,h2,trivial⟩) (by simp only[Ts.size];lia);simp only[Ts.dats,Ts.size,Pa]at w;rw[UY,P0]at O;rw[UY]at h2;have s1:Y3 (gN 4) (bH (a9 (n+1))) ((Ts.ifs k x y t).dats++tl) (KD rows ws.length ks ds (cs.map .int) a b c d e)=_:=YT;rw[P1,W9,show(KD rows ws.length ks ds (cs.map .int) a b c d e).set 4 (.va (.tup [.str "if",.int k,.tup x.dats,.tup y.dats]))=KD rows ws.length ks ds (cs.map .int) (.va (.tup [.str "if",.int k,.tup x.dats,.tup y.dats])) b c d e from rfl]at s1;by_cases hz:wv ws k=0
  ·have f : (Ts.ifs k x y t).run ws cs = if (y.run (ws ++ Ak (1 + x.size) .non) cs).er = b3 then t.run (y.run (ws ++ Ak (1 + x.size) .non) cs).ws (y.run (ws ++ Ak (1 + x.size) .non) cs).cs else y.run (ws ++ Ak (1 + x.size) .non) cs := by rw [Ts.run,if_pos hz]
   have K:=W.offs (es:=Ak (1+x.size) .non) (k:=1+x.size) (by simp);obtain⟨i,j,C,p⟩:=HL (t:=y) (n:=n) (ab:=ab++YS (1+x.size)) (ws:=ws++Ak (1+x.size) .non) (cs:=cs) (ks:=ks) (ds:=ds) (N:=(ws.length:Int)+1+x.size) (by simp;lia) λrows=>V2 (t:=y) (n:=n) (tl:=[]) (cs:=cs) (by lia) (by lia) h2 K (D.offs W (es:=Ak (1+x.size) .non) (bs:=YS (1+x.size)) λb H=>Ed H) h (by simp;lia) rows .no .no .no .no .no;have v:=XM (t:=y) h2 K h;generalize y.run (ws++Ak (1+x.size) .non) cs=o at C p v f;unfold Out.fd at p;cases g:o.er with
   |some s=>
    rw[if_neg (by rw[g];simp)]at f;refine⟨ws.length,i,j,.va (.tup [.str "if",.int k,.tup x.dats,.tup y.dats]),.va (.tup [.int o.ws.length,.str s]),.va (.int (ws.length+1+x.size)),d,e,(λz=>by rw[f,g]at z;cases z),?_⟩;rw[f,s1];rw[g]at p;generalize x.dats=X at*;generalize y.dats=Y at*;unfold bH;simp[KD,l,q,hz,p,g]
   |none=>
    rw[if_pos g]at f;obtain⟨_,ex,E,J⟩:=v.all g;have A:o.ws.length=ws.length+(1+(x.size+y.size)):=by rw[E];simp[J];lia
    have D3:Dr (ab++YS (1+x.size+y.size)) o.ws i j:=(C g).weak λa I=>Ts.sgt_ab (I.offs.app);rw[Ar]at E;obtain⟨Z,u,F,V,U,T,S,P,B,M⟩:=V2 (t:=t) (n:=n+1) (ws:=o.ws) (cs:=o.cs) (tl:=tl) G (by lia) O (by rw[E];exact W.offs (by simp[J])) D3 v.ok (by lia) rows (.va (.tup [.str "if",.int k,.tup x.dats,.tup y.dats])) (.va .non) (.va (.int (ws.length+1+x.size))) d e;refine⟨Z,u,F,V,U,T,S,P,by rw[f,Ts.sgt,UY,P0];exact B,?_⟩;rw[f,s1,<-M,A];rw[g]at p;generalize x.dats=X at*;generalize y.dats=Y at*;unfold bH;simp[KD,l,w,q,hz,p]
  ·have f : (Ts.ifs k x y t).run ws cs = if (x.run (ws ++ [.non]) cs).er = b3 then t.run ((x.run (ws ++ [.non]) cs).ws ++ Ak y.size .non) (x.run (ws ++ [.non]) cs).cs else x.run (ws ++ [.non]) cs := by rw [Ts.run,if_neg hz]
   have K:=W.offs (es:=[cM.non]) (k:=1) rfl;obtain⟨i,j,C,p⟩:=HL (t:=x) (n:=n) (ab:=ab++[ba]) (ws:=ws++[.non]) (cs:=cs) (ks:=ks) (ds:=ds) (N:=(ws.length:Int)+1) (by simp) λrows=>V2 (t:=x) (n:=n) (tl:=[]) (cs:=cs) (by lia) (by lia) h1 K (D.offs W (es:=[.non]) (bs:=YS 1) λb H=>Ed H) h (by simp;lia) rows .no .no .no .no .no;have v:=XM (t:=x) h1 K h;generalize x.run (ws++[.non]) cs=o at C p v f;unfold Out.fd at p;cases g:o.er with
   |some s=>
    rw[if_neg (by rw[g];simp)]at f;refine⟨ws.length,i,j,.va (.tup [.str "if",.int k,.tup x.dats,.tup y.dats]),.va (.tup [.int o.ws.length,.str s]),.va (.int (ws.length+1+x.size)),d,e,(λz=>by rw[f,g]at z;cases z),?_⟩;rw[f,s1];rw[g]at p;generalize x.dats=X at*;generalize y.dats=Y at*;unfold bH;simp[KD,l,q,hz,p,g]
   |none=>
    rw[if_pos g]at f;obtain⟨W3,ex,E,J⟩:=v.all g;have A:(o.ws++Ak y.size cM.non).length=ws.length+(1+(x.size+y.size)):=by rw[E];simp[J];lia
    have D3:Dr (ab++YS (1+x.size+y.size)) (o.ws++Ak y.size .non) i j:=((C g).offs W3 (bs:=YS y.size) λb H=>Ed H).weak λa I=>(Ts.sgt_ab I.offs.app).app;rw[Ar]at E;obtain⟨Z,u,F,V,U,T,S,P,B,M⟩:=V2 (t:=t) (n:=n+1) (ws:=o.ws++Ak y.size .non) (cs:=o.cs) (tl:=tl) G (by lia) O (by rw[E,Ar];exact W.offs (by simp[J];lia)) D3 v.ok (by lia) rows (.va (.tup [.str "if",.int k,.tup x.dats,.tup y.dats])) (.va .non) (.va (.int (ws.length+1+x.size))) d e;refine⟨Z,u,F,V,U,T,S,P,by rw[f,Ts.sgt,UY,P0];exact B,?_⟩;rw[f,s1,<-M,A];rw[g]at p;generalize x.dats=X at*;generalize y.dats=Y at*;unfold bH;simp[KD,l,w,q,hz,p]
def jK{t:Ts}(hd:t.dep<=3)(h:t.Wf [])(hk:t.size<=20)(a:∀c∈cs,Wd c):∃d',a9 8 [.tup t.dats,.int 0,.dct [] [],.lst (cs.map .int)]=b0 ((t.run [] cs).fd,[d',.lst ((t.run [] cs).cs.map .int)]):=by obtain⟨b,d,_,p⟩:=HL (t:=t) (n:=7) (ab:=[]) (ws:=[]) (cs:=cs) (ks:=[]) (ds:=[]) (N:=0) rfl λrows=>V2 (t:=t) (n:=7) (tl:=[]) (cs:=cs) (by lia) (by lia) h Ws.nil Dr.nil a (by simp;lia) rows .no .no .no .no .no;exact⟨_,p⟩
end
def isW:Kd->Bool
 |.w=>b5
 |_=>ba
def ZZ.rw{M:Int->Prop}{row:cM}(h:ZZ M row):∃r:Rw,row=r.dat/\r.Ok M/\isW (JG .w row)=r.mk:=by
 cases h with
 | @number n a b=>exact⟨.num n,rfl,⟨a,b⟩,by kernel_rfl⟩
 | @two x a b g d f=>
  refine⟨.two x a b,rfl,⟨g,d,f⟩,?_⟩;rcases d7 g with rfl|rfl|rfl|rfl|rfl|rfl|rfl<;>kernel_rfl
 | @pick c a b hc d f=>exact⟨.pick c a b,rfl,⟨hc,d,f⟩,by kernel_rfl⟩
 | @load p a b=>exact⟨.load p,rfl,⟨a,b⟩,by kernel_rfl⟩
 | @take p c a e h1 hc d=>exact⟨.take p c a,rfl,⟨⟨e,h1⟩,hc,d⟩,by kernel_rfl⟩
 | @store p a e h1 d=>exact⟨.store p a,rfl,⟨⟨e,h1⟩,d⟩,by kernel_rfl⟩
 | @put p a c e h1 d hc=>exact⟨.put p a c,rfl,⟨⟨e,h1⟩,d,hc⟩,by kernel_rfl⟩
def Rw.Ok.wr{M:Int->Prop}{r:Rw}(h:r.Ok M):(!decide ("store"=r.hd)&&!decide ("put"=r.hd))=r.mk:=by
 cases r with
 |two x a b=>
  have d:=(EI h.1 (y:= "store") (by decide)).2;have c:=(EI h.1 (y:= "put") (by decide)).2;simp[Rw.hd,Rw.mk,d,c]
 |_=>simp[Rw.hd,Rw.mk]
section
variable{ns:List Int}{room:Int}{deep:Nat}
def sD(N:Nat)(zs:List Int):cM:=.nst [b3,b0 zs.length] (.int N::zs.map .int)
noncomputable def L1(ns:List Int)(n:Nat)(m:Int)(deep N:Nat)(zs:List Int)(room:Int)(rows:List cM)(a b c d e f g:Sl):Ev:=
 [.va (WK ns),.ow (X3 n),.va (.int m),.va (.int deep),.ow (sD N zs),.va (.int room),.ow (.lst rows),a,b,c,d,e,f,g]
def ma(zs:List Int):QW (.lst (zs.map .int)) (.lst [])=b0 (.bl (!zs.isEmpty)):=by
 have e:=RZ zs;have b:QT 1 (.lst (zs.map .int)):=XY λd hd=>by obtain⟨c,_,rfl⟩:=Cs.mp hd;exact ZT
 have a:QT 1 (.lst []):=XY YE;rw[Te b a]at e;rw[JI b a];injection e with e;injection e with e;rw[e]
noncomputable abbrev Tst:VB:=UF (fB (f2 QW (fNl 4 1) (ZA bS))) (UF (fB (f2 oLt (fV 3) (fC (.int 3)))) (UF (fB (f2 oGt (fV 2) (fC (.int 1)))) (fB (f2 X7 (cA 3 [1] bB (aE (fV 0) (aO 1 (aE (fC (.int 4)) bR)))) (fC (.int 0))))))
def UQ{zs:List Int}:(zs.map cM.int).take zs.length=zs.map .int:=Bx (by simp)
def IS{zs:List Int}:(zs.map cM.int).drop zs.length=[]:=List.drop_of_length_le (by simp)
def ji{n N:Nat}{m:Int}{zs:List Int}{rows:List cM}(hl:ns.length<=63)(p:n<700000)(a b c d e f g:Sl):∃j t,(t=b5->0<zs.length/\deep<3/\1<m)/\n<=j/\j<=n+1/\Tst (L1 ns n m deep N zs room rows a b c d e f g)=b0 (t,L1 ns j m deep N zs room rows a b c d e f g):=by
 have i:=ma zs;have tk:=UQ (zs:=zs);cases zs with
 |nil=>exact⟨n,ba,by simp,by lia,by lia,by simp at i;simp[L1,sD,i]⟩
 |cons z zs=>
  generalize hz:z::zs=ys at*;have l:0<ys.length:=by rw[<-hz];simp
  have k:ys.isEmpty=ba:=by rw[<-hz];rfl
  rw[k]at i;simp only[L1,sD];generalize ys.map cM.int=Z at*;by_cases h1:deep<3
  ·have h : (deep : Int) < 3 := by lia
   by_cases h2:1<m
   ·have o := Y2 ns n 4 hl (by lia) (by decide)
    refine⟨n+1,decide (M7 ns n 4=0),λ_=>⟨l,h1,h2⟩,by lia,by lia,?_⟩;simp[tk,i,h,h2,o]
   ·exact⟨n,ba,by simp,by lia,by lia,by simp[tk,i,h,h2]⟩
  ·have h : ¬ (deep : Int) < 3 := by lia
   exact⟨n,ba,by simp,by lia,by lia,by simp[tk,i,h]⟩
def lY{R:bW}{n i N:Nat}{m:Int}{zs:List Int}{rows:List cM}{a b c d e f g:Sl}(hl:ns.length<=63)(x:i<600000)(v:0<room)(o:room<=64)(hz:zs.length<1000)(hw:rows.length<1000)(p:Tst (L1 ns n m deep N zs room rows a b c d e f g)=b0 (ba,L1 ns i m deep N zs room rows a b c d e f g)):∃(r:Rw) (n':Nat),r.Ok (· ∈zs)/\i<=n'/\n'<=i+10/\ZV R (L1 ns n m deep N zs room rows a b c d e f g)=b0 (.nx (L1 ns n' (m-1) deep (N+1) (if r.mk=b5 then zs++[(N:Int)]else zs) room (rows++[r.dat]) a b c d e f (.va r.dat))):=by
 obtain⟨row,n',u,h1,h2,_,w,_,s⟩:=Vr ns i zs (.dct [] []) room hl (by lia) ⟨[],[],rfl,rfl,Qw,Dx _⟩ v o;obtain⟨r,rfl,q,_⟩:=w.rw;refine⟨r,n',q,h1,h2,?_⟩;have h:=q.wr;have tk:=UQ (zs:=zs);have t:=IS (zs:=zs);have l:(zs.map cM.int).length=zs.length:=by simp
 have k:zs.length<16777216:=by lia
 have j:rows.length<16777216:=by lia
 unfold ZV;unfold Tst at p;rw[Wi,p];cases hk:r.mk with
 |true=>
  rw[hk]at h;simp only[if_true];simp only[L1,sD,Ft,Ba,By,Ay,Bp];generalize zs.map cM.int=Z at*;simp[tk,t,s,h,l,k,j]
 |false=>
  rw[hk]at h;simp only[Du,if_false];simp only[L1,sD];generalize zs.map cM.int=Z at*;simp[tk,t,s,h,j]
inductive RSr(ns:List Int)(room:Int)(deep:Nat)(R:bW)(ab:List Bool)(zs:List Int)(n ag:Nat):Prop
 |mk (t:Ts) (n':Nat) (h1:t.Wf ab) (h2:t.size=ag) (h3:t.dep+deep<=3) (h4:n'<=n+12*ag) (h5:R [WK ns,X3 n,.int ag,.int deep,sD ab.length zs,.int room]=b0 (.tup t.dats,[X3 n',sD (ab.length+ag) zs])):RSr ns room deep R ab zs n ag
abbrev RSp(ns:List Int)(room:Int)(deep:Nat)(R:bW):Prop:=∀(ab:List Bool) (zs:List Int) (n a:Nat),(∀z∈zs,Ab ab z)->zs.length<=ab.length->ab.length+a<=16->n+12*a<500000->RSr ns room deep R ab zs n a
inductive SIf(R:bW)(ns:List Int)(room:Int)(deep m n1:Nat)(ab:List Bool)(zs:List Int)(rows:List cM)(a g:Sl)(δ:Ev):Prop
 |mk (k:Int) (x y:Ts) (n':Nat) (b' c' d' e' f':Sl) (h1:Ab ab k) (h2:x.Wf (ab++[ba])) (h3:y.Wf (ab++[ba]++YS x.size)) (h4:1+(x.size+y.size)<=m) (h5:1+max x.dep y.dep+deep<=3) (h6:n'<=n1+2+12*(x.size+y.size)) (h7:ZV R δ=b0 (.nx (L1 ns n' ((m-(1+(x.size+y.size)):Nat):Int) deep (ab.length+(1+(x.size+y.size))) zs room (rows++[.tup [.str "if",.int k,.tup x.dats,.tup y.dats]]) a b' c' d' e' f' g))):SIf R ns room deep m n1 ab zs rows a g δ
def m8{R:bW}{n o m:Nat}{ab:List Bool}{zs:List Int}{rows:List cM}{a b c d e f g:Sl}(E:RSp ns room (deep+1) R)(hl:ns.length<=63)(V:o+12*m<500001)(W:1<m)(hz:∀z∈zs,Ab ab z)(O:zs.length<=ab.length)(t:0<zs.length)(hk:ab.length+m<=16)(hw:rows.length<1000)(D:Tst (L1 ns n m deep ab.length zs room rows a b c d e f g)=b0 (b5,L1 ns o m deep ab.length zs room rows a b c d e f g)):SIf R ns room deep m o ab zs rows a g (L1 ns n m deep ab.length zs room rows a b c d e f g):=by
 obtain⟨q,P,Q⟩:=X0 ns o (zs.map .int) hl (by lia) (by simpa using t);obtain⟨k,v,rfl⟩:=Cs.mp P;have F:=Y2 ns (o+1) m hl (by lia) (by lia);have d0:=TL ns (o+1) (b:=m) (by lia);have S:=M8 ns (o+1) (b:=m) (by lia);obtain⟨i,hi⟩:=Fb d0;rw[hi]at F S;obtain⟨x,N,L,K,U,J,s⟩:=E (ab++[ba]) zs (o+2) (i-i/2) (λz h=>(hz z h).app) (by simp;lia) (by simp;lia) (by lia);obtain⟨y,M,I,H,T,G,r⟩:=E (ab++[ba]++YS x.size) zs N (i/2) (λz h=>(hz z h).app.app) (by simp;lia) (by simp;lia) (by lia);have p:x.size+y.size=i:=by lia
 have f1:(i:Int)/2=((i/2:Nat):Int):=by lia
 have w:(i:Int)-((i/2:Nat):Int)=((i-i/2:Nat):Int):=by lia
 have f3:((m-(1+i):Nat):Int)=(m:Int)-1-i:=by lia
 have C:(ab++[ba]).length=ab.length+1:=by simp
 have B:(ab++[ba]++YS x.size).length=ab.length+1+(i-i/2):=by simp;lia
 have A:ab.length+1+(i-i/2)+i/2=ab.length+(1+i):=by lia
 rw[C]at s;rw[B,A]at r;refine⟨k,x,y,M,.va (.int k),.va (.int i),.va (.int ((i/2:Nat):Int)),.va (.tup x.dats),.va (.tup y.dats),hz k v,L,I,by lia,by lia,by lia,?_⟩;have tk:=UQ (zs:=zs);have u:rows.length<16777216:=by lia
 unfold ZV;unfold Tst at D;rw[Wi,D,p,f3];simp only[L1,sD]at s r⊢;generalize zs.map cM.int=Z at*;generalize x.dats=X at*;generalize y.dats=Y at*;clear p C B A K J H G;generalize i-i/2=l at*;generalize i/2=j at*;simp only[Int.natCast_add,Int.natCast_one]at s r;simp[cM.hard,GQ,tk,Q,F,f1,w,s,r,u]
inductive RLp(R:bW)(q:Nat)(ns:List Int)(room:Int)(deep m n:Nat)(ab:List Bool)(zs:List Int)(rows:List cM)(a:Sl)(δ:Ev):Prop
 |mk (t:Ts) (n':Nat) (ex:List Int) (b' c' d' e' f' g':Sl) (h1:t.Wf ab) (h2:t.size=m) (h3:t.dep+deep<=3) (h4:n'<=n+12*m) (h5:Z4 (fB (f2 oGt (fV 2) (fC (.int 0)))) (ZV R) (q+1) δ=b0 (.nx (L1 ns n' 0 deep (ab.length+m) (zs++ex) room (rows++t.dats) a b' c' d' e' f' g'))):RLp R q ns room deep m n ab zs rows a δ
theorem HQ{R:bW}(hl:ns.length<=63)(u:0<room)(i:room<=64)(hd:deep<=3)(w:deep<3->RSp ns room (deep+1) R):∀(q m:Nat) {ab:List Bool}{zs:List Int}{n:Nat}{rows:List cM},m<=q->(∀z∈zs,Ab ab z)->zs.length<=ab.length->ab.length+m<=16->rows.length+m<=100->n+12*m<500000->∀a b c d e f g,RLp R q ns room deep m n ab zs rows a (L1 ns n m deep ab.length zs room rows a b c d e f g)
 |q,0,ab,zs,n,rows,_,_,_,_,_,_,a,b,c,d,e,f,g=>⟨.nil,n,[],b,c,d,e,f,g,trivial,rfl,by simpa[Ts.dep]using hd,by lia,by rw[PU (δ1:=L1 ns n 0 deep ab.length zs room rows a b c d e f g) (by simp[L1])];simp[Ts.dats]⟩
 |0,m+1,ab,zs,n,rows,h,_,_,_,_,_,a,b,c,d,e,f,g=>by lia
 | q + 1,m + 1,ab,zs,n,rows,hq,hz,p,hk,hw,hn,a,b,c,d,e,f,g => by
  have H:fB (f2 oGt (fV 2) (fC (.int 0))) (L1 ns n ((m+1:Nat):Int) deep ab.length zs room rows a b c d e f g)=b0 (b5,L1 ns n ((m+1:Nat):Int) deep ab.length zs room rows a b c d e f g):=by
   have:0<((m+1:Nat):Int):=by lia
   generalize ((m+1:Nat):Int)=M at*;simp[L1,this]
  obtain⟨n1,t,Q,t2,t3,te⟩:=ji (ns:=ns) (room:=room) (deep:=deep) (n:=n) (N:=ab.length) (m:=((m+1:Nat):Int)) (zs:=zs) (rows:=rows) hl (by lia) a b c d e f g;cases t with
  |false=>
   obtain⟨r,o,T,r1,r2,C⟩:=lY (R:=R) hl (by lia) u i (by lia) (by lia) te;have s:∀z∈(if r.mk=b5 then zs++[(ab.length:Int)]else zs),Ab (ab++[r.mk]) z:=λz h=>by
    split at h
    ·rename_i hk
     rcases Bo.mp h with h|h
     ·exact(hz z h).app
     ·rw[An.mp h,hk];exact Ab.new
    ·exact(hz z h).app
   obtain⟨t,n',ex,F,E,d',D,A,g',l,P,G,O,j⟩:=HQ hl u i hd w q m (n:=o) (rows:=rows++[r.dat]) (by lia) s (by split<;>simp<;>lia) (by simp;lia) (by simp;lia) (by lia) a b c d e f (.va r.dat);refine⟨.row r t,n',(if r.mk=b5 then[(ab.length:Int)]else[])++ex,F,E,d',D,A,g',⟨T.imp hz,l⟩,by simp only[Ts.size];lia,by simp only[Ts.dep];exact G,by lia,?_⟩;rw[PV H C,show((m+1:Nat):Int)-1=m by lia];rw[Ay,Bp]at j;rw[j,show ab.length+1+m=ab.length+(m+1) by lia];rw[Ts.dats,Ar,Iq];split<;>simp
  |true=>
   obtain⟨J,I,Y⟩:=Q rfl;obtain⟨k,x,y,o,X,W,V,B,f1,v,L,K,Z,dp,U,C⟩:=m8 (w I) hl (by lia) (by lia) hz p J hk (by lia) te;obtain⟨t,n',ex,F,E,d',D,A,g',l,P,G,O,j⟩:=HQ hl u i hd w q (m+1-(1+(x.size+y.size))) (ab:=ab++[ba]++YS x.size++YS y.size) (zs:=zs) (n:=o) (rows:=rows++[.tup [.str "if",.int k,.tup x.dats,.tup y.dats]]) (by lia) (λz h=>(hz z h).app.app.app) (by simp;lia) (by simp;lia) (by simp;lia) (by lia) a X W V B f1 g;refine⟨.ifs k x y t,n',ex,F,E,d',D,A,g',⟨v,L,K,l⟩,by simp only[Ts.size];lia,by simp only[Ts.dep];lia,by lia,?_⟩;have S:(ab++[ba]++YS x.size++YS y.size).length=ab.length+(1+(x.size+y.size)):=by simp;lia
   rw[S]at j;rw[PV H C,j,show ab.length+(1+(x.size+y.size))+(m+1-(1+(x.size+y.size)))=ab.length+(m+1) by lia];rw[Ts.dats,Ar,Iq]
def LR{R:bW}(hl:ns.length<=63)(q:0<room)(d:room<=64)(hd:deep<=3)(s:deep<3->RSp ns room (deep+1) R){ab:List Bool}{zs:List Int}{n m:Nat}(hz:∀z∈zs,Ab ab z)(b:zs.length<=ab.length)(hk:ab.length+m<=16)(r:n+12*m<500000):∃(t:Ts) (n':Nat) (ex:List Int),t.Wf ab/\t.size=m/\t.dep+deep<=3/\n'<=n+12*m/\aT 14 [1,4] (YZ R) [WK ns,X3 n,.int m,.int deep,sD ab.length zs,.int room]=b0 (.tup t.dats,[X3 n',sD (ab.length+m) (if deep=0 then zs++ex else zs)]):=by
 obtain⟨t,n',ex,A,y,d',x,w,g',o,l,k,j,e⟩:=HQ (R:=R) hl q d hd s m m (n:=n) (rows:=[]) (Au _) hz b hk (by simp;lia) r (.va (.int zs.length)) .no .no .no .no .no .no;refine⟨t,n',ex,o,l,k,j,?_⟩;have e:=N6 e;rw[Dc]at e;have c:((zs++ex).map cM.int).length=zs.length+ex.length:=by simp
 have tk:((zs++ex).map cM.int).take (zs++ex).length=(zs++ex).map .int:=UQ;have u:((zs++ex).map cM.int).drop (zs++ex).length=[]:=IS;have p:((zs++ex).map cM.int).take zs.length=zs.map .int:=by rw[Ft];exact Md (by simp)
 have a:=UQ (zs:=zs);have g:(zs.map cM.int).length=zs.length:=by simp
 have c0:¬(zs.length:Int)<0:=by lia
 have v:(zs.length:Int)<=(zs.length:Int)+ex.length:=by lia
 rw[b6,YZ.eq_1];simp only[L1,sD]at e⊢;generalize t.dats=T at*;by_cases h:deep=0
 ·subst h
  rw[if_pos rfl];generalize (zs++ex).map cM.int=Y at*;generalize zs.map cM.int=Z at*;generalize (zs++ex).length=i at*;rw[show((0:Nat):Int)=0 from rfl]at e⊢;simp[bV,a,g,e]
 ·have f : 0 < deep := by lia
  rw[if_neg h];generalize (zs++ex).map cM.int=Y at*;generalize zs.map cM.int=Z at*;generalize (zs++ex).length=i at*;simp[bV,a,g,e,f,tk,u,p,c,v]
theorem BP(hl:ns.length<=63)(i:0<room)(b:room<=64):∀(q deep:Nat),3<=deep+q->deep<=3->0<deep->RSp ns room deep (Z5 (q+1))
 |0,deep,k,hd,l=>λab zs n m hz a hk j=>by obtain⟨t,n',ex,g,f,d,c,e⟩:=LR (R:=Z5 0) hl i b hd (λh=>by lia) hz a hk j;rw[if_neg (by lia)]at e;exact⟨t,n',g,f,d,c,e⟩
 |q+1,deep,k,hd,l=>λab zs n m hz a hk j=>by obtain⟨t,n',ex,g,f,d,c,e⟩:=LR (R:=Z5 (q+1)) hl i b hd (λh=>BP hl i b q (deep+1) (by lia) (by lia) (by lia)) hz a hk j;rw[if_neg (by lia)]at e;exact⟨t,n',g,f,d,c,e⟩
def hG(hl:ns.length<=63)(b:0<room)(a:room<=64){n m:Nat}(j:m<=16)(i:n+12*m<500000):∃(t:Ts) (n':Nat) (d:cM),t.Wf []/\t.size=m/\t.dep<=3/\n'<=n+12*m/\Z5 8 [WK ns,X3 n,.int m,.int 0,.nst [b3,b0 0] [.int 0],.int room]=b0 (.tup t.dats,[X3 n',d]):=by obtain⟨t,n',ex,g,f,k,c,e⟩:=LR (R:=Z5 7) (deep:=0) (ab:=[]) (zs:=[]) hl b a (by lia) (λh=>BP hl b a 6 1 (by lia) (by lia) (by lia)) (λ_ h=>nomatch h) (Au _) (by simpa using j) i;exact⟨t,n',_,g,f,by lia,c,e⟩
def Zh(hl:ns.length<=63){n:Nat}(w:n<1000):∃(sure:Int) (t:Ts) (n':Nat),t.Wf []/\t.size<=16/\t.dep<=3/\0<=sure/\sure<=64/\n'<=n+300/\TZ [WK ns,X3 n,.int 16]=b0 (.tup [.int sure,.tup t.dats],[X3 n']):=by
 obtain⟨x,d,ex⟩:=X0 ns n [.int 3,.int 6,.int 64] hl (by lia) (by simp);obtain⟨room,rfl,j,i⟩:∃q:Int,x=.int q/\0<q/\q<=64:=by simp only[Aj,Az,or_false]at d;rcases d with rfl|rfl|rfl<;>exact⟨_,rfl,by lia,by lia⟩
 have e:=Y2 ns (n+1) 17 hl (by lia) (by lia);have l:=TL ns (n+1) (b:=17) (by lia);have k:=M8 ns (n+1) (b:=17) (by lia);obtain⟨m,o⟩:=Fb l;rw[o]at e k;obtain⟨t,a,A,g,v,f,u,r⟩:=hG (ns:=ns) (n:=n+1+1) (m:=m) hl j i (by lia) (by lia);have s:=Y2 ns a (room+1) hl (by lia) (by lia);have q0:=TL ns a (b:=room+1) (by lia);have q1:=M8 ns a (b:=room+1) (by lia);obtain⟨y,c,p⟩:=X0 ns (a+1) [.int 0,.int room,.int (M7 ns a (room+1))] hl (by lia) (by simp);obtain⟨sure,rfl,h,s1⟩:∃q:Int,y=.int q/\0<=q/\q<=64:=by simp only[Aj,Az,or_false]at c;rcases c with rfl|rfl|rfl<;>exact⟨_,rfl,by lia,by lia⟩
 refine⟨sure,t,a+1+1,g,by lia,f,h,s1,by lia,?_⟩;generalize M7 ns a (room+1)=z at*;generalize t.dats=T at*;unfold TZ;rw[b6];unfold QB;simp[bV,ex,e,r,s,p]
end
@[simp] theorem oW{i:Nat}{F:bW}{ds:List cM}:insE i F ds=(F (ds.take i++ .dct [] []::ds.drop i)).map λq=>(q.1,q.2.drop 1):=(rfl)
def eE{kds:List Kd}{a:Int}(h:Nm kds .w a):Ab (kds.map isW) a:=⟨h.1,by rw[De,h.2];rfl⟩
def Bl.rws{kds b:List Kd}{rows:List cM}(h:Bl kds rows b):∃rs:List Rw,rows=rs.map Rw.dat/\Wfs (kds.map isW) rs:=by
 induction h with
 |nil=>exact⟨[],rfl,trivial⟩
 | @cons kds b row rows ok _ c=>
  obtain⟨rs,e,w⟩:=c;obtain⟨r,rfl,d,f⟩:=ok.rw;refine⟨r::rs,by rw[e];rfl,d.imp λa=>eE,?_⟩;rw[Ft,List.map_singleton,f]at w;exact w
noncomputable def L4:List Rw->Ts
 |[]=>.nil
 |r::rs=>.row r (L4 rs)
theorem JW:∀rs,(L4 rs).dats=rs.map Rw.dat
 |[]=>rfl
 |r::rs=>by rw[L4,Ts.dats,JW rs];rfl
theorem N8:∀rs,(L4 rs).size=rs.length/\(L4 rs).dep=0
 |[]=>⟨rfl,rfl⟩
 |r::rs=>by obtain⟨h1,h2⟩:=N8 rs;exact⟨by rw[L4,Ts.size,h1,Bg];lia,h2⟩
theorem B0:∀{rs:List Rw}{ab:List Bool},Wfs ab rs->(L4 rs).Wf ab
 |[],_,_=>trivial
 |r::rs,_,⟨h1,h2⟩=>⟨h1,B0 h2⟩
theorem F3:∀{rs:List Rw}{ws:List cM}{cs:List Int},(L4 rs).run ws cs=go rs ws cs
 |[],_,_=>rfl
 |r::rs,ws,cs=>by
  cases e:UP (wv ws) cs r with
  |bad s=>rw[Xh e,L4];unfold Ts.run;rw[e]
  |ok m cs'=>rw[Uk e,L4];unfold Ts.run;rw[e];exact F3
def FC{k:Nat}(cs:List Int):QT (k+1) (.lst (cs.map .int)):=XY λd hd=>by obtain⟨c,_,rfl⟩:=Cs.mp hd;exact ZT
def A0(o:Out):QT 2 (.tup [.lst (o.cs.map .int),o.fd]):=by
 refine RG (Z3 (FC _) (Z3 ?_ YE));unfold Out.fd;split
 ·exact MN
 ·exact RG (Z3 ZT (Z3 YD YE))
section
variable{ns:List Int}{t:Ts}{sure:Int}
def jD(hl:ns.length<=63)(h1:t.Wf [])(h2:t.size<=16)(l:t.dep<=3)(h:0<=sure)(s1:sure<=64){n:Nat}(y:n<9000)(x a b c d e:Sl):∃n' w v u d',n'<=n+67/\ME [.va (WK ns),.ow (X3 n),.va (.tup [.int sure,.tup t.dats]),x,a,b,c,d,e]=b0 (.nx [.va (WK ns),.ow (X3 n'),.va (.tup [.int sure,.tup t.dats]),x,w,v,u,d',e]):=by obtain⟨cs,n',f,s,r,q,m⟩:=ED ns n sure hl (by lia) h s1;obtain⟨z,p⟩:=jK l h1 (by lia) f;have o:=NE (sure:=sure) l h1 (by lia) h s1 f s r;have k:=A0 (t.run [] cs);have j:=JI k k;rw[KS k]at j;have g:=FC (k:=0) cs;have i:=JI g g;rw[KS g]at i;refine⟨n',.va (.lst (cs.map .int)),.va (.lst (cs.map .int)),.ow (.lst ((t.run [] cs).cs.map .int)),.va (t.run [] cs).fd,q,?_⟩;generalize (t.run [] cs).fd=fd at*;generalize (t.run [] cs).cs.map cM.int=C at*;generalize cs.map cM.int=D at*;generalize t.dats=T at*;unfold ME;simp[m,p,o,j,i]
theorem JF(hl:ns.length<=63)(h1:t.Wf [])(h2:t.size<=16)(g:t.dep<=3)(f:0<=sure)(s1:sure<=64):∀(ds:List cM) {n:Nat},n+67*ds.length<9000->∀x a b c d e:Sl,∃n' i C z v d',n'<=n+67*ds.length/\Y3 (gN 3) ME ds [.va (WK ns),.ow (X3 n),.va (.tup [.int sure,.tup t.dats]),x,a,b,c,d,e]=b0 (.nx [.va (WK ns),.ow (X3 n'),.va (.tup [.int sure,.tup t.dats]),i,C,z,v,d',e])
 |[],n,_,x,a,b,c,d,e=>⟨n,x,a,b,c,d,by simp,by rw[Vn]⟩
 |q::ds,n,l,x,a,b,c,d,e=>by simp only[Bg]at l;obtain⟨k,B,y,u,r,E,o⟩:=jD (n:=n) hl h1 h2 g f s1 (by lia) (.va q) a b c d e;obtain⟨j,h,A,w,s,p,D,m⟩:=JF hl h1 h2 g f s1 ds (n:=k) (by lia) (.va q) B y u r e;refine⟨j,h,A,w,s,p,by simp only[Bg];lia,?_⟩;rw[YT,P1,W9];simp only[Nw,Nx];rw[o,VR,m]
end
end L2
namespace RR
open PySem L2
def Zz(ns:List Int)(hl:ns.length<=63):IA [.lst (ns.map .int)]=b0 (.bl b5,[]):=by obtain⟨sure,t,m,h1,h2,q,h,s1,B,w⟩:=Zh (n:=0) hl (by lia);obtain⟨l,y,H,G,F,d',p,v⟩:=JF (ns:=ns) (sure:=sure) hl h1 h2 q h s1 [.int 0,.int 1,.int 2] (n:=m) (by simp;lia) .no .no .no .no .no .no;simp only[Bg,Gj]at p;obtain⟨b,rows,kds,j,x,o,q0,q1,A,u⟩:=Yt ns l 12 hl (by lia) (by decide) (by decide);obtain⟨rs,rfl,wf⟩:=x.rws;rw[Ce]at o;obtain⟨cs,z,a,e,d,E,s⟩:=ED ns j b hl (by lia) q0 q1;have r:=dF (cs:=cs) (sure:=b) wf q0 q1 (by lia) a e d;have c:=NE (t:=L4 rs) (cs:=cs) (sure:=b) (by rw[(N8 rs).2];lia) (B0 wf) (by rw[(N8 rs).1];lia) q0 q1 a e d;rw[F3,JW]at c;have k:=A0 (go rs [] cs);have eq:=Te k k;rw[KS k]at eq;generalize (go rs [] cs).fd=fd at*;generalize (go rs [] cs).cs.map cM.int=C at*;generalize cs.map cM.int=D at*;generalize rs.map Rw.dat=I at*;generalize t.dats=T at*;unfold IA;rw[b6,zEP.eq_1];have f:cM.lst []=X3 0:=rfl;have g:cM.lst (ns.map .int)=WK ns:=rfl;have i:X8 0 3=[.int 0,.int 1,.int 2]:=rfl;rw[g];simp -implicitDefEqProofs [bV,f,w,i,v,u,s,r,c,eq]
end RR
namespace KK
open PySem PySem.W
noncomputable abbrev g(a i:Nat)(n:Si)(d m:Se):Sr:=⟨.type "function",b3,.func (fnOf n n (L2.YR (RR.top i)) (L2.ZR (RR.top i)) (L2.bJ (RR.top i)) d .none .none m b3 (.ref (a-1)) .none),#[]⟩
def p(P:Ps)(a i:Nat)(n:Si)(m:Se)(h1:nsIn (K P) So n=b0 (b0 (.ref a)):=by kernel_rfl)(h2:(K P).lookup a=b0 (g a i n .none m):=by kernel_rfl)(b:codeIn (K P) (.ref (a-1)) n=b5:=by kernel_rfl):L2.A4 (K P) n (RR.top i) a:=L2.a4 h1 h2 b (by unfold keepIn;simp only[h2])
end KK
namespace RR
open PySem L2
def zKX{l:Rs}{w:Sm}{K:Ao}{mg:Si->Option Se}{fa:Sf}(T:Txt w K mg)(e:mg "law"=b0 (.ref fa)):∃fd:Ey,(∀(s:Ah) (v:Se),Qb s fd ⟨[v],[]⟩ [("_law_script",v)])/\∀base:Sq,K.In base->base.Ns So mg->S9 l.prog w K mg base CX0 23 fa fd ["_law_script"] (spV K [] 1 IA):=by obtain⟨i,od,kV,doc,h,j,g,ct,f,a,b,c,d⟩:=T.p_x53;cases e.symm.trans (T.fnm _ _ a);exact⟨_,λs v=>.of_eq rfl,λbase _ _=>ly T (Wt (st:=top 76) b c d)⟩
def zCH(K:Ao)(H:Hp)(a:Sf)(ns:List Int)(hl:ns.length<=63)(f:Only H)(h:W7 K H a (ns.map V.int)):spV K [] 1 IA [.ref a] H (λv _=>v=.bl b5) λ_ _ _=>False:=by
 have c:bT K (Zp (λ_=>False) [] [.ref a]) H (ns.map V.int) (ns.map cM.int):=by
  clear h hl;induction ns with
  |nil=>exact .nil
  |cons n ns g=>exact .cons (.int n) g
 have hz:∀b,¬Zp (λ_=>False) [] [V.ref a] b:=λb h=>by
  rcases h with h|⟨i,h,_⟩
  ·exact h
  ·cases h
 refine⟨λ_=>False,[.lst (ns.map .int)],.bl b5,[],rfl,⟨rfl,(λi h=>nomatch h),λi d hi e=>?_,(λi d h=>nomatch h),(λi j b h=>nomatch h),λa h=>h.elim⟩,Zz ns hl,λv H' _ _ r=>by cases r;rfl⟩;cases i with
 |zero=>
  cases e;refine⟨_,rfl,?_⟩;rcases h with((h|⟨_,_,_,_,(⟨_,h,_⟩|⟨h,_⟩)⟩)|⟨o,h⟩)|h
  ·exact .lst h (hz a) c
  ·rcases f a with z|⟨_,_,z⟩<;>rw[h]at z<;>cases z
  ·rcases f a with z|⟨_,_,z⟩<;>rw[h]at z<;>cases z
  ·exact .fzl (.inl ⟨o,h⟩) c
  ·exact .fzl (.inr h) c
 |succ i=>cases i<;>cases e
end RR
open PySem PySem.W PyProof.Rows
set_option maxRecDepth 100000 in
set_option maxHeartbeats 0 in
theorem PySem.Challenge.cw_lanepacks_k29_whole_tree_runs_holds : PySem.Challenge.rw_lanepacks_k29_whole_tree_runs.Holds := by
 w_on;refine holds_law KK.said λsaid=>?_
 refine holds_open (q:=KK.view) (loose:=KK.lo) (Xt:=KK.X) (XP:=XL KK.view []) (Yf:=KK.H.obs) (Ya:=KK.H.val) (YP:=KK.H.says) (N:=5880) KK.hl (Hook.of _) (Hook.keeps _) (λs e=>xl_of s (Dt.mp e).1) XL.keeps (by rfl) (by rfl) (by rfl) (λs e=>recFacts_of (Dt.mp e).2) (by rfl) (by first|assumption|decide+kernel) (by decide+kernel) ⟨rfl,rfl,rfl,rfl,rfl,by decide+kernel⟩ ?hw ?hc
 case hw=>w_witness2
 refine L2.zBQ (l:=Kc) (n:=63) (k:=23) (x:= "_law_script") (CX:=L2.CX0) (sp:=λK=>L2.spV K [] 1 L2.IA) rfl (by decide) rfl ⟨rfl,by decide,by decide⟩ (λw h Y=>W.kIn_of (K:=KK.K) (as:=KK.A) (e:=KK.kA) Y) ?F (λK H a ns hl ho hS=>RR.zCH K H a ns hl ho hS) λ_ _ _ _ z=>z
 case F=>
  intro w mg fa h KX G hmg;have N:∀{x},Ly (KK.K w.params) So x=some none->mg x=none:=λh=>W.mg_none_of KX G h;refine RR.zKX (K:=KK.K w.params) ?_ hmg;constructor;exact λ_ _ h=>W.mg_of KX G h;exact λ_ _ _ h=>W.mg_of KX G h;iterate 10 exact KK.p _ _ _ _ KK.m3
  iterate 8 exact KK.p _ _ _ _ KK.m0
  iterate 3 exact KK.p _ _ _ _ KK.m1
  iterate 5 kernel_rfl
  iterate 3 exact KK.p _ _ _ _ KK.m1
  iterate 7 exact KK.p _ _ _ _ KK.m2
  iterate 21 exact KK.p _ _ _ _ KK.m
  iterate 16 exact N (by kernel_rfl)
  iterate 25 kernel_rfl
  exact KK.p _ _ _ _ KK.m4
end
