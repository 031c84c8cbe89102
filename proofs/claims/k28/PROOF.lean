import PyProof.Rows.All
import KE.KFromBytes
import KE.KTab
import KE.KIsAll
import KE.KDictOf
import KE.KEqDeep
import KE.KItem
import KE.KUnpackStar
import Wide.FinOn
import Wide.Line
import KE.KSortTup
import PyProof.AttrMissSeq
import OpenK.KOwn
import Open.TreeImp
import OpenK.KMore
import PyProof.InstStoreFacts
import PySem.Challenge.RW_lanepacks_k28_trees
set_option Elab.async false
set_option linter.all false
set_option maxRecDepth 100000
set_option maxHeartbeats 4000000
set_option bootstrap.genMatcherCode false
set_option compiler.extract_closed false
open Option renaming some->b3,none->b4
open Bool renaming true->ba,false->bb
open PySem renaming Value->Uk,Addr->Ul,starEach->Um,wpAny->Uo,mainGlobals->Up,Str->Uq,model->Ur,Expr->Us,assignEach->Ut,World->Uu,Heap->Uv,Obj->Uw,Stmt->Ux,foldedSetIterable->Uy,cellsFrom->Uz,NameKind->Va,Scope->Vb,assignInOrder->Vc,Sem->Vd,Model->Ve,Tok->Vf
open Option renaming bind_eq_some_iff->Aa,bind_some->Ai,map_eq_some_iff->Ap,isSome_some->Oj,getD_none->Qo,map_some->Sb
open PySem renaming wpAny_bind->Ac,Shared->Af,wpAny_pure->Aj,Program->Av,bootBuiltins->Bm,wpAny_holding->Bt,Around->Cc,wpAny_mono->Ce,sizeLine_eq->Cf,compareOp->Ct,mem_of_lookup->Cv,wpAny_callSpecial?_slot->Cw,wpAny_newObj_type->Dq,FuncData->Dw,Builtin->Ej,wpAny_field->Ep,wpAny_call_entry->Et,swapsWithSole->Ey,swappedStores->Ez,backTo->Fb,wpAny_Call_Name_kw->Fe,wpAny_seqItems->Fi,wpAny_truthy_bool->Fj,call_meets->Fk,binaryOp->Fs,wpAny_setField_rec->Ft,Spec->Ga,sysModules->Gb,wpAny_passesOwn->Gc,wpAny_standAt->Gh,attributeBase->Gi,importedModules->Gu,wpAny_pyIter_list->Gy,sliceBounds->Hf,keywordEach->Hg,Keyword->Hh,swapsWith->Hm,wpAny_pyIter_tuple->Hn,behindInMarks->Hq,tupleKind_room_in1->Hs,wpAny_assign_Name->Hz,wpAny_rule->Ib,wpAny_sequenceKey->Ig,bindName->Im,wpAny_bindName->Io,wpAny_updateSeq_pair->Jb,wpAny_execs_nil->Jm,unpackItems->Jn,letOwnedTupleGo->Jp,codeAny->Jq,wpAny_newFunctionEnv_cells->Kc,codeAny_mono->Kk,wpAny_typeOf->Kl,holding->Ko,recursionLimit->Kq,wpAny_binaryOp_repeat_ref->Ks,wpAny_comprehension_free->Kw,fenceModules?->Lc,getItem->Le,backToKw->Lg,wpAny_onRaise->Lk,wpAny_attempt->Ll,wpAny_eqBool_int->Lv,noFill_tuple_add->Ly,wpAny_pyNext_list_item->Ma,DictEntry->Mg,wpAny_pyNext_list_end->Mi,codeAny_call_function->Mk,concat_meets->Ml,call_meetsIn->Mn,codeAny_builtin->Ms,typeIs_int->Mx,ZipApart->My,codeAny_call_builtin->Nd,PyData->Nh,newFunctionEnv->Nk,callerA->Nr,wpAny_letGo->Nv,bltViewBooted->Ob,seq_tuple_add->Og,evalPart_none->Oh,frameOf->Oq,getattributeRaised->Ov,ExceptHandler->Ox,setItem->Pe,BindsTo->Pg,list_append->Ph,valueAt->Pj,wpAny_Call_method->Pk,wpAny_pyIter_enum->Pq,slot_list_setitem->Py,Params->Qc,seqIndex_neg->Qg,typeOf->Qh,entryPlaceOf->Qk,seqSlot_of->Qv,pinGoodD->Qz,bindArgs->Rf,PassesOwn->Rm,lastMarks->Rn,seqIndex_of->Ro,pushCells->Rt,setField->Sg,wpAny_Name->Sq,wpAny_call->Sr,call->Ss,newObjAsIs->Su,isInstance->Sv,pinSeenD->Sx,standAt->Tb,Builtin->Tk,getAttr?->To,Within->Tu,stored->Tw
open Bool renaming and_eq_true->Ad,false_eq_true->De,and_eq_true_iff->Du,false_ne_true->El,or_eq_true->Hu,beq_eq_decide_eq->Mt,or_false->Te,false_or->Tf,true_and->Tr
open PySem.Heap renaming get?_push_of_some->Ae,lt_size->Aq,get?_push_size->As,size_push->Ei,get?_update_other->Ew,SameBut->Fq,get?_push_ne->Ii,get?_update_self->Iu,ExtBut->Jt,FlyingW->Kn,get?_update_ne->Nz,get?_some_iff->Op
open List renaming getElem?_eq_some_iff->Ag,size_toArray->Ak,mem_cons->Am,mem_cons_of_mem->An,getElem?_append_left->Ao,mem_singleton->At,mem_cons_self->Au,replicate->Aw,not_mem_nil->Ax,append_assoc->Ay,map_cons->Ba,range->Bf,getElem?_append_right->Bo,mem_append_left->Bq,mem_append_right->Br,length_append->Bw,length_cons->Bx,mem_append->By,getElem?_set_ne->Bz,nodup_cons->Cb,length_set->Cd,length_map->Ci,take_of_length_le->Cn,lookup_cons->Co,perm_append_comm->Cq,length_take->Cr,getElem?_eq_getElem->Cs,mem_map->Cu,mem_range->Db,getElem?_set_self->Dd,getElem?_take_of_lt->Df,take_append_drop->Dk,all_eq_true->Dn,getElem?_replicate->Dr,getElem?_map->Ds,mem_of_getElem?->Dt,take_append_of_le_length->Dx,replicate_succ->Dz,length_singleton->Eb,lookup_cons_self->Ed,getElem?_eq_none->Ee,append_nil->Eo,map_nil->Eu,set_comm->Fa,nil_append->Fd,set_append_right->Fu,drop_eq_getElem_cons->Fy,map_append->Ge,flatten_cons->Gf,length_eq_zero_iff->Gk,find?_cons->Gv,drop_length->He,mem_filter->Hl,length_range->Ih,take_left->Ip,drop_left->Iq,singleton_append->Ix,cons_append->Iz,any_cons->Je,dropLast_concat_getLast->Jg,filterMap_cons->Jl,of_mem_zip->Jr,forIn_cons->Js,map_congr_left->Ju,idxOf_lt_length_of_mem->Ka,mem_filterMap->Kj,reverse_perm->Ky,getElem?_cons_succ->Lp,getElem_mem->Lz,range_succ_eq_map->Mc,length_replicate->Mj,length_nil->Mm,mem_iff_getElem?->Mq,getElem?_mapIdx->Nb,forall_mem_cons->Ng,drop_zero->Ni,forIn_nil->Nj,take_take->Nl,lookup->Nt,getElem_idxOf->Oz,ext_getElem?->Pp,getElem_inj->Qm,length_drop->Qn,isEmpty_iff->Qp,zipIdx_cons->Qq,zipIdx_nil->Rr,take_left'->Ru,mapM_cons->Sf,take_succ->Sh,drop_take->Si,drop_drop->Sk,nodup_nil->Sm,all_cons->Th,all_map->Tz,map_map->Ua
open PySem.W renaming Frag->Ah,mg_none_of->Dm,mg_of->Eh,kia_one->Fl,nsIn->Gs,kitOne->Hd,keepIn->Jd,kas_item->Jh,opening->Jk,looseW->Lu,cellsFrom_some->Lw,fnOf->Lx,SharedT->No,kitx_list->Np,hideAll_get->Oe,codeIn->Of,Frag->Qe,callWith_K->Qf,looks_findIn->Ql,openEnds->Qy,wideGood->Ra,clsGoodW->Rb,findIn->Rc,methodObj->Rl,kasC_bind->Rv,kasC_modify->Rx,kas_item_eq->Rz,absHeap->Sw,wideSeen->Sy,clsSeenW->Sz,subIn->Tl,clsIn->Tp,instObj->Tt,OpenLaw->Tx
open Nat renaming le_refl->Ar,lt_of_lt_of_le->Az,ne_of_lt->Bb,lt_irrefl->Ck,zero_le->Er,le_trans->Fp,ne_of_gt->Hi,min_eq_left->Hv,le_succ->Ij,le_of_succ_le->Il,le_add_right->Iy,zero_add->Ki,sub_self->Km,lt_of_succ_lt_succ->Md,not_lt_zero->Mr,lt_succ_of_lt->Pw,le_of_lt->Qd,lt_trans->Qi,add_comm->Qj,succ_le_succ->Qs,min_le_left->Rs,add_assoc->Tn
open PySem.Str renaming ofString->Be,ofString_eq_toList->Hy
open PySem.AutoSeq1 renaming wpAny_loadPart'->Bg,idx_int->Ja,sub_tuple_tuple->Kz,sub_tuple_list->Lq,sub_list_tuple->Lr,sub_list_list->Mf
open PySem.F renaming slot_list_append->Bi,type_list_append->Bj,slot_dict_get->Ec,slot_list_extend->Ef,type_list_extend->Eg,entry_dict_get->Fn,slot_tuple_iterator_next->Fo,plainAttrs_list->Gj,args_tuple_add_2->Hj,entry_tuple_add->Hr,args_dict_get_2->Ht,slot_tuple_add->Hx,args_tuple_iterator_next_1->Jf,entry_tuple_iterator_next->Jv,slot_zip_next->Jw,slot_int_rmul->Jy,slot_dict_getitem->Kr,args_dict_get_3->Li,plainAttrs_dict->Lj,slot_list_index->Lm,type_list_index->Ln,type_dict_get->Mo,args_list_append_2->Na,entry_list_append->Nq,args_list_index_2->Nx,slot_list_append->Oi,entry_list_index->Om,args_tuple_mul_2->Oy,args_zip_next_1->Pr,slot_list_index->Ps,args_int_rmul_2->Pz,entry_tuple_mul->Qa,entry_zip_next->Qr,entry_int_rmul->Qw,slot_tuple_mul->Qx,fills_int_mul->Sa
open Or renaming inr->Bk,inl->Cg
open Option.some renaming inj->Bp,injEq->Ku
open PySem.NameKind renaming free->Bu,cell->Cm
open PySem.Value renaming ref->Bv,bool->Gm,type->Kt,int->Rj,str->Rk,isStrOf->Ta,isInt->Ud,float->Ue
open PySem.Builtin.SmallTypes renaming nextOf->Ca,ownedTupleIsFree->Dy,ownedTupleHandOut->Hc
open Array renaming toList_append->Cj,length_toList->Gg,toList_push->Gz,toList_reverse->Ha,perm_iff_toList_perm->Kg,eraseIdxIfInBounds->Kv,getD->Kx,size_extract->Ow,size_append->Px,toList_inj->Qu,toList->Tv
open PySem.PassesOwn renaming never->Cz
open PySem.Obj renaming mapSeq->Dg,data_mapFields->Ol,mapFields->Tj
open Prod renaming fst->Dh,snd->Es
open Ne renaming symm->Di
open List.Perm renaming append_left->Dj,append_right->Gq,trans->Jx,append->Qt,cons->Sj
open ForInStep renaming yield->Dv
open PySem.Builtin.List renaming listTooLong->Ea,listSameRef->La
open PyProof.Rows renaming assignInOrder_cons->Ek,callWith_type1->Em,slot_tuple_getitem->Ex,SortSt->Fg,seqObj->Hk,assignInOrder_nil->Ia,AllBare->Ld,subscriptTail_builtinR->Mb,drecsOf->Mh,plainGoodE->Mv,plainGoodD->Mw,listUpdate_at->Ot,plainSeenE->Pa,plainSeenD->Pb,unpackItems_tuple->Pf,pairsOf->Pt,SortKind->Rh,seqEpoch_at->Ry,expectedOf->So,tail_any->Tc,IntsAre->Tg
open PySem.SeqAt renaming shaped->Fc,list_indexAt->Oo
open Int renaming emod_lt_of_pos->Ff,emod_nonneg->Hw,toNat_natCast->Ie,eq_ofNat_of_zero_le->Ls,toNat_of_nonneg->Oa
open PySem.PyData renaming keyHash->Fh,depthAll->Fm,canLay0->Go,canLayAll0->Ik,depth->Ir,eqv->Ji,int->Po,strOk->Ub
open Prod.mk renaming inj->Fv
open PySem.Builtin.Slice renaming slicePlaces->Fw,sliceAdjust->Hb,sliceApplied->Ke,slicePartIndex->Rg,sliceFields->Se
open PyProof.Rows.KTD renaming datumAt->Fx
open PySem.Calls renaming evalArgs_plain->Fz,callWith_builtin->Gp,spliced_cons->Gr,spliced_nil->Ic,Name_function_global->Kb
open PySem.Builtin.Tuple renaming tupleExact->Gd,tupleItemsOf->Kf,tupleTooMany->Kh,tupleIsExact->Sc
open Pure renaming pure->Gw
open False renaming elim->Gx
open PySem.Builtin.Range renaming rangeSize->Ho,small->Uh
open PyProof.Rows.SortSt renaming mk'->Jj
open PyProof.Rows.IsTup renaming new->Jo
open List.cons renaming injEq->Jz
open List.Pairwise renaming map->Lb,nil->Pn
open PySem.Builtin.Dict renaming updateFrom->Lo,pairItems->Me,missed->Nw
open Classical renaming choose_spec->Mp
open PySem.Challenge renaming pw_lanepacks_k28_trees->Mu,rw_lanepacks_k28_trees->Mz
open PySem.Around renaming under_plainId->Nc
open PySem.SeqAt.EqAt renaming bool_bool->Nf
open PySem.Heap.SameBut renaming update->Nu
open PySem.EntryCells renaming newEntry->Ny
open PySem.Paired renaming length->Od,snoc->Ug
open Sum renaming inl->Pc,inr->Pd
open Char renaming toNat->Qb
open PySem.W.Looks renaming ld->Ri
open PySem.Heap.DictOf renaming new->Rp
open PySem.Shared renaming heap->Rq
open Function renaming comp->Ti
open PySem.Heap.UpToSlots renaming of_keeps->Tq
open PySem.MeetsSeq.EqGives renaming int->Uc
open PySem.IsRange renaming new->Uf
open PySem.Heap.IsSliceOf renaming new->Ui
open PySem.W.WShape renaming has->Uj
noncomputable section
namespace KK
open PySem PySem.W
noncomputable def GC:List Uw->Nat->BT->Option BT
 |[],_,t=>b3 t
 |o::l,n,t=>match((t.ins n o).get n).isSome with
  |true=>GC l (n+1) (t.ins n o)
  |false=>b4
theorem KP{life:Life}:∀{l:List Uw}{n:Nat}{t t':BT},GC l n t=b3 t'->Sw t' (n+l.length) life=⟨(Sw t n life).objs++l.toArray,life⟩
 |[],n,t,t',h=>by cases h;simp[Sw]
 | o :: l,n,t,t',h => by
  unfold GC at h;split at h
  ·rename_i g
   have a:=KP (life:=life) h;rw[show n+(o::l).length=n+1+l.length by simp;lia,a,absHeap_ins g];simp[Heap.push]
  ·cases h
def toT(s:Af):Option No:=(GC s.heap.objs.toList 0 .nil).map λt=>⟨t,s.heap.objs.size,s.heap.life,s.gens,s.drawn,s.toks,s.os⟩
def ED{s:Af}{u:No}(h:toT s=b3 u):u.abs=s:=by
 unfold toT at h;cases e:GC s.heap.objs.toList 0 .nil with
 |none=>rw[e]at h;cases h
 |some t=>
  rw[e]at h;cases h;have:=KP (life:=s.heap.life) e
  simp only[Ki,Gg]at this;obtain⟨⟨a,life⟩,gens,drawn,toks,os⟩:=s;show(⟨Sw t a.size life,gens,drawn,toks,os⟩:Af)=_;rw[this];simp[Sw,BT.list]
noncomputable def VN(tb:String->Option Ej)(p:Av)(w:Uu)(a:Nat)(b:Option Uk):Nat->No->Thread->Option No
 |0,_,_=>b4
 | n + 1,s,t => match through t with
  |true=>b3 s
  | false => match stepOk a b t with
   |false=>b4
   |true=>match stepT (denote tb) p w s t with
    |some (s',t')=>VN tb p w a b n s' t'
    |none=>b4
theorem N5{tb:String->Option Ej}{p:Av}{w:Uu}{a:Nat}{b:Option Uk}:∀{n:Nat}{s s':No}{t:Thread},VN tb p w a b n s t=b3 s'->topRun tb p w a b n s.abs t=b3 s'.abs
 |0,_,_,_,h=>by cases h
 | n + 1,s,s',t,h => by
  unfold VN at h;unfold topRun;cases f:through t with
  |true=>rw[f]at h;cases h;rfl
  |false=>
   rw[f]at h;cases hk:stepOk a b t with
   |false=>rw[hk]at h;cases h
   |true=>
    rw[hk]at h;cases c:stepT (denote tb) p w s t with
    |none=>rw[c]at h;cases h
    |some r=>obtain⟨e,d⟩:=r;rw[c]at h;rw[stepT_spec c];exact N5 h
noncomputable def E2(tb:String->Option Ej)(p:Av)(w:Uu):Nat->No->Thread->Option No
 |0,_,_=>b4
 | n + 1,s,t => match t.atExitBegin with
  |some []=>b3 s
  |some (_::_)=>b4
  |none=>match stepT (denote tb) p w s t with
   |some (s',t')=>E2 tb p w n s' t'
   |none=>b4
theorem C3{tb:String->Option Ej}{p:Av}{w:Uu}:∀{n:Nat}{s s':No}{t:Thread},E2 tb p w n s t=b3 s'->importEnds tb p w n s.abs t=b3 s'.abs
 |0,_,_,_,h=>by cases h
 | n + 1,s,s',t,h => by
  unfold E2 at h;unfold importEnds;cases d:t.atExitBegin with
  |some x=>
   rw[d]at h;cases x with
   |nil=>cases h;rfl
   |cons=>cases h
  |none=>
   rw[d]at h;cases a:stepT (denote tb) p w s t with
   |none=>rw[a]at h;cases h
   |some r=>obtain⟨c,b⟩:=r;rw[a]at h;dsimp only;rw[stepT_spec a];exact C3 h
def K0(tb:String->Option Ej)(p:Av)(w:Uu)(N:Nat):Option Af:=
 (toT (start (Jk p)).1).bind λu=>(E2 tb (Jk p) w N u (start (Jk p)).2).bind λb=>(Lc p b.abs).bind λs₀=>
 match s₀.heap.isNs Up&&s₀.gens.size==0 with
 | true => (toT s₀).bind λv => (VN tb p w s₀.heap.objs.size (s₀.heap.nsMap Up "__annotations__") N v (topStub p)).bind λa =>
  match staticsOk (Gu p.main.body) s₀.heap a.abs.heap&&namesBound p a.abs.heap&&gensDone a.abs&&laidKept s₀.heap a.abs.heap with
   |true=>b3 a.abs
   |false=>b4
 |false=>b4
def GK{tb:String->Option Ej}{p:Av}{w:Uu}{N:Nat}{s:Af}(h:K0 tb p w N=b3 s):Qy tb p w N=b3 s:=by
 unfold K0 at h;unfold Qy fencedOpening;cases d:toT (start (Jk p)).1 with
 |none=>rw[d]at h;cases h
 |some u=>
  rw[d,Ai]at h;cases c:E2 tb (Jk p) w N u (start (Jk p)).2 with
  |none=>rw[c]at h;cases h
  |some j=>
   rw[c,Ai]at h;have i:=C3 c;rw[ED d]at i;rw[i,Ai];cases g:Lc p j.abs with
   |none=>rw[g]at h;cases h
   |some s₀=>
    rw[g,Ai]at h;rw[Ai];unfold topFrom;cases f:(s₀.heap.isNs Up&&s₀.gens.size==0)with
    |false=>rw[f]at h;cases h
    |true=>
     rw[f]at h;dsimp only at h⊢;cases b:toT s₀ with
     |none=>rw[b]at h;cases h
     |some v=>
      rw[b,Ai]at h;cases a:VN tb p w s₀.heap.objs.size (s₀.heap.nsMap Up "__annotations__") N v (topStub p)with
      |none=>rw[a]at h;cases h
      |some k=>
       rw[a,Ai]at h;have e:=N5 a;rw[ED b]at e;rw[e,Ai];exact h
def mapT{α:Type}{tb:String->Option Ej}{p:Av}{w:Uu}{N:Nat}{f:Af->α}{v:α}(h:(K0 tb p w N).map f=b3 v):(Qy tb p w N).map f=b3 v:=by
 cases e:K0 tb p w N with
 |none=>rw[e]at h;cases h
 |some s=>
  rw[e]at h;rw[GK e];exact h
noncomputable def chkU(p:Av)(s₀ s:Af):Bool:=staticsOk (Gu p.main.body) s₀.heap s.heap&&namesBound p s.heap&&gensDone s&&laidKept s₀.heap s.heap
def K1(tb:String->Option Ej)(p:Av)(w:Uu)(N:Nat):Option (Af×Af):=
 (toT (start (Jk p)).1).bind λu=>(E2 tb (Jk p) w N u (start (Jk p)).2).bind λb=>(Lc p b.abs).bind λs₀=>
 match s₀.heap.isNs Up&&s₀.gens.size==0 with
 |true=>(toT s₀).bind λv=>(VN tb p w s₀.heap.objs.size (s₀.heap.nsMap Up "__annotations__") N v (topStub p)).bind λa=>b3 (s₀,a.abs)
 |false=>b4
def Zo{tb:String->Option Ej}{p:Av}{w:Uu}{N:Nat}{q:Af×Af}(h:K1 tb p w N=b3 q)(hc:chkU p q.1 q.2=ba):K0 tb p w N=b3 q.2:=by
 unfold K1 at h;unfold K0;cases f:toT (start (Jk p)).1 with
 |none=>rw[f]at h;cases h
 |some u=>
  rw[f,Ai]at h;rw[Ai];cases e:E2 tb (Jk p) w N u (start (Jk p)).2 with
  |none=>rw[e]at h;cases h
  |some g=>
   rw[e,Ai]at h;rw[Ai];cases d:Lc p g.abs with
   |none=>rw[d]at h;cases h
   |some s₀=>
    rw[d,Ai]at h;rw[Ai];cases c:(s₀.heap.isNs Up&&s₀.gens.size==0)with
    |false=>rw[c]at h;cases h
    |true=>
     rw[c]at h;dsimp only at h⊢;cases b:toT s₀ with
     |none=>rw[b]at h;cases h
     |some v=>
      rw[b,Ai]at h;rw[Ai];cases a:VN tb p w s₀.heap.objs.size (s₀.heap.nsMap Up "__annotations__") N v (topStub p)with
      |none=>rw[a]at h;cases h
      |some i=>
       rw[a,Ai]at h;cases h;rw[Ai];unfold chkU at hc;rw[hc]
def G1{α:Type}{tb:String->Option Ej}{p:Av}{w:Uu}{N:Nat}{f:Af->α}{v:α}(h:(K1 tb p w N).map (λq=>f q.2)=b3 v)(hc:(K1 tb p w N).map (λq=>chkU p q.1 q.2)=b3 ba):(Qy tb p w N).map f=b3 v:=by
 cases e:K1 tb p w N with
 |none=>rw[e]at h;cases h
 |some q=>
  rw[e]at h hc;rw[GK (Zo e (Bp hc))];exact h
end KK
namespace RR
open PySem
def top(i:Nat):Ux:=PySem.Challenge.pw_lanepacks_k28_trees.main.body.getD i (.Pass ⟨0,0,0,0⟩)
end RR
namespace KK
open PySem PySem.W PySem.Calls PyProof.Rows
def dA(s:Ux):Arguments:=match s with
 |.FunctionDef _ a _ _ _ _ _ _ _ _=>a
 |_=>⟨[],[],b4,[],[],b4,[]⟩
def dB(s:Ux):List Ux:=match s with
 |.FunctionDef _ _ b _ _ _ _ _ _ _=>b
 |_=>[]
def dS(s:Ux):Vb:=match s with
 |.FunctionDef _ _ _ _ _ _ c _ _ _=>c
 |_=>{kind:=.function,names:=[],isGenerator:=bb,isCoroutine:=bb}
abbrev s(x:Uq)(t:Nat):Uk:=.str x t
abbrev e(P:Qc)(x:Uq)(t:Nat)(v:Uk):Mg:=⟨PyData.keyHash P x,s x t,v⟩
abbrev f(a i:Nat)(n:Uq)(d m:Uk):Nat×Uw:=(a,⟨.type "function",b4,.func (fnOf n n (dA (RR.top i)) (dB (RR.top i)) (dS (RR.top i)) d .none .none m b4 (.ref (a-1)) .none),#[]⟩)
abbrev fk(a i:Nat)(n:Uq)(d k m:Uk):Nat×Uw:=(a,⟨.type "function",b4,.func (fnOf n n (dA (RR.top i)) (dB (RR.top i)) (dS (RR.top i)) d k .none m b4 (.ref (a-1)) .none),#[]⟩)
abbrev co(a:Nat)(n:Uq)(t:Nat)(l k:Int)(u:Nat)(x y z v:Uk):Nat×Uw:=(a,⟨.type "code",b4,.fields #[s n t,s n (t+1),s "/claim/cut.py" (t+2),.int l 0,.int k 0,.int 0 0,.int 0 0,.int 3 0,x,.bool ba,.int 181 0,y,.none,z,v,.ref (a-1),.int u 0,.int l 0,s "/claim/cut.py" (u+1)],#[]⟩)
abbrev c(a:Nat)(n:Uq)(t:Nat)(l k:Int)(u:Nat):Nat×Uw:=co a n t l k u (.ref (a-5)) (.ref (a-4)) (.ref (a-3)) (.ref (a-2))
abbrev b(a:Nat)(n:Uq)(t:Nat)(l k:Int)(u:Nat):Nat×Uw:=co a n t l k u (.ref (a-3)) (.ref (a-2)) .none .none
abbrev m:Uk:=s "law_lanepacks_k28_trees" 862
abbrev kc(a q:Nat)(n:Uq)(b t u:Nat):Nat×Uw:=(a,⟨.type "type",b4,.cls {name:=n,bases:=[.ref q],mro:=[.ref a,.ref q,.type "ValueError",.type "Exception",.type "BaseException",.type "object"],ns:=a-1,qualname:=n},#[b3 (.ref b),b4,b3 (s n t),b3 (s n u),b3 (.builtin "ValueError.__new__"),b3 (.bool ba)]⟩)
abbrev kn(P:Qc)(a m w l r:Nat):Nat×Uw:=(a,⟨.type "dict",b4,.dict #[e P "__module__" m (s "lanepacks.errors" w),e P "__firstlineno__" (m+4) (.int l (m+3)),e P "__static_attributes__" (m+5) (.ref r),e P "__doc__" (m+6) .none] 2,#[]⟩)
noncomputable def K(P:Qc):Frag:=[(3,⟨.type "dict",b4,.dict #[e P "__name__" 165 (s "law_lanepacks_k28_trees" 862),e P "__doc__" 166 (.none),e P "__package__" 167 (.none),e P "__loader__" 168 (.builtin "__main__.__loader__#opaque"),e P "__spec__" 169 (.none),e P "__annotations__" 170 (.ref 6),e P "__builtins__" 171 (.ref 4),e P "__file__" 173 (s "/claim/cut.py" 172),e P "__cached__" 174 (.none),e P "PackError" 206 (.ref 24),e P "NoBlock" 222 (.ref 37),e P "NoCells" 238 (.ref 49),e P "NoRow" 263 (.ref 68),e P "NoLanes" 279 (.ref 80),e P "NoPlan" 295 (.ref 92),e P "NoProgram" 311 (.ref 104),e P "NoTree" 327 (.ref 116),e P "NoLoop" 343 (.ref 128),e P "NoText" 359 (.ref 140),e P "NoName" 384 (.ref 159),e P "TooMany" 400 (.ref 171),e P "TooLong" 416 (.ref 183),e P "NotValid" 441 (.ref 202),e P "Nothing" 457 (.ref 214),e P "MOST_WORD" 461 (.int 999 460),e P "DEEDS" 469 (.ref 217),e P "is_whole" 478 (.ref 224),e P "plus" 486 (.ref 231),e P "minus" 494 (.ref 238),e P "times" 502 (.ref 245),e P "least" 510 (.ref 252),e P "most" 518 (.ref 259),e P "less" 526 (.ref 266),e P "over" 534 (.ref 273),e P "pick" 543 (.ref 280),e P "MADE" 558 (.ref 281),e P "done" 567 (.ref 288),e P "MOST_SURE" 571 (.int 64 570),e P "MOST_ROWS" 573 (.int 40 572),e P "MOST_PLACE" 575 (.int 63 574),e P "DEED_PARTS" 578 (.ref 289),e P "OTHER_PARTS" 604 (.ref 290),e P "READERS" 607 (.ref 297),e P "WRITERS" 610 (.ref 298),e P "parts_of" 617 (.ref 305),e P "makes_word" 624 (.ref 312),e P "place_of" 631 (.ref 319),e P "names_of" 637 (.ref 324),e P "with_names" 645 (.ref 331),e P "may_name" 653 (.ref 338),e P "fits" 662 (.ref 345),e P "is_row" 668 (.ref 350),e P "MOST_CELLS" 672 (.int 64 671),e P "is_cells" 678 (.ref 355),e P "touches" 686 (.ref 362),e P "do_on_cell" 696 (.ref 369),e P "do_row" 710 (.ref 377),e P "MOST_TREE_ROWS" 714 (.int 20 713),e P "MOST_DEEP" 716 (.int 3 715),e P "ZERO" 718 (.int 0 717),e P "ONE" 720 (.int 1 719),e P "is_if" 727 (.ref 384),e P "sight_behind_if" 739 (.ref 391),e P "sight_behind" 750 (.ref 398),e P "is_tree" 757 (.ref 405),e P "listed" 767 (.ref 412),e P "do_tree" 773 (.ref 417),e P "run_tree" 783 (.ref 424),e P "Flat" 855 (.ref 474),e P "flattened" 861 (.ref 483),e P "_law_cell_at" 873 (.ref 490),e P "_law_mixed" 883 (.ref 497),e P "_law_draw" 892 (.ref 504),e P "_law_pick" 901 (.ref 511),e P "_law_place" 912 (.ref 518),e P "_law_row" 918 (.ref 523),e P "_law_rows" 932 (.ref 530),e P "_law_next" 949 (.ref 537),e P "_law_block" 955 (.ref 542),e P "_law_names" 962 (.ref 549),e P "_law_may" 968 (.ref 554),e P "_law_must" 974 (.ref 559),e P "_law_which" 982 (.ref 566),e P "_law_mixed_order" 988 (.ref 571),e P "_law_renamed" 994 (.ref 576),e P "_law_tree_rows" 1014 (.ref 583),e P "_law_tree" 1025 (.ref 590),e P "_law_ask" 1035 (.ref 597),e P "_law_bad_trees" 1043 (.ref 604),e P "law" 1049 (.ref 609)] 90,#[]⟩),(23,⟨.type "dict",b4,.dict #[e P "__module__" 196 (s "lanepacks.errors" 187),e P "__firstlineno__" 200 (.int 2 199),e P "__static_attributes__" 201 (.ref 22),e P "__weakref__" 203 (.ref 25),e P "__doc__" 204 (.none)] 3,#[]⟩),(24,⟨.type "type",b4,.cls {name:= "PackError",bases:=[.type "ValueError"],mro:=[.ref 24,.type "ValueError",.type "Exception",.type "BaseException",.type "object"],ns:=23,qualname:= "PackError",subclasses:=[.ref 37,.ref 49,.ref 68,.ref 80,.ref 92,.ref 104,.ref 116,.ref 128,.ref 140,.ref 159,.ref 171,.ref 183,.ref 202,.ref 214]},#[b3 (.ref 15),b4,b3 (s "PackError" 189),b3 (s "PackError" 197),b3 (.builtin "ValueError.__new__"),b3 (.bool ba)]⟩),kn P 36 214 187 4 35,kc 37 24 "NoBlock" 28 207 215,kn P 48 230 187 6 47,kc 49 24 "NoCells" 40 223 231,(67,⟨.type "dict",b4,.dict #[e P "__module__" 246 (s "lanepacks.errors" 187),e P "__firstlineno__" 250 (.int 8 249),e P "__init__" 258 (.ref 65),e P "__static_attributes__" 260 (.ref 66),e P "__doc__" 261 (.none)] 2,#[]⟩),kc 68 24 "NoRow" 52 239 247,kn P 79 271 187 13 78,kc 80 24 "NoLanes" 71 264 272,kn P 91 287 187 15 90,kc 92 24 "NoPlan" 83 280 288,kn P 103 303 187 17 102,kc 104 24 "NoProgram" 95 296 304,kn P 115 319 187 19 114,kc 116 24 "NoTree" 107 312 320,kn P 127 335 187 21 126,kc 128 24 "NoLoop" 119 328 336,kn P 139 351 187 23 138,kc 140 24 "NoText" 131 344 352,(158,⟨.type "dict",b4,.dict #[e P "__module__" 367 (s "lanepacks.errors" 187),e P "__firstlineno__" 371 (.int 25 370),e P "__init__" 379 (.ref 156),e P "__static_attributes__" 381 (.ref 157),e P "__doc__" 382 (.none)] 2,#[]⟩),kc 159 24 "NoName" 143 360 368,kn P 170 392 187 30 169,kc 171 24 "TooMany" 162 385 393,kn P 182 408 187 32 181,kc 183 24 "TooLong" 174 401 409,(201,⟨.type "dict",b4,.dict #[e P "__module__" 424 (s "lanepacks.errors" 187),e P "__firstlineno__" 428 (.int 34 427),e P "__init__" 436 (.ref 199),e P "__static_attributes__" 438 (.ref 200),e P "__doc__" 439 (.none)] 2,#[]⟩),kc 202 24 "NotValid" 186 417 425,kn P 213 449 187 39 212,kc 214 24 "Nothing" 205 442 450,(217,⟨.type "tuple",b4,.seq #[s "plus" 462,s "minus" 463,s "times" 464,s "least" 465,s "most" 466,s "less" 467,s "over" 468] 0,#[]⟩),f 224 19 "is_whole" (.none) (s "lanepacks.words" 458),c 223 "is_whole" 470 44 3 476,(281,⟨.type "dict",b4,.dict #[e P "plus" 544 (.ref 231),e P "minus" 545 (.ref 238),e P "times" 546 (.ref 245),e P "least" 547 (.ref 252),e P "most" 548 (.ref 259),e P "less" 549 (.ref 266),e P "over" 550 (.ref 273)] 7,#[]⟩),(289,⟨.type "tuple",b4,.seq #[s "row" 576,s "row" 577] 0,#[]⟩),(290,⟨.type "dict",b4,.dict #[e P "number" 579 (.ref 291),e P "pick" 581 (.ref 292),e P "load" 585 (.ref 293),e P "take" 587 (.ref 294),e P "store" 591 (.ref 295),e P "put" 594 (.ref 296)] 6,#[]⟩),(291,⟨.type "tuple",b4,.seq #[s "word" 580] 0,#[]⟩),(292,⟨.type "tuple",b4,.seq #[s "row" 582,s "row" 583,s "row" 584] 0,#[]⟩),(293,⟨.type "tuple",b4,.seq #[s "place" 586] 0,#[]⟩),(294,⟨.type "tuple",b4,.seq #[s "place" 588,s "row" 589,s "row" 590] 0,#[]⟩),(295,⟨.type "tuple",b4,.seq #[s "place" 592,s "row" 593] 0,#[]⟩),(296,⟨.type "tuple",b4,.seq #[s "place" 595,s "row" 596,s "row" 597] 0,#[]⟩),(297,⟨.type "tuple",b4,.seq #[s "load" 605,s "take" 606] 0,#[]⟩),(298,⟨.type "tuple",b4,.seq #[s "store" 608,s "put" 609] 0,#[]⟩),f 305 38 "parts_of" (.none) (s "lanepacks.blocks" 568),c 304 "parts_of" 611 78 1 615,f 312 39 "makes_word" (.none) (s "lanepacks.blocks" 568),c 311 "makes_word" 618 82 1 622,f 338 43 "may_name" (.none) (s "lanepacks.blocks" 568),c 337 "may_name" 646 91 2 651,f 345 44 "fits" (.none) (s "lanepacks.blocks" 568),c 344 "fits" 654 93 3 660,f 350 45 "is_row" (.none) (s "lanepacks.blocks" 568),b 349 "is_row" 663 99 2 666,f 355 48 "is_cells" (.none) (s "lanepacks.running" 669),b 354 "is_cells" 673 109 2 676,f 384 57 "is_if" (.none) (s "lanepacks.trees" 711),c 383 "is_if" 721 142 1 725,f 391 58 "sight_behind_if" (.none) (s "lanepacks.trees" 711),c 390 "sight_behind_if" 728 146 3 737,f 398 59 "sight_behind" (.none) (s "lanepacks.trees" 711),c 397 "sight_behind" 740 156 3 748,f 405 60 "is_tree" (.none) (s "lanepacks.trees" 711),c 404 "is_tree" 751 170 1 755,f 424 63 "run_tree" (.none) (s "lanepacks.trees" 711),c 423 "run_tree" 774 192 2 781,(473,⟨.type "dict",b4,.dict #[e P "__module__" 791 (s "lanepacks.trees" 711),e P "__firstlineno__" 795 (.int 200 794),e P "__init__" 802 (.ref 438),e P "lay" 810 (.ref 445),e P "both" 819 (.ref 452),e P "lay_rows" 825 (.ref 457),e P "lay_if" 835 (.ref 464),e P "masked" 845 (.ref 471),e P "__static_attributes__" 848 (.ref 472),e P "__dict__" 850 (.ref 475),e P "__weakref__" 852 (.ref 476),e P "__doc__" 853 (.none)] 4,#[]⟩),(474,⟨.type "type",b4,.cls {name:= "Flat",bases:=[.type "object"],mro:=[.ref 474,.type "object"],ns:=473,qualname:= "Flat"},#[b4,b4,b3 (s "Flat" 784),b3 (s "Flat" 792),b3 (.builtin "object.__new__"),b3 (.bool ba)]⟩),f 483 65 "flattened" (.none) (s "lanepacks.trees" 711),b 482 "flattened" 856 240 1 859,f 490 67 "_law_cell_at" (.none) m,c 489 "_law_cell_at" 864 253 2 871,f 497 68 "_law_mixed" (.none) m,c 496 "_law_mixed" 874 262 3 881,f 504 69 "_law_draw" (.none) m,c 503 "_law_draw" 884 265 3 890,f 511 70 "_law_pick" (.none) m,c 510 "_law_pick" 893 268 3 899,f 518 71 "_law_place" (.none) m,c 517 "_law_place" 902 270 5 910,f 523 72 "_law_row" (.none) m,b 522 "_law_row" 913 273 5 916,f 530 73 "_law_rows" (.none) m,c 529 "_law_rows" 919 291 4 930,f 537 74 "_law_next" (.none) m,c 536 "_law_next" 933 303 6 947,f 542 75 "_law_block" (.none) m,b 541 "_law_block" 950 314 3 953,f 549 76 "_law_names" (.none) m,c 548 "_law_names" 956 323 1 960,f 554 77 "_law_may" (.none) m,b 553 "_law_may" 963 327 2 966,f 559 78 "_law_must" (.none) m,b 558 "_law_must" 969 332 1 972,f 566 79 "_law_which" (.none) m,c 565 "_law_which" 975 344 1 980,f 571 80 "_law_mixed_order" (.none) m,b 570 "_law_mixed_order" 983 352 3 986,f 576 81 "_law_renamed" (.none) m,b 575 "_law_renamed" 989 359 2 992,f 583 82 "_law_tree_rows" (.none) m,c 582 "_law_tree_rows" 995 364 6 1012,f 590 83 "_law_tree" (.none) m,c 589 "_law_tree" 1015 384 3 1023,f 597 84 "_law_ask" (.none) m,c 596 "_law_ask" 1026 388 3 1033,f 604 85 "_law_bad_trees" (.none) m,c 603 "_law_bad_trees" 1036 393 1 1041,f 609 86 "law" (.none) m,b 608 "law" 1044 399 1 1047]
noncomputable def A:List Nat:=[3,23,24,36,37,48,49,67,68,79,80,91,92,103,104,115,116,127,128,139,140,158,159,170,171,182,183,201,202,213,214,217,224,223,281,289,290,291,292,293,294,295,296,297,298,305,304,312,311,338,337,345,344,350,349,355,354,384,383,391,390,398,397,405,404,424,423,473,474,483,482,490,489,497,496,504,503,511,510,518,517,523,522,530,529,537,536,542,541,549,548,554,553,559,558,566,565,571,570,576,575,583,582,590,589,597,596,604,603,609,608]
noncomputable def view:Av:={Mu with main:={PySem.Challenge.pw_lanepacks_k28_trees.main with body:=[1,2,3,4,5,6,7,8,9,10,11,12,13,14,15,17,18,19,20,21,22,23,24,25,26,27,28,29,31,32,33,34,35,36,37,38,39,40,41,42,43,44,45,47,48,49,50,53,54,55,56,57,58,59,60,61,62,63,64,65,67,68,69,70,71,72,73,74,75,76,77,78,79,80,81,82,83,84,85,86].map RR.top}}
abbrev lo:List Uq:=["MADE","OTHER_PARTS","do_row"]
def kA(P:Qc):A=(K P).map (·.1):=by kernel_rfl
noncomputable def X(s:Af):Bool:=xlAt view [] s&&recOk (RowW.records (OpenRow.toRowW PySem.Challenge.rw_lanepacks_k28_trees.row)) s
noncomputable abbrev H:Hook:=kHook K A kA
abbrev pr:Av:=PySem.Challenge.rw_lanepacks_k28_trees.row.prog
abbrev go(w:Uu)(b:Bool):Option (Af×Af):=K1 treeTable pr (w.withFollow "special-get-raises" b) 11300
noncomputable abbrev fA(s:Af):=seen ((recsOf view).map (·.name)) (ownsOf view) [] {s with gens:= #[]}
noncomputable abbrev fB(s:Af):=(s.heap.bltView,tabsOk view s)
noncomputable abbrev fC(s:Af):Bool:=s.heap.keysOk (Lu view lo) ((recsOf view).map (·.name)) ((litsOf view).map (·.1)) ((clssOf view (Lu view lo)).map (·.name))&&s.heap.accountedOkI (Gu pr.main.body)&&s.heap.isNs Up&&s.heap.isNs builtinsNs&&tablesOk view s.heap&&X s&&(if ba then s.gens.size==0 else !leftWithCleanup s.gens)
noncomputable abbrev fD(s:Af):=(Sx view (Mh view) s,Pa view (Lu view lo) s,Pb view lo s,Sy view s,Sz view lo s,H.obs s)
noncomputable abbrev fC1(s:Af):Bool:=s.heap.keysOk (Lu view lo) ((recsOf view).map (·.name)) ((litsOf view).map (·.1)) ((clssOf view (Lu view lo)).map (·.name))
noncomputable abbrev fC2(s:Af):Bool:=s.heap.accountedOkI (Gu pr.main.body)
noncomputable abbrev fC3(s:Af):Bool:=s.heap.isNs Up&&s.heap.isNs builtinsNs&&tablesOk view s.heap&&X s&&(if ba then s.gens.size==0 else !leftWithCleanup s.gens)
noncomputable abbrev fG(s:Af):=(Sx view (Mh view) s,Pa view (Lu view lo) s,Pb view lo s,Sy view s,Sz view lo s)
noncomputable abbrev fE(q:Af×Af):=(chkU pr q.1 q.2&&fC2 q.2&&fC3 q.2,H.obs q.2)
set_option maxRecDepth 100000 in
set_option maxHeartbeats 0 in
theorem rAf(w:Uu):(go w bb).map (λq=>fA q.2)=b3 (So view):=by kernel_rfl
set_option maxRecDepth 100000 in
set_option maxHeartbeats 0 in
theorem rBf(w:Uu):(go w bb).map (λq=>fB q.2)=b3 ((Ob,ba)):=by kernel_rfl
set_option maxRecDepth 100000 in
set_option maxHeartbeats 0 in
theorem rCf(w:Uu):(go w bb).map (λq=>fC1 q.2)=b3 (ba):=by kernel_rfl
set_option maxRecDepth 100000 in
set_option maxHeartbeats 0 in
theorem rDf(w:Uu):(go w bb).map (λq=>fG q.2)=b3 ((Qz (Mh view),Mv view (Lu view lo),Mw view lo,Ra view,Rb view lo)):=by kernel_rfl
set_option maxRecDepth 100000 in
set_option maxHeartbeats 0 in
theorem rEf(w:Uu):(go w bb).map fE=b3 ((ba,H.val (w.withFollow "special-get-raises" bb))):=by kernel_rfl
set_option maxRecDepth 100000 in
set_option maxHeartbeats 0 in
theorem rAt(w:Uu):(go w ba).map (λq=>fA q.2)=b3 (So view):=by kernel_rfl
set_option maxRecDepth 100000 in
set_option maxHeartbeats 0 in
theorem rBt(w:Uu):(go w ba).map (λq=>fB q.2)=b3 ((Ob,ba)):=by kernel_rfl
set_option maxRecDepth 100000 in
set_option maxHeartbeats 0 in
theorem rCt(w:Uu):(go w ba).map (λq=>fC1 q.2)=b3 (ba):=by kernel_rfl
set_option maxRecDepth 100000 in
set_option maxHeartbeats 0 in
theorem rDt(w:Uu):(go w ba).map (λq=>fG q.2)=b3 ((Qz (Mh view),Mv view (Lu view lo),Mw view lo,Ra view,Rb view lo)):=by kernel_rfl
set_option maxRecDepth 100000 in
set_option maxHeartbeats 0 in
theorem rEt(w:Uu):(go w ba).map fE=b3 ((ba,H.val (w.withFollow "special-get-raises" ba))):=by kernel_rfl
def cdU{o:Option (Af×Af)}{v:H.α}(h1:o.map (λq=>fC1 q.2)=b3 ba)(h:o.map fE=b3 (ba,v))(g:o.map (λq=>fG q.2)=b3 (Qz (Mh view),Mv view (Lu view lo),Mw view lo,Ra view,Rb view lo)):o.map (λq=>chkU pr q.1 q.2)=b3 ba/\o.map (λq=>fC q.2)=b3 ba/\o.map (λq=>fD q.2)=b3 (Qz (Mh view),Mv view (Lu view lo),Mw view lo,Ra view,Rb view lo,v):=by
 cases o with
 |none=>cases h1
 |some q=>
  have p:fC1 q.2=ba:=Bp h1;obtain⟨n,m⟩:=Fv (Bp h);obtain⟨l,k⟩:=(Ad _ _).mp n;obtain⟨j,i⟩:=(Ad _ _).mp l;have a:fG q.2=_:=Bp g;obtain⟨w,a⟩:=Fv a;obtain⟨u,a⟩:=Fv a;obtain⟨t,a⟩:=Fv a;obtain⟨s,r⟩:=Fv a;refine⟨congrArg b3 j,congrArg b3 ?_,congrArg b3 ?_⟩
  ·obtain⟨b,e⟩:=(Ad _ _).mp k
   obtain⟨c,b⟩:=(Ad _ _).mp b;obtain⟨d,c⟩:=(Ad _ _).mp c;obtain⟨f,d⟩:=(Ad _ _).mp d;exact(Ad _ _).mpr ⟨(Ad _ _).mpr ⟨(Ad _ _).mpr ⟨(Ad _ _).mpr ⟨(Ad _ _).mpr ⟨(Ad _ _).mpr ⟨p,i⟩,f⟩,d⟩,c⟩,b⟩,e⟩
  ·show(Sx view (Mh view) q.2,Pa view (Lu view lo) q.2,Pb view lo q.2,Sy view q.2,Sz view lo q.2,H.obs q.2)=_
   rw[w,u,t,s,r,m]
def jn{o:Option Af}{v:H.α}(b:o.map fA=b3 (So view))(c:o.map fB=b3 (Ob,ba))(hc:o.map fC=b3 ba)(hd:o.map fD=b3 (Qz (Mh view),Mv view (Lu view lo),Mw view lo,Ra view,Rb view lo,v)):o.map (λs=>(openSeen view lo (Gu pr.main.body) X ba s,H.obs s))=b3 (openGood view lo,v):=by
 cases o with
 |none=>cases b
 |some s=>
  have f:fA s=_:=Bp b;have e:fB s=_:=Bp c;have d:fC s=_:=Bp hc;have a:fD s=_:=Bp hd;obtain⟨n,m⟩:=Fv e;obtain⟨l,a⟩:=Fv a;obtain⟨k,a⟩:=Fv a;obtain⟨j,a⟩:=Fv a;obtain⟨i,a⟩:=Fv a;obtain⟨h,g⟩:=Fv a;show b3 ((fA s,s.heap.bltView,fC s,tabsOk view s,Sx view (Mh view) s,Pa view (Lu view lo) s,Pb view lo s,Sy view s,Sz view lo s),H.obs s)=_;rw[f,n,d,m,l,k,j,i,h,g];rfl
def hl:LeftO pr view lo X H.obs H.val 11300:=λw=>byRow2 "special-get-raises" (P:=λw=>(Qy treeTable pr w 11300).map (λs=>(openSeen view lo (Gu pr.main.body) X ba s,H.obs s))=b3 (openGood view lo,H.val w)) (λw=>jn (G1 (rAf w) (cdU (rCf w) (rEf w) (rDf w)).1) (G1 (rBf w) (cdU (rCf w) (rEf w) (rDf w)).1) (G1 (cdU (rCf w) (rEf w) (rDf w)).2.1 (cdU (rCf w) (rEf w) (rDf w)).1) (G1 (cdU (rCf w) (rEf w) (rDf w)).2.2 (cdU (rCf w) (rEf w) (rDf w)).1)) (λw=>jn (G1 (rAt w) (cdU (rCt w) (rEt w) (rDt w)).1) (G1 (rBt w) (cdU (rCt w) (rEt w) (rDt w)).1) (G1 (cdU (rCt w) (rEt w) (rDt w)).2.1 (cdU (rCt w) (rEt w) (rDt w)).1) (G1 (cdU (rCt w) (rEt w) (rDt w)).2.2 (cdU (rCt w) (rEt w) (rDt w)).1)) w
set_option maxRecDepth 100000 in
set_option maxHeartbeats 0 in
theorem said:PySem.Challenge.rw_lanepacks_k28_trees.wellSaid=ba:=by kernel_rfl
end KK
namespace L2
open PySem PySem.Spec PyProof.Rows
abbrev aR:=Sum Int Uq
noncomputable def LC:aR->Uk->Bool
 |.inl k,v=>Ud k v
 |.inr x,v=>Ta x v
def keyH(w:Uu):aR->Int
 |.inl k=>hashInt k
 |.inr x=>hashStr w x
theorem ZZ:∀{k:aR}{v:Uk},LC k v=ba->(∃i t,k=Pc i/\v=Rj i t)∨(∃x t,k=Pd x/\v=Rk x t)
 |.inl i,v,h=>by obtain⟨t,e⟩:=Value.isInt_shape (k:=i) (v:=v) h;exact .inl ⟨i,t,rfl,e⟩
 |.inr x,v,h=>by obtain⟨t,e⟩:=Value.isStrOf_shape (x:=x) (v:=v) h;exact .inr ⟨x,t,rfl,e⟩
def A1(i:Int)(t:Vf):LC (.inl i) (.int i t)=ba:=by simp[LC,Ud]
def A2(x:Uq)(t:Vf):LC (.inr x) (.str x t)=ba:=by simp[LC,Ta]
def oQ(a b:Int):decide ((Pc a:aR)=Pc b)=(a==b):=by
 by_cases e:a=b
 ·subst e;simp
 ·have h : ¬ (Pc a : aR) = Pc b := λq => e (Sum.inl.inj q)
  rw[decide_eq_false h];exact(beq_eq_false_iff_ne.mpr e).symm
def gI(a b:Uq):decide ((Pd a:aR)=Pd b)=decide (a=b):=by
 by_cases e:a=b
 ·subst e;simp
 ·have h : ¬ (Pd a : aR) = Pd b := λq => e (Sum.inr.inj q)
  rw[decide_eq_false h,decide_eq_false e]
def mT(a:Int)(b:Uq):decide ((Pc a:aR)=Pd b)=bb:=decide_eq_false (λq=>nomatch q)
def gU(a:Uq)(b:Int):decide ((Pd a:aR)=Pc b)=bb:=decide_eq_false (λq=>nomatch q)
def aW(prog:Av)(w:Uu):PySem.KeyKind prog w aR where
 is:=LC
 hash:=keyH w
 inj:=λv a b l f=>by
  rcases ZZ l with⟨i,t,rfl,rfl⟩|⟨x,t,rfl,rfl⟩
  ·rcases ZZ f with⟨j,u,rfl,e⟩|⟨y,u,rfl,e⟩
   ·injection e with c _;rw[c]
   ·exact nomatch e
  ·rcases ZZ f with⟨j,u,rfl,e⟩|⟨y,u,rfl,e⟩
   ·exact nomatch e
   ·injection e with c _;rw[c]
 byValue:=λk v h=>by
  rcases ZZ h with⟨i,t,rfl,rfl⟩|⟨x,t,rfl,rfl⟩<;>rfl
 pyHash:=λd h=>by
  rcases ZZ d with⟨i,t,rfl,rfl⟩|⟨x,t,rfl,rfl⟩
  ·exact wpAny_pyHash_int h
  ·exact wpAny_pyHash_str h
 eqBool:=λg d h=>by
  rcases ZZ g with⟨i,t,rfl,rfl⟩|⟨x,t,rfl,rfl⟩
  ·rcases ZZ d with⟨j,u,rfl,rfl⟩|⟨y,u,rfl,rfl⟩
   ·rw[oQ]at h;exact Lv h
   ·rw[mT]at h;exact SeqAt.EqAt.int_str i t y u _ _ _ _ h
  ·rcases ZZ d with⟨j,u,rfl,rfl⟩|⟨y,u,rfl,rfl⟩
   ·rw[gU]at h;exact SeqAt.EqAt.str_int x t j u _ _ _ _ h
   ·rw[gI]at h;exact wpAny_eqBool_str h
 «strs» :=λk x t v h=>by
  rcases ZZ h with⟨i,u,rfl,e⟩|⟨y,u,rfl,e⟩
  ·exact nomatch e
  ·injection e with c _
   subst c;cases v<;>rfl
def G4(prog:Av)(w:Uu)(i:Int)(t:Vf):(aW prog w).is (.inl i) (.int i t)=ba:=A1 i t
def G5(prog:Av)(w:Uu)(x:Uq)(t:Vf):(aW prog w).is (.inr x) (.str x t)=ba:=A2 x t
inductive V where
 |non|bl (b:Bool)|int (i:Int)|str (x:Uq)|byt (b:Array UInt8)|flt (b:UInt64)|ref (a:Ul)|ty (n:String)
 deriving DecidableEq
def bV:V->Uk->Prop
 |.non,u=>u=Value.none
 |.bl b,u=>u=Gm b
 |.int i,u=>∃t,u=Rj i t
 |.str x,u=>∃t,u=Rk x t
 |.byt b,u=>∃t,u=Value.bytes b t
 |.flt b,u=>∃t,u=Ue b t
 |.ref a,u=>u=Bv a
 |.ty n,u=>u=Kt n
abbrev bQ:List V->List Uk->Prop:=Paired bV
def bQ.length{xs:List V}{a:List Uk}(r:bQ xs a):xs.length=a.length:=Od r
theorem bQ.get:∀{xs:List V}{a:List Uk}{i:Nat}{x:V},bQ xs a->xs[i]?=b3 x->∃u,a[i]?=b3 u/\bV x u
 |_,_,_,_,.nil,e=>by simp at e
 |_,_,0,_,.cons r _,e=>by simp at e;subst e;exact⟨_,rfl,r⟩
 |_,_,i+1,x,.cons _ t,e=>by obtain⟨u,h1,h2⟩:=bQ.get (i:=i) (x:=x) t (by simpa using e);exact⟨u,by simpa using h1,h2⟩
theorem bQ.set{x:V}{u:Uk}(r:bV x u):∀{xs:List V}{a:List Uk}(i:Nat),bQ xs a->bQ (xs.set i x) (a.set i u)
 |_,_,_,.nil=>.nil
 |_,_,0,.cons _ t=>.cons r t
 |_,_,i+1,.cons q t=>.cons q (bQ.set r i t)
theorem bQ.append:∀{xs ys:List V}{b a:List Uk},bQ xs b->bQ ys a->bQ (xs++ys) (b++a)
 |_,_,_,_,.nil,s=>s
 |_,_,_,_,.cons r t,s=>.cons r (bQ.append t s)
theorem bQ.take:∀{xs:List V}{a:List Uk}(n:Nat),bQ xs a->bQ (xs.take n) (a.take n)
 |_,_,0,_=>.nil
 |_,_,_+1,.nil=>.nil
 |_,_,n+1,.cons r t=>.cons r (bQ.take n t)
theorem bQ.drop:∀{xs:List V}{a:List Uk}(n:Nat),bQ xs a->bQ (xs.drop n) (a.drop n)
 |_,_,0,r=>r
 |_,_,_+1,.nil=>.nil
 |_,_,n+1,.cons _ t=>bQ.drop n t
noncomputable def PP:Option V->Option Uk->Prop
 |some v,b3 u=>bV v u
 |none,b4=>True
 |_,_=>False
def KV{κ:Type}:List (κ×V)->List (κ×Uk)->Prop:=Paired λ(p:κ×V) (q:κ×Uk)=>p.1=q.1/\bV p.2 q.2
noncomputable def kV:aR->V
 |.inl i=>.int i
 |.inr x=>.str x
inductive HO where
 |lst (xs:List V)
 |tup (xs:List V)
 |dK (kvs:List (aR×V))|dT (kvs:List (List aR×V))
 |set (S:Int->Bool) (n:Nat)
 |ins (C dx:Ul) (fs:List (Uq×V))
 |own (x:Ul)
 |xd (fs:List (Uq×V))
 |met (f x:Ul)
 |nst (xs:List V) (sub:Ul->Option (List V))
 |rng (lo hi:Int)
 |frz (o:Uw) (u:HO)
 |tbl (ps:Array Uk)
 |ext (φ:Uv->Prop)
abbrev Hp:=Ul->Option HO
def upd(H:Hp)(a:Ul)(o:HO):Hp:=λb=>if b=a then b3 o else H b
def cA{H:Hp}{a:Ul}{o:HO}:upd H a o a=b3 o:=by unfold upd;rw[if_pos rfl]
def bZ{H:Hp}{a b:Ul}{o:HO}(h:b≠a):upd H a o b=H b:=by unfold upd;rw[if_neg h]
def QZ{H:Hp}{a b:Ul}{o u:HO}(h:H a=b3 o)(h':H b=b3 u)(d:o≠u):a≠b:=by intro e;subst e;rw[h]at h';exact d (Bp h')
def ZD{H:Hp}{a b:Ul}{o:HO}(h:H a=b3 o)(h':H b=b4):a≠b:=by intro e;subst e;rw[h]at h';cases h'
section
variable(P:Av)(w:Uu)
def Z8(H:Hp)(h:Uv)(a:Ul):HO->Prop
 |.lst xs=>xs.length<=sizeLine/\∃(its:List Uk) (n:Nat),bQ xs its/\h.get? a=b3 {cls:=.type "list",data:=.seq its.toArray n}
 |.tup xs=>xs.length<=sizeLine/\∃its:List Uk,bQ xs its/\IsTup h a its.toArray
 |.dK kvs=>kvs.length<=sizeLine/\(a==Gb)=bb/\∃vs,KV kvs vs/\h.DictOf (aW P w) a vs
 | .dT kvs => kvs.length <= sizeLine /\ (a == Gb) = bb /\ ∃ xs : List (List aR × Ul × Uk),
   Paired (λ(p:List aR×V) (q:List aR×Ul×Uk)=>p.1=q.1/\H q.2.1=b3 (.tup (p.1.map kV))/\bV p.2 q.2.2) kvs xs∧
   ∃o es d,h.get? a=b3 o/\o.ExactDict/\o.data=.dict es d/\es.toList=xs.map (entryOfKey (tupleKind (aW P w)))/\(xs.map (·.1)).Nodup
 |.set S n=>h.SetOf (intKind P w) a S n
 | .ins C dx fs => H dx = b3 (.own a) /\ fs.length <= 1000 /\ dx ≠ a /\ h.get? a = b3 (Tt C dx) ∧
   ∃b,h.Ns1 dx b/\(∀f,PP (fs.lookup f) (b f))/\Tu b (fs.map (·.1))
 |.own _=>∃o,h.get? a=b3 o
 |.xd fs=>∃b,h.Ns1 a b/\∀f,PP (fs.lookup f) (b f)
 |.rng lo hi=>∃t u v,h.get? a=b3 {cls:=.type "range",data:=.fields #[.int lo t,.int hi u,.int 1 v]}
 |.frz o u=>h.get? a=b3 o/\Z8 H h a u
 |.tbl ps=>h.get? a=b3 {cls:=.none,data:=.fields ps}
 |.met f x=>h.get? a=b3 (Rl (.ref f) (.ref x))
 | .nst xs sub => (xs.length <= sizeLine /\ ∃ (its : List Uk) (n : Nat),bQ xs its /\ h.get? a = b3 { cls := .type "list",data := .seq its.toArray n }) ∧
   ∀p zs,sub p=b3 zs->p≠a/\H p=b3 (.own a)/\zs.length<=sizeLine/\∃(its:List Uk) (n:Nat),bQ zs its/\h.get? p=b3 {cls:=.type "list",data:=.seq its.toArray n}
 |.ext c=>c h/\(∃o,h.get? a=b3 o)/\∀h1 h2:Uv,c h1->(∀o,h1.get? a=b3 o->h2.get? a=b3 o)->c h2
def UU(H:Hp)(h:Uv):Prop:=∀a o,H a=b3 o->Z8 P w H h a o
end
section
variable{P:Av}{w:Uu}{H H':Hp}{h h':Uv}{a:Ul}{o:HO}
def Z8.lt(x:Z8 P w H h a o):a<h.objs.size:=by
 cases o with
 |lst xs=>obtain⟨_,_,_,_,e⟩:=x;exact Aq e
 |tup xs=>obtain⟨_,_,_,p⟩:=x;exact p.lt
 |dK kvs=>obtain⟨_,_,_,_,o,_,_,e,_⟩:=x;exact Aq e
 |dT kvs=>obtain⟨_,_,_,_,o,_,_,e,_⟩:=x;exact Aq e
 |set S n=>obtain⟨o,_,_,_,e,_⟩:=x;exact Aq e
 |ins C dx fs=>obtain⟨_,_,_,e,_⟩:=x;exact Aq e
 |own y=>obtain⟨_,e⟩:=x;exact Aq e
 |xd fs=>obtain⟨_,⟨_,_,_,e,_⟩,_⟩:=x;exact Aq e
 |rng lo hi=>obtain⟨_,_,_,e⟩:=x;exact Aq e
 |frz c u=>obtain⟨e,_⟩:=x;exact Aq e
 |tbl ps=>exact Aq (show h.get? a=b3 _ from x)
 |met f y=>exact Aq (show h.get? a=b3 _ from x)
 |nst xs sub=>obtain⟨⟨_,_,_,_,e⟩,_⟩:=x;exact Aq e
 |ext b=>obtain⟨_,⟨_,e⟩,_⟩:=x;exact Aq e
theorem Paired.mapP{α β:Type}{F G:α->β->Prop}:∀{d:List α}{c:List β},Paired F d c->(∀a b,F a b->G a b)->Paired G d c
 |_,_,.nil,_=>.nil
 |_,_,.cons r t,f=>.cons (f _ _ r) (Paired.mapP t f)
def Z8.stay(x:Z8 P w H h a o)(k:∀b u,(b=a∨H b=b3 (.own a))->h.get? b=b3 u->h'.get? b=b3 u)(m:∀b,H b=b3 (.own a)->H' b=b3 (.own a))(J:∀b xs,H b=b3 (.tup xs)->H' b=b3 (.tup xs)):Z8 P w H' h' a o:=by
 induction o with
 |lst xs=>obtain⟨z,its,n,r,e⟩:=x;exact⟨z,its,n,r,k _ _ (.inl rfl) e⟩
 |tup xs=>obtain⟨z,its,r,g,e,c⟩:=x;exact⟨z,its,r,g,k _ _ (.inl rfl) e,c⟩
 |dK kvs=>obtain⟨z,y,vs,r,g,es,i,e,c⟩:=x;exact⟨z,y,vs,r,g,es,i,k _ _ (.inl rfl) e,c⟩
 |dT kvs=>
  obtain⟨z,y,xs,r,g,es,i,e,c⟩:=x;exact⟨z,y,xs,Paired.mapP r λp q z=>⟨z.1,J _ _ z.2.1,z.2.2⟩,g,es,i,k _ _ (.inl rfl) e,c⟩
 |set S n=>obtain⟨g,es,i,t,e,c⟩:=x;exact⟨g,es,i,t,k _ _ (.inl rfl) e,c⟩
 |ins C dx fs=>
  obtain⟨d,z,B,e,l,⟨od,es,i,j,c⟩,r⟩:=x;exact⟨m _ d,z,B,k _ _ (.inl rfl) e,l,⟨od,es,i,k _ _ (.inr d) j,c⟩,r⟩
 |own y=>obtain⟨g,e⟩:=x;exact⟨g,k _ _ (.inl rfl) e⟩
 |xd fs=>obtain⟨l,⟨od,es,i,e,c⟩,r⟩:=x;exact⟨l,⟨od,es,i,k _ _ (.inl rfl) e,c⟩,r⟩
 |rng lo hi=>obtain⟨t,u,v,e⟩:=x;exact⟨t,u,v,k _ _ (.inl rfl) e⟩
 |frz g u F=>obtain⟨e,q⟩:=x;exact⟨k _ _ (.inl rfl) e,F q⟩
 |tbl ps=>
  have e:h.get? a=b3 {cls:=.none,data:=.fields ps}:=x;show h'.get? a=b3 {cls:=.none,data:=.fields ps};exact k a _ (.inl rfl) e
 |met f y=>
  have e:h.get? a=b3 (Rl (.ref f) (.ref y)):=x;show h'.get? a=b3 (Rl (.ref f) (.ref y));exact k a _ (.inl rfl) e
 |nst xs sub=>
  obtain⟨⟨z,I,E,A,M⟩,k2⟩:=x;exact⟨⟨z,I,E,A,k _ _ (.inl rfl) M⟩,λp zs K=>let ⟨O,j,N,G,D,s,L⟩:=k2 p zs K;⟨O,m _ j,N,G,D,s,k _ _ (.inr j) L⟩⟩
 |ext Q=>obtain⟨p,⟨o,e⟩,st⟩:=x;exact⟨st _ _ p λo q=>k _ _ (.inl rfl) q,⟨o,k _ _ (.inl rfl) e⟩,st⟩
def UU.lt(x:UU P w H h)(e:H a=b3 o):a<h.objs.size:=(x a o e).lt
def UU.fresh(x:UU P w H h)(e:h.objs.size<=a):H a=b4:=by
 cases q:H a with
 |none=>rfl
 |some u=>exact absurd (Az (x.lt q) e) (Ck _)
def UU.kept(x:UU P w H h)(k:∀b u,h.get? b=b3 u->h'.get? b=b3 u):UU P w H h':=λa o e=>
 (x a o e).stay (λb u _ q=>k b u q) (λ_ q=>q) λ_ _ q=>q
def UU.laid(x:UU P w H h)(k:∀b u,h.get? b=b3 u->h'.get? b=b3 u)(g:h.objs.size<=a)(new:Z8 P w (upd H a o) h' a o):UU P w (upd H a o) h':=λb u e=>by
 have d:=x.fresh g;by_cases f:b=a
 ·subst f;rw[cA]at e;cases e;exact new
 ·rw[bZ f]at e
  exact(x b u e).stay (λc v _ q=>k c v q) (λc q=>by rw[bZ (ZD q d)];exact q) λc xs q=>by rw[bZ (ZD q d)];exact q
end
def Prt(H:Hp)(a:Ul)(u:HO):Prop:=∃xs sub zs,u=.lst zs/\((∃x,H a=b3 (.own x)/\H x=b3 (.nst xs sub)/\sub a=b3 zs)∨(H a=b3 (.nst xs sub)/\zs=xs))
def Rd(H:Hp)(a:Ul)(u:HO):Prop:=(H a=b3 u∨Prt H a u)∨∃o,H a=b3 (.frz o u)
def Rd.of{H:Hp}{a:Ul}{u:HO}(h:H a=b3 u):Rd H a u:=.inl (.inl h)
def Rd.ok{P:Av}{w:Uu}{H:Hp}{h:Uv}{a:Ul}{u:HO}(r:Rd H a u)(x:UU P w H h):Z8 P w H h a u:=by
 rcases r with(r|⟨xs,sub,zs,rfl,(⟨y,_,e,s⟩|⟨e,rfl⟩)⟩)|⟨o,r⟩
 ·exact x a u r
 ·obtain⟨_,k2⟩:=x y _ e
  obtain⟨_,_,z,i,n,v,g⟩:=k2 _ _ s;exact⟨z,i,n,v,g⟩
 ·exact(show Z8 P w H h a (.nst _ sub) from x a _ e).1
 ·obtain⟨_,q⟩:=x a _ r
  exact q
def Mut:Option HO->Prop
 |some (.lst _)=>True
 |some (.dK _)=>True
 |some (.dT _)=>True
 |some (.set _ _)=>True
 |some (.ins _ _ _)=>True
 |some (.nst _ _)=>True
 |some (.ext _)=>True
 |_=>False
section
variable{P:Av}{w:Uu}{H:Hp}{h h':Uv}{x e:Ul}{o':HO}
def UU.write(ok:UU P w H h)(d:Mut (H x))(l:e=x∨H e=b3 (.own x))(k:∀b u,b≠e->h.get? b=b3 u->h'.get? b=b3 u)(g:∃u,h'.get? e=b3 u)
  (new:Z8 P w (upd H x o') h' x o'):UU P w (upd H x o') h':=λb u q=>by
 have j:∀c y,H c=b3 (.own y)->c≠x:=λc y r z=>by subst z;rw[r]at d;exact d
 have m:∀c xs,H c=b3 (.tup xs)->c≠x:=λc xs r z=>by subst z;rw[r]at d;exact d
 by_cases f:b=x
 ·subst f;rw[cA]at q;cases q;exact new
 ·rw[bZ f]at q
  by_cases a:b=e
  ·have i:H b=b3 (.own x):=by
    rcases l with z|z
    ·exact absurd (a.trans z) f
    ·rw[a];exact z
   rw[q]at i;cases i;obtain⟨v,n⟩:=g;exact⟨v,by rw[a];exact n⟩
  ·refine (ok b u q).stay (λc v hc r => k c v ?_ r) (λc r => by rw [bZ (j c b r)];exact r) λc xs r => by rw [bZ (m c xs r)];exact r
   rcases hc with rfl|hc
   ·exact a
   ·rintro rfl
    rcases l with z|z
    ·exact j c b hc z
    ·rw[hc]at z;cases z;exact f rfl
end
structure Un(fs ex:List Ul)(H H':Hp)(h h':Uv):Prop where
 keep:∀b o,h.get? b=b3 o->H b=b4->b∉fs->b∉ex->h'.get? b=b3 o
 slot:∀b o,h.get? b=b3 o->H b=b4->b∈fs->b∉ex->∃sl,h'.get? b=b3 {o with slots:=sl}
 free:∀b o,h.get? b=b3 o->H b=b4->b∉ex->H' b=b4
 there:∀b o,h.get? b=b3 o->b∉ex->∃o',h'.get? b=b3 o'
 tups:∀b xs,H b=b3 (.tup xs)->H' b=b3 (.tup xs)
 frzs:∀b o u,H b=b3 (.frz o u)->H' b=b3 (.frz o u)
 tbls:∀b ps,H b=b3 (.tbl ps)->∃more,H' b=b3 (.tbl (ps++more))
section
variable{fs fs' ex ex':List Ul}{H H1 H2:Hp}{h h1 h2 h':Uv}{a x e:Ul}{o:HO}
def Un.any(u:Un fs ex H H1 h h1){b:Ul}{a:Uw}(q:h.get? b=b3 a)(n:H b=b4)(c:b∉ex):∃e,h1.get? b=b3 {a with slots:=e}:=by
 by_cases d:b∈fs
 ·exact u.slot b a q n d c
 ·exact⟨a.slots,u.keep b a q n d c⟩
def Un.kept(k:∀b u,h.get? b=b3 u->h'.get? b=b3 u):Un fs ex H H h h':=
 ⟨λb a q _ _ _=>k b a q,λb a q _ _ _=>⟨a.slots,k b a q⟩,λ_ _ _ n _=>n,λb a q _=>⟨a,k b a q⟩,λ_ _ q=>q,λ_ _ _ q=>q,λ_ ps q=>⟨#[],by rw[q];simp⟩⟩
def Un.refl:Un fs ex H H h h:=Un.kept λ_ _ q=>q
def Un.laid(k:∀b u,h.get? b=b3 u->h'.get? b=b3 u)(d:h.objs.size<=a)(c:H a=b4):Un fs ex H (upd H a o) h h' where
 keep:=λb u q _ _ _=>k b u q
 slot:=λb u q _ _ _=>⟨u.slots,k b u q⟩
 free:=λb u q n _=>by rw[bZ (Bb (Az (Aq q) d))];exact n
 there:=λb u q _=>⟨u,k b u q⟩
 tups:=λb xs q=>by rw[bZ (ZD q c)];exact q
 frzs:=λb u xs q=>by rw[bZ (ZD q c)];exact q
 tbls:=λb ps q=>⟨#[],by rw[bZ (ZD q c),q];simp⟩
def Un.write(c:Mut (H x))(j:e=x∨H e=b3 (.own x))(k:∀b u,b≠e->h.get? b=b3 u->h'.get? b=b3 u)(f:∃u,h'.get? e=b3 u):Un fs ex H (upd H x o) h h':=by
 have g:∀b,H b=b4->b≠x:=λb n z=>by subst z;rw[n]at c;exact c
 have i:∀b,H b=b4->b≠e:=λb n z=>by
  subst z;rcases j with r|r
  ·exact g b n r
  ·rw[n]at r;cases r
 have d:∀b u,H b=b3 u->¬Mut (b3 u)->b≠x:=λb u q nm z=>by subst z;rw[q]at c;exact nm c
 refine⟨λb u q n _ _=>k b u (i b n) q,λb u q n _ _=>⟨u.slots,k b u (i b n) q⟩,λb u q n _=>by rw[bZ (g b n)];exact n,λb u q _=>?_,λb xs q=>by rw[bZ (d b _ q λz=>z)];exact q,λb u xs q=>by rw[bZ (d b _ q λz=>z)];exact q,λb ps q=>⟨#[],by rw[bZ (d b _ q λz=>z),q];simp⟩⟩
 by_cases a:b=e
 ·subst a;exact f
 ·exact⟨u,k b u a q⟩
end
def trk(h:Uv)(H:Hp):List Ul:=(Bf h.objs.size).filter λa=>(H a).isSome
def JJ(h:Uv)(H:Hp):Uv:=W.hideAll h (trk h H)
def AW(h:Uv)(H:Hp):(JJ h H).objs.size=h.objs.size:=W.hideAll_size _ _
def gH{h:Uv}{H:Hp}{b:Ul}{o:Uw}(e:h.get? b=b3 o)(n:H b=b4):(JJ h H).get? b=b3 o:=
 Oe _ e λa=>by have q:(H b).isSome=ba:=(Hl.mp a).2;rw[n]at q;simp at q
def dC{h:Uv}{H:Hp}{b:Ul}{o:Uw}(e:(JJ h H).get? b=b3 o):h.get? b=b3 o/\H b=b4:=by
 have a:h.get? b=b3 o:=W.of_hideAll (trk h H) e;refine⟨a,?_⟩;cases q:H b with
 |none=>rfl
 |some x=>
  have c:b∈trk h H:=Hl.mpr ⟨Db.mpr (Aq a),by simp[q]⟩;have z:(JJ h H).get? b=b4:=W.hideAll_none (trk h H) c;rw[z]at e;cases e
structure Mod(K:Ah)(mg:Uq->Option Uk)(base:Uv):Prop where
 kin:K.In base
 glob:base.Ns Up mg
 blt:∃mb,base.Ns builtinsNs mb/\∀x:Uq,x≠ "__name__" ->mb x=Bm x
 nolimit:base.NoLimit
structure Cx where
 prog:Av
 w:Uu
 K:Ah
 mg:Uq->Option Uk
 base:Uv
 A:Cc
 N:List Uq
 s₀:Af
 H₀:Hp
 env:Env
 outer:List Env
 stack:List Env
 ex:List Ul
 fn:Uq->Bool
 calm:Bool
 pn:List (Ul×Uw)
 xe:Uk->Af->Prop
def SN(l:List Env):List Ul:=l.filterMap (·.frame)
abbrev Cx.fs(X:Cx):List Ul:=SN X.outer
def Vis(a:Vb)(x:Uq):Prop:=a.names.lookup x=b3 .local∨a.names.lookup x=b3 .cell∨a.names.lookup x=b3 .free
def Loc(a:Vb)(x:Uq):Prop:=a.names.lookup x=b3 .local∨a.names.lookup x=b3 .cell
def Look(env:Env)(h:Uv)(m:Uq->Option Uk)(x:Uq)(u:Uk):Prop:=
 (env.kindOf x=b3 .local/\m x=b3 u)∨((env.kindOf x=b3 .cell∨env.kindOf x=b3 .free)/\∃c,env.cells.lookup x=b3 c/\h.IsCell c (b3 u))
structure Cx.Ok(X:Cx):Prop where
 mod:Mod X.K X.mg X.base
 kind:X.env.scope.kind=.function
 glob:X.env.globals=Up
 blt:X.env.builtins=builtinsNs
 above:X.s₀.heap.objs.size<=X.env.locals
 inj:∀x y c,X.env.cells.lookup x=b3 c->X.env.cells.lookup y=b3 c->x=y
 has:∀x,(X.env.kindOf x=b3 .cell∨X.env.kindOf x=b3 .free)->∃c,X.env.cells.lookup x=b3 c
 cab:∀x c,X.fn x=ba->X.env.cells.lookup x=b3 c->X.s₀.heap.objs.size<=c
 hd:X.calm=ba->X.A.handled=b4
 frames:X.A.frames=b3 X.stack
 stk:X.stack=X.outer∨(X.stack=X.env::X.outer/\X.env.frame=b3 X.env.locals)
 exf:∀b∈X.ex,b≠X.env.locals/\∀x c,X.env.cells.lookup x=b3 c->c≠b
 bs:∀b o,X.base.get? b=b3 o->X.s₀.heap.get? b=b3 o/\X.H₀ b=b4
 bsz:X.base.objs.size<=X.s₀.heap.objs.size
 noex:∀b o,X.base.get? b=b3 o->b∉X.ex
 exfs:∀b∈X.ex,b∉X.fs
 funs:X.s₀.heap.FunFrames X.base X.outer
 frf:∀b∈X.fs,X.H₀ b=b4
structure cF(X:Cx)(aa:List (Ul×Uw))(σ:List (Option V))(H:Hp)(s:Af):Prop where
 ok:X.Ok
 os:s.os=X.s₀.os
 bare:Ld s.gens
 base:Un X.fs X.ex X.H₀ H X.s₀.heap s.heap
 loc:∃m,s.heap.Ns X.env.locals m/\∀(i:Nat) (x:Uq) (v:V),X.N[i]?=b3 x->σ[i]?=b3 (b3 v)->Vis X.env.scope x->∃u,bV v u/\Look X.env s.heap m x u
 cell:∀x c,X.env.cells.lookup x=b3 c->∃v,s.heap.IsCell c v
 free:H X.env.locals=b4
 freeC:∀x c,X.env.cells.lookup x=b3 c->H c=b4
 pin:∀p∈X.pn++aa,s.heap.get? p.1=b3 p.2/\H p.1=b4/\p.1≠X.env.locals/\p.1∉X.fs/\∀v,p.2.data≠ .cell v
 hok:UU X.prog X.w H s.heap
 len:σ.length=X.N.length
section
variable{X:Cx}{aa:List (Ul×Uw)}{σ:List (Option V)}{H H':Hp}{s:Af}{h':Uv}
def Cx.Ok.nofr(ok:X.Ok){b:Ul}{o:Uw}(e:X.base.get? b=b3 o):b∉X.fs:=λa=>by
 have:=(ok.funs.mem a).1
 rw[e]at this;cases this
def cF.bs(I:cF X aa σ H s):∀b o,X.base.get? b=b3 o->s.heap.get? b=b3 o/\H b=b4:=λb o e=>
 ⟨I.base.keep b o (I.ok.bs b o e).1 (I.ok.bs b o e).2 (I.ok.nofr e) (I.ok.noex b o e),I.base.free b o (I.ok.bs b o e).1 (I.ok.bs b o e).2 (I.ok.noex b o e)⟩
def cF.bk(I:cF X aa σ H s):∀b o,X.base.get? b=b3 o->s.heap.get? b=b3 o:=λb o e=>(I.bs b o e).1
def cF.mod(I:cF X aa σ H s):Mod X.K X.mg X.base:=I.ok.mod
def cF.kIn(I:cF X aa σ H s):X.K.In s.heap:=I.ok.mod.kin.keeps I.bk
def cF.lt(I:cF X aa σ H s):X.env.locals<s.heap.objs.size:=let ⟨_,a,_⟩:=I.loc;a.lt
def cF.sz(I:cF X aa σ H s):X.s₀.heap.objs.size<=s.heap.objs.size:=Fp I.ok.above (Qd I.lt)
def cF.nofs(I:cF X aa σ H s){a:Ul}(h:s.heap.objs.size<=a):a∉X.fs:=λc=>by obtain⟨_,o,b,_⟩:=I.ok.funs.mem c;exact absurd (Az (Aq b) (Fp I.sz h)) (Ck _)
def cF.cne(I:cF X aa σ H s):∀x c,X.env.cells.lookup x=b3 c->c≠X.env.locals:=λx c e z=>by obtain⟨v,o,d,hd⟩:=I.cell x c e;obtain⟨m,⟨o',es,f,a,b,_⟩,_⟩:=I.loc;rw[z,a]at d;cases d;rw[b]at hd;cases hd
def cF.funs(I:cF X aa σ H s):s.heap.FunFrames X.base X.outer:=by
 have all:∀(l:List Env),(∀b∈SN l,b∈X.fs)->X.s₀.heap.FunFrames X.base l->s.heap.FunFrames X.base l:=by
  intro l;induction l with
  |nil=>intro _ _;trivial
  |cons env r g=>
   intro f hl;obtain⟨hk,⟨L,o,a,j,i,hd⟩,h⟩:=hl;have d:L∈X.fs:=f L (by unfold SN;rw[Jl,a];exact Au);obtain⟨k,e⟩:=I.base.slot L o i (I.ok.frf L d) d λz=>I.ok.exfs L z d;exact⟨hk,⟨L,_,a,j,e,hd⟩,g (λb c=>f b (by unfold SN;rw[Jl,a];exact An _ c)) h⟩
 exact all X.outer (λ_ c=>c) I.ok.funs
def cF.stack(I:cF X aa σ H s):s.heap.FunFrames X.base X.stack:=by
 rcases I.ok.stk with e|⟨e,b⟩
 ·rw[e];exact I.funs
 ·rw[e]
  obtain⟨m,a,_⟩:=I.loc;refine .cons (by rw[I.ok.kind];decide) b a ?_ I.funs;exact Heap.get?_none_of_le (Fp I.ok.bsz I.ok.above)
def cF.stkSub(I:cF X aa σ H s):∀b∈SN X.stack,b∈X.env.locals::X.fs:=λb a=>by
 rcases I.ok.stk with e|⟨e,c⟩
 ·rw[e]at a;exact An _ a
 ·rw[e]at a
  unfold SN at a;rw[Jl,c]at a;exact a
def cF.stkFree(I:cF X aa σ H s):∀b∈SN X.stack,H b=b4:=λb a=>by
 rcases Am.mp (I.stkSub b a)with e|a
 ·rw[e];exact I.free
 ·obtain⟨_,o,c,_⟩:=I.ok.funs.mem a
  exact I.base.free b o c (I.ok.frf b a) λz=>I.ok.exfs b z a
def cF.step{g':Array GenState}{t':Nat}{d':Drawn}{ch:List Ul}(I:cF X aa σ H s)(h:∀b∈ch,(b∈X.ex∨X.s₀.heap.objs.size<=b)/\b≠X.env.locals/\(∀x c,X.env.cells.lookup x=b3 c->c≠b)/\∀p∈X.pn++aa,p.1≠b)(keep:∀b o,b≠X.env.locals->b∉X.fs->b∉ch->s.heap.get? b=b3 o->H b=b4->h'.get? b=b3 o)(slot:∀b o,b≠X.env.locals->b∈X.fs->b∉ch->s.heap.get? b=b3 o->H b=b4->∃G,h'.get? b=b3 {o with slots:=G})(f:∀b o,b∉ch->s.heap.get? b=b3 o->H b=b4->H' b=b4)(there:∀b o,b∉ch->s.heap.get? b=b3 o->∃o',h'.get? b=b3 o')(tups:∀b xs,H b=b3 (.tup xs)->H' b=b3 (.tup xs))(D:∀b o u,H b=b3 (.frz o u)->H' b=b3 (.frz o u))(B:∀b ps,H b=b3 (.tbl ps)->∃more,H' b=b3 (.tbl (ps++more)))(ns:∀m,s.heap.Ns X.env.locals m->h'.Ns X.env.locals m)(J:UU X.prog X.w H' h')(R:Ld g'):cF X aa σ H' {s with heap:=h',gens:=g',drawn:=d',toks:=t'}:=by
 have C:∀b o,X.s₀.heap.get? b=b3 o->b≠X.env.locals:=λb o e=>Bb (Az (Aq e) I.ok.above);have j:∀b o,X.s₀.heap.get? b=b3 o->b∉X.ex->b∉ch:=λb o e a y=>by
  rcases(h b y).1 with z|z
  ·exact a z
  ·exact absurd (Az (Aq e) z) (Ck _)
 have N:∀x c,X.env.cells.lookup x=b3 c->∀v,s.heap.IsCell c v->h'.IsCell c v:=λx c e v q0=>by
  obtain⟨o,A,hd⟩:=q0;have g:c∉ch:=λz=>(h c z).2.2.1 x c e rfl;by_cases hc:c∈X.fs
  ·obtain⟨G,q⟩:=slot c o (I.cne x c e) hc g A (I.freeC x c e)
   exact⟨_,q,hd⟩
  ·exact⟨o,keep c o (I.cne x c e) hc g A (I.freeC x c e),hd⟩
 refine⟨I.ok,I.os,R,⟨λb o e n y a=>?_,λb o e n y a=>?_,λb o e n a=>?_,λb o e a=>?_,λb xs e=>tups b xs (I.base.tups b xs e),λb o xs e=>D b o xs (I.base.frzs b o xs e),λb ps e=>?_⟩,?_,λx c e=>?_,?_,λx c e=>?_,λp M=>?_,J,I.len⟩
 ·exact keep b o (C b o e) y (j b o e a) (I.base.keep b o e n y a) (I.base.free b o e n a)
 ·obtain⟨G,t⟩:=I.base.slot b o e n y a
  obtain⟨F,E⟩:=slot b _ (C b o e) y (j b o e a) t (I.base.free b o e n a);exact⟨F,E⟩
 ·obtain⟨o',t⟩:=I.base.there b o e a
  exact f b o' (j b o e a) t (I.base.free b o e n a)
 ·obtain⟨o',t⟩:=I.base.there b o e a
  exact there b o' (j b o e a) t
 ·obtain⟨P,t⟩:=I.base.tbls b ps e
  obtain⟨O,E⟩:=B b _ t;exact⟨P++O,by rw[E,Array.append_assoc]⟩
 ·obtain⟨m,Q,hl⟩:=I.loc
  refine⟨m,ns m Q,λi x v t E S=>?_⟩;obtain⟨u,r,l⟩:=hl i x v t E S;refine⟨u,r,?_⟩;rcases l with l|⟨k,c,e,z⟩
  ·exact .inl l
  ·exact .inr ⟨k,c,e,N x c e _ z⟩
 ·obtain⟨v,z⟩:=I.cell x c e
  exact⟨v,N x c e v z⟩
 ·obtain⟨m,⟨o,_,_,A,_⟩,_⟩:=I.loc
  exact f _ o (λz=>(h _ z).2.1 rfl) A I.free
 ·obtain⟨v,o,A,hd⟩:=I.cell x c e
  exact f c o (λz=>(h c z).2.2.1 x c e rfl) A (I.freeC x c e)
 ·obtain⟨e,n,L,K,d⟩:=I.pin p M
  have g:p.1∉ch:=λz=>(h p.1 z).2.2.2 p M rfl;exact⟨keep p.1 p.2 L K g e n,f p.1 p.2 g e n,L,K,d⟩
def cF.un{t':Nat}(I:cF X aa σ H s)(u:Un X.fs [] H H' s.heap h')(c:UU X.prog X.w H' h'):cF X aa σ H' {s with heap:=h',toks:=t'}:=by
 obtain⟨m,⟨o,es,p,h,r⟩,_⟩:=id I.loc;obtain⟨k,j⟩:=u.any h I.free (by simp);exact I.step (g':=s.gens) (d':=s.drawn) (ch:=[]) (λ_ z=>nomatch z) (λb o _ d _ e n=>u.keep b o e n d (by simp)) (λb o _ d _ e n=>u.slot b o e n d (by simp)) (λb o _ e n=>u.free b o e n (by simp)) (λb o _ e=>u.there b o e (by simp)) u.tups u.frzs u.tbls (λl i=>by obtain⟨o',f,g,a,r'⟩:=i;rw[h]at a;cases a;exact⟨_,f,g,j,r'⟩) c I.bare
def cF.call{g':Array GenState}{t':Nat}{d':Drawn}{ch:List Ul}(I:cF X aa σ H s)(u:Un (SN X.stack) ch H H' s.heap h')(f:UU X.prog X.w H' h')(l:Ld g')(d:∀b∈ch,(b∈X.ex∨X.s₀.heap.objs.size<=b)/\b≠X.env.locals/\(∀x c,X.env.cells.lookup x=b3 c->c≠b)/\∀p∈X.pn++aa,p.1≠b):cF X aa σ H' {s with heap:=h',gens:=g',drawn:=d',toks:=t'}:=by
 obtain⟨m,⟨o,es,y,j,r⟩,_⟩:=id I.loc;obtain⟨t,g⟩:=u.any j I.free λz=>(d _ z).2.1 rfl;exact I.step (ch:=ch) d (λb o g q hc e n=>u.keep b o e n (λz=>(Am.mp (I.stkSub b z)).elim g q) hc) (λb o _ _ hc e n=>u.any e n hc) (λb o hc e n=>u.free b o e n hc) (λb o hc e=>u.there b o e hc) u.tups u.frzs u.tbls (λv k=>by obtain⟨o',h,i,a,r'⟩:=k;rw[j]at a;cases a;exact⟨_,h,i,g,r'⟩) f l
def cF.turned{t':Nat}{it:Ul}(I:cF X aa σ H s)(k:∀b o,b≠it->s.heap.get? b=b3 o->h'.get? b=b3 o)(g:H it=b4)(d:it≠X.env.locals)(h1:it∈X.ex∨X.s₀.heap.objs.size<=it)(h2:∀x c,X.env.cells.lookup x=b3 c->c≠it)(j:∀p∈X.pn++aa,p.1≠it):cF X aa σ H {s with heap:=h',toks:=t'}:=by
 have a:∀b u,H b=b3 u->b≠it:=λb u e z=>by rw[z,g]at e;cases e
 refine I.step (g':=s.gens) (d':=s.drawn) (ch:=[it]) (λb i=>?_) (λb o _ _ hc e _=>k b o (λz=>hc (by simp[z])) e) (λb o _ _ hc e _=>⟨o.slots,k b o (λz=>hc (by simp[z])) e⟩) (λ_ _ _ _ n=>n)
  (λb o hc e=>⟨o,k b o (λz=>hc (by simp[z])) e⟩) (λ_ _ e=>e) (λ_ _ _ e=>e) (λb ps e=>⟨#[],by rw[e];simp⟩) (λm h=>?_) (λb u e=>?_) I.bare
 ·have e : b = it := by simpa using i
  subst e;exact⟨h1,d,h2,j⟩
 ·obtain⟨o,es,l,f,r⟩:=h
  exact⟨o,es,l,k _ o (Di d) f,r⟩
 ·refine (I.hok b u e).stay (λc v hc q => k c v ?_ q) (λ_ q => q) λ_ _ q => q
  rcases hc with z|z
  ·rw[z];exact a b u e
  ·exact a c _ z
def cF.tok(I:cF X aa σ H s)(t:Nat):cF X aa σ H {s with toks:=t}:=I.un (h':=s.heap) (t':=t) Un.refl I.hok
def cF.kept{t':Nat}(I:cF X aa σ H s)(k:∀b u,s.heap.get? b=b3 u->h'.get? b=b3 u):cF X aa σ H {s with heap:=h',toks:=t'}:=I.un (Un.kept k) (I.hok.kept k)
def cF.laid{a:Ul}{o:HO}{t':Nat}(I:cF X aa σ H s)(k:∀b u,s.heap.get? b=b3 u->h'.get? b=b3 u)(c:s.heap.objs.size<=a)(new:Z8 X.prog X.w (upd H a o) h' a o):cF X aa σ (upd H a o) {s with heap:=h',toks:=t'}:=I.un (Un.laid k c (I.hok.fresh c)) (I.hok.laid k c new)
def cF.write{x e:Ul}{o:HO}{t':Nat}(I:cF X aa σ H s)(c:Mut (H x))(d:e=x∨H e=b3 (.own x))(k:∀b u,b≠e->s.heap.get? b=b3 u->h'.get? b=b3 u)(a:∃u,h'.get? e=b3 u)(new:Z8 X.prog X.w (upd H x o) h' x o):cF X aa σ (upd H x o) {s with heap:=h',toks:=t'}:=I.un (Un.write c d k a) (I.hok.write c d k a new)
def cF.weak{a:List (Option V)}(I:cF X aa σ H s)(hl:a.length=σ.length)(w:∀(i:Nat) v,a[i]?=b3 (b3 v)->σ[i]?=b3 (b3 v)):cF X aa a H s:=
 ⟨I.ok,I.os,I.bare,I.base,let ⟨m,c,b⟩:=I.loc;⟨m,c,λi x v f e d=>b i x v f (w i v e) d⟩,I.cell,I.free,I.freeC,I.pin,I.hok,hl.trans I.len⟩
def cF.pins_of{a:List (Ul×Uw)}(I:cF X aa σ H s)(h:∀p∈a,s.heap.get? p.1=b3 p.2/\H p.1=b4/\p.1≠X.env.locals/\p.1∉X.fs/\∀v,p.2.data≠ .cell v):cF X a σ H s:=
 ⟨I.ok,I.os,I.bare,I.base,I.loc,I.cell,I.free,I.freeC,λp b=>(By.mp b).elim (λz=>I.pin p (Bq _ z)) (h p),I.hok,I.len⟩
def G8{N:List Uq}(c:N.Nodup){i j:Nat}{x:Uq}(a:N[i]?=b3 x)(b:N[j]?=b3 x):i=j:=by obtain⟨h1,e⟩:=Ag.mp a;obtain⟨h2,d⟩:=Ag.mp b;exact(Qm c).mp (e.trans d.symm)
def LW{M:Ve}{A:Cc}{E:Uk->Af->Prop}{i:Nat}{x:Uq}{v:V}{u:Uk}{Q:Unit->Af->Prop}(I:cF X aa σ H s)(hN:X.N.Nodup)(hi:X.N[i]?=b3 x)(l:Loc X.env.scope x)(r:bV v u)(h:∀s',cF X aa (σ.set i (b3 v)) H s'->(∃a,Fq a s.heap s'.heap/\(a=X.env.locals∨X.env.cells.lookup x=b3 a))->Q () s')(hf:X.fn x=ba∨X.env.scope.names.lookup x=b3 .local:=by first|exact .inl rfl|exact .inr rfl|assumption):Uo M A (storeName X.env x u) Q E s:=by
 obtain⟨m,hn,hl⟩:=id I.loc;have p6:(X.env.scope.kind== .class || (X.env.scope.kind== .module&&X.env.locals !=X.env.globals))=bb:=by rw[I.ok.kind];rfl
 have B:i<σ.length:=by rw[I.len];exact(Ag.mp hi).1
 have cne:=I.cne;have gj:∀{a:Ul}{h':Uv},(∃o,s.heap.get? a=b3 o/\H a=b4)->Fq a s.heap h'->UU X.prog X.w H h':=λ{a h'} ha f b ob e=>by
  obtain⟨_,_,bu⟩:=ha;refine(I.hok b ob e).stay (λc L hc q=>(f.2 c ?_).trans q) (λ_ q=>q) λ_ _ q=>q;rintro rfl;rcases hc with rfl|hc
  ·rw[bu]at e;cases e
  ·rw[bu]at hc;cases hc
 rcases l with hk|hk
 ·refine wpAny_storeName_local hk hn (λh' Z f => ?_) p6
  obtain⟨oL,_,_,Y,_⟩:=id hn;refine h _ ⟨I.ok,I.os,I.bare,⟨λb o e n F l=>?_,λb o e n F l=>?_,I.base.free,λb o e l=>?_,I.base.tups,I.base.frzs,I.base.tbls⟩,⟨_,Z,λj y R g t e3=>?_⟩,λy c e=>?_,I.free,I.freeC,λp W=>?_,gj ⟨oL,Y,I.free⟩ f,by simpa using I.len⟩ ⟨_,f,.inl rfl⟩
  ·exact(f.2 b (Bb (Az (Aq e) I.ok.above))).trans (I.base.keep b o e n F l)
  ·obtain⟨T,g⟩:=I.base.slot b o e n F l
   exact⟨T,(f.2 b (Bb (Az (Aq e) I.ok.above))).trans g⟩
  ·obtain⟨o',g⟩:=I.base.there b o e l
   exact⟨o',(f.2 b (Bb (Az (Aq e) I.ok.above))).trans g⟩
  ·by_cases C:j=i
   ·subst C
    rw[hi]at g;cases g;rw[Dd B]at t;cases t;exact⟨u,r,.inl ⟨hk,by simp⟩⟩
   ·rw[Bz (Di C)]at t
    obtain⟨S,r',q⟩:=hl j y R g t e3;refine⟨S,r',?_⟩;rcases q with⟨k,e⟩|⟨k,c,e,z⟩
    ·refine .inl ⟨k,?_⟩
     have:y≠x:=λe=>C (G8 hN g (e▸hi))
     simp[this,e]
    ·exact .inr ⟨k,c,e,z.sameBut f (cne y c e)⟩
  ·obtain⟨L,z⟩:=I.cell y c e
   exact⟨L,z.sameBut f (cne y c e)⟩
  ·obtain⟨e,n,O,U,d⟩:=I.pin p W
   exact⟨(f.2 p.1 O).trans e,n,O,U,d⟩
 ·have D:X.fn x=ba:=by
   rcases hf with z|z
   ·exact z
   ·rw[z]at hk;cases hk
  obtain⟨c,hc⟩:=I.ok.has x (.inl hk);obtain⟨L,z⟩:=I.cell x c hc;refine wpAny_storeName_cell I.ok.kind hk hc z (λh' K f=>?_);obtain⟨oc,G,oj⟩:=id z;refine h {s with heap:=h'} ⟨I.ok,I.os,I.bare,⟨λb o e n F l=>?_,λb o e n F l=>?_,I.base.free,λb o e l=>?_,I.base.tups,I.base.frzs,I.base.tbls⟩,⟨m,hn.sameBut f (Di (cne x c hc)),λj y R g t e3=>?_⟩,λy P e=>?_,I.free,I.freeC,λp W=>?_,gj ⟨oc,G,I.freeC x c hc⟩ f,by simpa using I.len⟩ ⟨c,f,.inr hc⟩
  ·exact(f.2 b (Bb (Az (Aq e) (I.ok.cab x c D hc)))).trans (I.base.keep b o e n F l)
  ·obtain⟨T,g⟩:=I.base.slot b o e n F l
   exact⟨T,(f.2 b (Bb (Az (Aq e) (I.ok.cab x c D hc)))).trans g⟩
  ·obtain⟨o',g⟩:=I.base.there b o e l
   exact⟨o',(f.2 b (Bb (Az (Aq e) (I.ok.cab x c D hc)))).trans g⟩
  ·by_cases C:j=i
   ·subst C
    rw[hi]at g;cases g;rw[Dd B]at t;cases t;exact⟨u,r,.inr ⟨.inl hk,c,hc,K⟩⟩
   ·rw[Bz (Di C)]at t
    obtain⟨S,r',q⟩:=hl j y R g t e3;refine⟨S,r',?_⟩;rcases q with q|⟨k,P,e,z'⟩
    ·exact .inl q
    ·refine .inr ⟨k,P,e,z'.sameBut f ?_⟩
     rintro rfl;exact C (G8 hN g (I.ok.inj _ _ _ e hc▸hi))
  ·by_cases J:P=c
   ·subst J;exact⟨_,K⟩
   ·obtain⟨w2,z2⟩:=I.cell y P e
    exact⟨w2,z2.sameBut f J⟩
  ·obtain⟨e,n,O,U,d⟩:=I.pin p W
   refine⟨(f.2 p.1 ?_).trans e,n,O,U,d⟩;intro q;rw[q,G]at e;have q':oc=p.2:=Bp e;exact d L (by rw[<-q'];exact oj)
def YX{M:Ve}{A:Cc}{E:Uk->Af->Prop}{i:Nat}{x:Uq}{v:V}{u:Uk}{Q:Unit->Af->Prop}(I:cF X aa σ H s)(c:X.N.Nodup)(hi:X.N[i]?=b3 x)(a:Loc X.env.scope x)(r:bV v u)(h:∀s',cF X aa (σ.set i (b3 v)) H s'->Q () s')(b:X.fn x=ba∨X.env.scope.names.lookup x=b3 .local:=by first|exact .inl rfl|exact .inr rfl|assumption):Uo M A (storeName X.env x u) Q E s:=
 LW I c hi a r (λs' d _=>h s' d) b
def cF.call'{s':Af}{ch:List Ul}(I:cF X aa σ H s)(f:s'.os=s.os)(u:Un (SN X.stack) ch H H' s.heap s'.heap)(a:UU X.prog X.w H' s'.heap)(g:Ld s'.gens)(d:∀b∈ch,(b∈X.ex∨X.s₀.heap.objs.size<=b)/\b≠X.env.locals/\(∀x c,X.env.cells.lookup x=b3 c->c≠b)/\∀p∈X.pn++aa,p.1≠b):cF X aa σ H' s':=by obtain⟨h',g',d',t',o'⟩:=s';have e:o'=s.os:=f;subst e;exact I.call (g':=g') (t':=t') (d':=d') u a g d
end
abbrev XK:=Uk->Option Ul->Hp->Prop
abbrev St:=List (Option V)
abbrev VK:=V->Hp->Prop
abbrev TE:=St->Hp->VK->Prop
abbrev TT:=St->Hp->(Bool->Hp->Prop)->Prop
abbrev TA:=St->Hp->(List V->Hp->Prop)->Prop
structure MS where
 nx:St->Hp->Prop
 rt:VK
 bk:St->Hp->Prop:=λ_ _=>False
 ct:St->Hp->Prop:=λ_ _=>False
abbrev TS:=MS->St->Hp->Prop
inductive EPi(X:Cx)(aa:List (Ul×Uw))(σ:St)(Q:VK)(u:Uk)(s':Af):Prop
 |mk (v:_) (H':_) (h0:cF X aa σ H' s') (h1:bV v u) (h2:Q v H'):EPi X aa σ Q u s'
def EP(X:Cx)(aa:List (Ul×Uw))(σ:St)(Q:VK)(u:Uk)(s':Af):Prop:=EPi X aa σ Q u s'
def TP(X:Cx)(aa:List (Ul×Uw))(σ:St)(Q:Bool->Hp->Prop)(b:Bool)(s':Af):Prop:=∃H',cF X aa σ H' s'/\Q b H'
inductive APi(X:Cx)(aa:List (Ul×Uw))(σ:St)(Q:List V->Hp->Prop)(us:List Uk)(s':Af):Prop
 |mk (vs:_) (H':_) (h0:cF X aa σ H' s') (h1:bQ vs us) (h2:Q vs H'):APi X aa σ Q us s'
def AP(X:Cx)(aa:List (Ul×Uw))(σ:St)(Q:List V->Hp->Prop)(a:List Uk)(s':Af):Prop:=APi X aa σ Q a s'
def SP(X:Cx)(aa:List (Ul×Uw))(D:MS)(f:Flow)(s':Af):Prop:=
 match f with
 |.next=>∃a H',cF X aa a H' s'/\D.nx a H'
 |.brk=>∃a H',cF X aa a H' s'/\D.bk a H'
 |.cont=>∃a H',cF X aa a H' s'/\D.ct a H'
 |.ret u=>∃v a H',cF X aa a H' s'/\bV v u/\D.rt v H'
def PE(X:Cx)(e:Us)(t:TE):Prop:=
 ∀(aa:List (Ul×Uw)) (s:Af) (σ:St) (H:Hp) (Q:VK),cF X aa σ H s->t σ H Q->Uo (Ur X.prog X.w) X.A (eval e X.env) (EP X aa σ Q) X.xe s
def PT(X:Cx)(e:Us)(t:TT):Prop:=
 ∀(aa:List (Ul×Uw)) (s:Af) (σ:St) (H:Hp) (Q:Bool->Hp->Prop),cF X aa σ H s->t σ H Q->Uo (Ur X.prog X.w) X.A (isTrue e X.env (eval e X.env)) (TP X aa σ Q) X.xe s
def PW(X:Cx)(e:Us)(t:TT):Prop:=
 ∀(a:Vd Uk) (aa:List (Ul×Uw)) (s:Af) (σ:St) (H:Hp) (Q:Bool->Hp->Prop),cF X aa σ H s->t σ H Q->Uo (Ur X.prog X.w) X.A (isTrue e X.env a) (TP X aa σ Q) X.xe s
def PW.pt{X:Cx}{e:Us}{t:TT}(h:PW X e t):PT X e t:=h _
def PA(X:Cx)(es:List Us)(t:TA):Prop:=
 ∀(pos:Pos) (aa:List (Ul×Uw)) (s:Af) (σ:St) (H:Hp) (Q:List V->Hp->Prop),cF X aa σ H s->t σ H Q->Uo (Ur X.prog X.w) X.A (spliced (Fb pos (Um es X.env))) (AP X aa σ Q) X.xe s
def PS(X:Cx)(st:Ux)(t:TS):Prop:=
 ∀(aa:List (Ul×Uw)) (s:Af) (σ:St) (H:Hp) (D:MS),cF X aa σ H s->t D σ H->Uo (Ur X.prog X.w) X.A (exec st X.env) (SP X aa D) X.xe s
def WN(X:Cx)(st:List Ux)(t:TS):Prop:=
 ∀(aa:List (Ul×Uw)) (s:Af) (σ:St) (H:Hp) (D:MS),cF X aa σ H s->t D σ H->Uo (Ur X.prog X.w) X.A (execs st X.env) (SP X aa D) X.xe s
def ZL{α:Type}{t:Vd α}{Q b:α->Af->Prop}{M:Ve}{A:Cc}{E:Uk->Af->Prop}{s:Af}(h:Uo M A t Q E s)(c:∀a s,Q a s->b a s):Uo M A t b E s:=Ce h c λ_ _ x=>x
section
variable{X:Cx}
def V8(i:Nat):TE:=λσ H Q=>∃v,σ[i]?=b3 (b3 v)/\Q v H
def tC(v:V):TE:=λ_ H Q=>Q v H
def FI{i:Nat}{x:Uq}{pos:Pos}(k:X.N[i]?=b3 x)(f:Vis X.env.scope x)(hd:(x==("__debug__":Uq))=bb:=by decide)(b:(x==("__classdict__":Uq))=bb:=by decide):PE X (.Name x pos) (V8 i):=by
 intro aa s σ H Q I h;obtain⟨v,e,h⟩:=h;obtain⟨m,g,hl⟩:=I.loc;obtain⟨u,r,l⟩:=hl i x v k e f;have a:EP X aa σ Q u s:=⟨v,H,I,r,h⟩;rcases l with⟨hk,j⟩|⟨hk,c,hc,d⟩
 ·exact Sq (wpAny_loadName_local I.ok.kind hk g j a) hd
 ·rcases hk with hk|hk
  ·exact Sq (wpAny_loadName_cell I.ok.kind hk hc d a) hd
  ·exact Sq (wpAny_loadName_free I.ok.kind hk hc d a b) hd
def XX{i j pos}:PE X (.Constant (.int i) j pos) (tC (.int i)):=λ_ _ _ H _ I h=>wpAny_Constant_int ⟨.int i,H,I.tok _,⟨_,rfl⟩,h⟩
def kM{b j pos}:PE X (.Constant (.bool b) j pos) (tC (.bl b)):=λ_ _ _ H _ I h=>Constant_bool ⟨.bl b,H,I,rfl,h⟩
def pM{j pos}:PE X (.Constant .none j pos) (tC .non):=λ_ _ _ H _ I h=>Constant_none ⟨.non,H,I,rfl,h⟩
def Zc{x j pos}:PE X (.Constant (.str x) j pos) (tC (.str x)):=λ_ _ _ H _ I h=>Calls.Constant_str ⟨.str x,H,I.tok _,⟨_,rfl⟩,h⟩
def Gl(X:Cx)(x:Uq):Prop:=X.env.kindOf x=b3 .globalImplicit
def TM{E:Uk->Af->Prop}{aa:List (Ul×Uw)}{s:Af}{σ:St}{H:Hp}{x:Uq}{u:Uk}{pos:Pos}{Q:Uk->Af->Prop}(I:cF X aa σ H s)(b:Gl X x)(a:X.mg x=b3 u)(h:Q u s)(hd:(x==("__debug__":Uq))=bb:=by decide):Uo (Ur X.prog X.w) X.A (eval (.Name x pos) X.env) Q E s:=
 Kb I.ok.kind b (Calls.loadGlobal_global (by rw[I.ok.glob];exact I.mod.glob.keeps I.bk) a h) hd
def R8{E:Uk->Af->Prop}{aa:List (Ul×Uw)}{s:Af}{σ:St}{H:Hp}{x:Uq}{u:Uk}{pos:Pos}{Q:Uk->Af->Prop}(I:cF X aa σ H s)(d:Gl X x)(c:X.mg x=b4)(a:Bm x=b3 u)(h:Q u s)(b:x≠ "__name__":=by decide)(hd:(x==("__debug__":Uq))=bb:=by decide):Uo (Ur X.prog X.w) X.A (eval (.Name x pos) X.env) Q E s:=by obtain⟨e,h1,h2⟩:=I.mod.blt;exact Kb I.ok.kind d (Calls.loadGlobal_builtin (by rw[I.ok.glob];exact I.mod.glob.keeps I.bk) c (by rw[I.ok.blt];exact h1.keeps I.bk) ((h2 x b).trans a) h) hd
def nH{x:Uq}{v:V}{u:Uk}{pos:Pos}(b:Gl X x)(a:X.mg x=b3 u)(r:bV v u)(hd:(x==("__debug__":Uq))=bb:=by decide):PE X (.Name x pos) (tC v):=
 λ_ _ _ H _ I h=>TM I b a ⟨v,H,I,r,h⟩ hd
def iS{x:Uq}{v:V}{u:Uk}{pos:Pos}(d:Gl X x)(c:X.mg x=b4)(a:Bm x=b3 u)(r:bV v u)(b:x≠ "__name__":=by decide)(hd:(x==("__debug__":Uq))=bb:=by decide):PE X (.Name x pos) (tC v):=
 λ_ _ _ H _ I h=>R8 I d c a ⟨v,H,I,r,h⟩ b hd
variable{a b:Us}{ta tb:TE}{pos:Pos}
def tB(t:TE):TT:=λσ H Q=>t σ H λx H1=>∃c,x=.bl c/\Q c H1
def kQ{e:Us}{t:TE}(h:PE X e t)(c:∀a,isTrue e X.env a=(do let v<-a;Tb e.pos;Ko [v] (truthy v)):=by intro _;rfl):PT X e (tB t):=by intro aa s σ H Q I hw;refine isTrue_plain (ZL (h aa s σ H _ I hw) λv s1 ⟨x,H1,f,b,q1⟩=>?_) (c _);obtain⟨d,rfl,q⟩:=q1;cases b;exact Fj ⟨H1,f,q⟩
variable{tA tB':TT}{rest:List Us}
def tAnd(t u:TT):TT:=λσ H Q=>t σ H λc H1=>if c=ba then u σ H1 Q else Q bb H1
def tOr(t u:TT):TT:=λσ H Q=>t σ H λc H1=>if c=ba then Q ba H1 else u σ H1 Q
def tNot(t:TT):TT:=λσ H Q=>t σ H λc H1=>Q (!c) H1
def lE(b:PT X a tA):PW X (.BoolOp .And [a] pos) tA:=by
 intro d aa s σ H Q I h;refine isTrue_and (ZL (b aa s σ H Q I h) λc s1 e=>?_);cases c with
 |true=>exact isTrue_and_nil e
 |false=>exact e
def eY(b:PT X a tA):PW X (.BoolOp .Or [a] pos) tA:=by
 intro d aa s σ H Q I h;refine isTrue_or (ZL (b aa s σ H Q I h) λc s1 e=>?_);cases c with
 |false=>exact isTrue_or_nil e
 |true=>exact e
def mP(g:PT X a tA)(f:PW X (.BoolOp .And (b::rest) pos) tB'):PW X (.BoolOp .And (a::b::rest) pos) (tAnd tA tB'):=by
 intro e aa s σ H Q I h;refine isTrue_and (ZL (g aa s σ H _ I h) λc s1 ⟨H1,d,q1⟩=>?_);cases c with
 |true=>exact f e aa s1 σ H1 Q d q1
 |false=>exact⟨H1,d,q1⟩
def mD(g:PT X a tA)(f:PW X (.BoolOp .Or (b::rest) pos) tB'):PW X (.BoolOp .Or (a::b::rest) pos) (tOr tA tB'):=by
 intro e aa s σ H Q I h;refine isTrue_or (ZL (g aa s σ H _ I h) λc s1 ⟨H1,d,q1⟩=>?_);cases c with
 |true=>exact⟨H1,d,q1⟩
 |false=>exact f e aa s1 σ H1 Q d q1
def iI(b:PT X a tA):PT X (.UnaryOp .Not a pos) (tNot tA):=by intro aa s σ H Q I h;exact isTrue_not (b aa s σ H (λc H1=>Q (!c) H1) I h)
def jY(ta tb:TE):TE:=λσ H Q=>ta σ H λx H1=>∃c,x=.bl c/\if c=ba then tb σ H1 Q else Q (.bl bb) H1
def iU{op}{t:TE}(h:PE X a t):PE X (.BoolOp op [a] pos) t:=λaa s σ H Q I hw=>BoolOp_one (h aa s σ H Q I hw)
def gJ(g:PE X a ta)(f:PE X (.BoolOp .And (b::rest) pos) tb):PE X (.BoolOp .And (a::b::rest) pos) (jY ta tb):=by
 intro aa s σ H Q I h;refine BoolOp_and (ZL (g aa s σ H _ I h) λv s1 ⟨x,H1,d,e,q1⟩=>?_);obtain⟨c,rfl,q1⟩:=q1;cases e;refine Fj ?_;cases c with
 |true=>exact f aa s1 σ H1 Q d q1
 |false=>exact⟨.bl bb,H1,d,rfl,q1⟩
def tIf(t:TT)(ta tb:TE):TE:=λσ H Q=>t σ H λc H1=>if c=ba then ta σ H1 Q else tb σ H1 Q
def HH{c:Us}(hc:PT X c tA)(g:PE X a ta)(f:PE X b tb):PE X (.IfExp c a b pos) (tIf tA ta tb):=by
 intro aa s σ H Q I h;refine wpAny_IfExp (ZL (hc aa s σ H _ I h) λd s1 ⟨H1,e,q1⟩=>?_);cases d with
 |true=>exact g aa s1 σ H1 Q e q1
 |false=>exact f aa s1 σ H1 Q e q1
end
def X2(K:Ah)(H:Hp)(a:Ul)(xs:List V):Prop:=
 Rd H a (.lst xs)∨
  ∃(o:Uw) (its:Array Uk) (n:Nat),K.lookup a=b3 o/\o.cls=.type "list" /\o.dict=b4/\o.data=.seq its n/\its.size<=sizeLine/\bQ xs its.toList
def WL(K:Ah)(H:Hp)(a:Ul)(xs:List V):Prop:=
 Rd H a (.tup xs)∨
  ∃(o:Uw) (its:Array Uk) (n:Nat),K.lookup a=b3 o/\o.cls=.type "tuple" /\o.data=.seq its n/\its.size<=sizeLine/\bQ xs its.toList
noncomputable def absV:Uk->Option V
 |.none=>b3 .non
 |.bool b=>b3 (.bl b)
 |.int i _=>b3 (.int i)
 |.str x _=>b3 (.str x)
 |.bytes b _=>b3 (.byt b)
 |.float b _=>b3 (.flt b)
 |.ref a=>b3 (.ref a)
 |.type n=>b3 (.ty n)
 |_=>b4
def bV.abs{x:V}{u:Uk}(r:bV x u):absV u=b3 x:=by
 cases x with
 |non=>cases r;rfl
 |bl _=>cases r;rfl
 |int _=>obtain⟨t,rfl⟩:=r;rfl
 |str _=>obtain⟨t,rfl⟩:=r;rfl
 |byt _=>obtain⟨t,rfl⟩:=r;rfl
 |flt _=>obtain⟨t,rfl⟩:=r;rfl
 |ref _=>cases r;rfl
 |ty _=>cases r;rfl
def bV.inj{x y:V}{u:Uk}(r:bV x u)(q:bV y u):x=y:=Bp (r.abs.symm.trans q.abs)
theorem bQ.inj:∀{xs ys:List V}{a:List Uk},bQ xs a->bQ ys a->xs=ys
 |_,_,_,.nil,.nil=>rfl
 |_,_,_,.cons r t,.cons r' t'=>by rw[r.inj r',bQ.inj t t']
section
variable{X:Cx}{aa:List (Ul×Uw)}{σ:St}{H:Hp}{s:Af}{a:Ul}{xs ys:List V}
def X2.of{K:Ah}(h:H a=b3 (.lst xs)):X2 K H a xs:=.inl (.inl (.inl h))
def WL.of{K:Ah}(h:H a=b3 (.tup xs)):WL K H a xs:=.inl (.inl (.inl h))
def cF.list(I:cF X aa σ H s)(h:X2 X.K H a xs):∃its:List Uk,bQ xs its/\PlainL s.heap a its.toArray/\xs.length<=sizeLine:=by
 rcases h with h|⟨o,its,n,hk,hc,hd,b,hz,r⟩
 ·obtain⟨z,its,n,r,e⟩:=h.ok I.hok
  exact⟨its,r,⟨_,n,e,rfl,rfl,rfl⟩,z⟩
 ·refine ⟨its.toList,r,⟨o,n,I.kIn a o hk,hc,hd,by simpa using b⟩,?_⟩
  have e:=r.length;simp only[Gg]at e;lia
def cF.tuple(I:cF X aa σ H s)(h:WL X.K H a xs):∃its:List Uk,bQ xs its/\IsTup s.heap a its.toArray/\xs.length<=sizeLine:=by
 rcases h with h|⟨o,its,n,hk,hc,b,hz,r⟩
 ·obtain⟨z,its,r,p⟩:=h.ok I.hok
  exact⟨its,r,p,z⟩
 ·refine ⟨its.toList,r,⟨o,I.kIn a o hk,hc,n,by simpa using b⟩,?_⟩
  have e:=r.length;simp only[Gg]at e;lia
def cF.list_inj(I:cF X aa σ H s)(h:X2 X.K H a xs)(h':X2 X.K H a ys):xs=ys:=by
 obtain⟨its,r,⟨o,n,e,_,_,d⟩,_⟩:=I.list h;obtain⟨its',r',⟨o',n',b,_,_,d'⟩,_⟩:=I.list h';rw[e]at b;cases b;rw[d]at d';injection d' with c _;have:its=its':=by simpa using congrArg Tv c
 subst this;exact r.inj r'
def cF.tuple_inj(I:cF X aa σ H s)(h:WL X.K H a xs)(h':WL X.K H a ys):xs=ys:=by
 obtain⟨its,r,⟨o,e,_,n,d⟩,_⟩:=I.tuple h;obtain⟨its',r',⟨o',b,_,n',d'⟩,_⟩:=I.tuple h';rw[e]at b;cases b;rw[d]at d';injection d' with c _;have:its=its':=by simpa using congrArg Tv c
 subst this;exact r.inj r'
end
abbrev Cx.wish(X:Cx)(E:Uk->Af->Prop):Cx:={X with xe:=E}
abbrev Cx.nox(X:Cx):Cx:=X.wish λ_ _=>False
def Cx.Ok.wish{X:Cx}(ok:X.Ok)(E:Uk->Af->Prop):(X.wish E).Ok:=
 ⟨ok.mod,ok.kind,ok.glob,ok.blt,ok.above,ok.inj,ok.has,ok.cab,ok.hd,ok.frames,ok.stk,ok.exf,ok.bs,ok.bsz,ok.noex,ok.exfs,ok.funs,ok.frf⟩
def Cx.Ok.unwish{X:Cx}{E:Uk->Af->Prop}(ok:(X.wish E).Ok):X.Ok:=
 ⟨ok.mod,ok.kind,ok.glob,ok.blt,ok.above,ok.inj,ok.has,ok.cab,ok.hd,ok.frames,ok.stk,ok.exf,ok.bs,ok.bsz,ok.noex,ok.exfs,ok.funs,ok.frf⟩
section
variable{X:Cx}{aa:List (Ul×Uw)}{σ:St}{H:Hp}{s:Af}{E:Uk->Af->Prop}
def cF.wish(I:cF X aa σ H s)(E:Uk->Af->Prop):cF (X.wish E) aa σ H s:=⟨I.ok.wish E,I.os,I.bare,I.base,I.loc,I.cell,I.free,I.freeC,I.pin,I.hok,I.len⟩
def cF.unwish(I:cF (X.wish E) aa σ H s):cF X aa σ H s:=⟨I.ok.unwish,I.os,I.bare,I.base,I.loc,I.cell,I.free,I.freeC,I.pin,I.hok,I.len⟩
def SP.unwish{D:MS}{f:Flow}{s':Af}(h:SP (X.wish E) aa D f s'):SP X aa D f s':=by
 cases f with
 |next=>obtain⟨a,H',I,q⟩:=h;exact⟨a,H',I.unwish,q⟩
 |brk=>obtain⟨a,H',I,q⟩:=h;exact⟨a,H',I.unwish,q⟩
 |cont=>obtain⟨a,H',I,q⟩:=h;exact⟨a,H',I.unwish,q⟩
 |ret u=>obtain⟨v,a,H',I,r,q⟩:=h;exact⟨v,a,H',I.unwish,r,q⟩
def WN.nox{st:List Ux}{t:TS}(h:WN X.nox st t):WN X st t:=λaa s σ H D I hw=>
 Ce (h aa s σ H D (I.wish _) hw) (λ_ _ q=>q.unwish) λ_ _ z=>Gx z
end
section
variable{X:Cx}{st:Ux}{rest:List Ux}{t u:TS}{e:Us}{te:TE}{pos:Pos}
def qH:TS:=λD σ H=>D.nx σ H
def tSeq(t u:TS):TS:=λD σ H=>t {D with nx:=u D} σ H
def DP:WN X [] qH:=λ_ _ σ H _ I h=>Jm ⟨σ,H,I,h⟩
def Q4(h1:PS X st t)(h2:WN X rest u):WN X (st::rest) (tSeq t u):=by
 intro aa s σ H D I h;refine wpAny_execs_cons (ZL (h1 aa s σ H {D with nx:=u D} I h) λf s1 q=>?_);cases f with
 |next=>
  obtain⟨a,H',b,q⟩:=q;exact h2 aa s1 a H' D b q
 |ret v=>exact q
 |brk=>exact q
 |cont=>exact q
def cF.quiet{aa:List (Ul×Uw)}{σ:St}{H:Hp}{s:Af}(I:cF X aa σ H s):interactive X.env=bb:=by simp[interactive,I.ok.kind]
def pX(te:TE):TS:=λD σ H=>te σ H λ_ H1=>D.nx σ H1
def DO(b:PE X e te)(a:Hm e b4 pos.line X.env=pure bb:=by rfl):PS X (.Expr e pos) (pX te):=by intro aa s σ H D I h;exact wpAny_Expr_any (ZL (b aa s σ H _ I h) λv s1 ⟨x,H1,c,d,q1⟩=>⟨σ,H1,c,q1⟩) I.quiet a
def tRet(te:TE):TS:=λD σ H=>te σ H D.rt
def FM(b:PE X e te):PS X (.Return (b3 e) pos) (tRet te):=by intro aa s σ H D I h;exact wpAny_Return_some (ZL (b aa s σ H _ I h) λv s1 ⟨x,H1,c,a,q1⟩=>⟨x,σ,H1,c,a,q1⟩)
def tIfS(c:TT)(t u:TS):TS:=λD σ H=>c σ H λb H1=>if b=ba then t D σ H1 else u D σ H1
def Wu{c:Us}{a b:List Ux}{tc:TT}(hc:PT X c tc)(g:WN X a t)(f:WN X b u):PS X (.If c a b pos) (tIfS tc t u):=by
 intro aa s σ H D I h;refine wpAny_If (ZL (hc aa s σ H _ I h) λd s1 ⟨H1,e,q1⟩=>?_);cases d with
 |true=>exact g aa s1 σ H1 D e q1
 |false=>exact f aa s1 σ H1 D e q1
def lB:TS:=λ_ _ _=>False
def BN{a:List Ux}:WN X a lB:=λ_ _ _ _ _ _ h=>h.elim
end
abbrev TG:=V->St->Hp->(St->Hp->Prop)->Prop
abbrev TGs:=List V->St->Hp->(St->Hp->Prop)->Prop
def PG(X:Cx)(b:Us)(t:TG):Prop:=
 ∀(aa:List (Ul×Uw)) (s:Af) (σ:St) (H:Hp) (v:V) (u:Uk) (Q:St->Hp->Prop),cF X aa σ H s->bV v u->t v σ H Q->
  Uo (Ur X.prog X.w) X.A (assign b X.env u) (λ_ s'=>∃a H',cF X aa a H' s'/\Q a H') X.xe s
def CL(X:Cx)(c:List Us)(t:TGs):Prop:=
 ∀(aa:List (Ul×Uw)) (s:Af) (σ:St) (H:Hp) (vs:List V) (b:List Uk) (Q:St->Hp->Prop),cF X aa σ H s->bQ vs b->t vs σ H Q->
  Uo (Ur X.prog X.w) X.A (Vc ((Ut c X.env).map (·.2)) b) (λ_ s'=>∃a H',cF X aa a H' s'/\Q a H') X.xe s
abbrev TSet:=V->V->V->Hp->(Hp->Prop)->Prop
def PSet(X:Cx)(t:TSet):Prop:=
 ∀(aa:List (Ul×Uw)) (s:Af) (σ:St) (H:Hp) (o i v:V) (a b u:Uk) (Q:Hp->Prop),cF X aa σ H s->bV o a->bV i b->bV v u->t o i v H Q->
  Uo (Ur X.prog X.w) X.A (Pe a b u) (λ_ s'=>∃H',cF X aa σ H' s'/\Q H') X.xe s
section
variable{X:Cx}{pos:Pos}
def CY(i:Nat):TG:=λv σ H Q=>Q (σ.set i (b3 v)) H
def Q2{i:Nat}{x:Uq}(c:X.N.Nodup)(hi:X.N[i]?=b3 x)(a:Loc X.env.scope x)(b:X.fn x=ba∨X.env.scope.names.lookup x=b3 .local:=by first|exact .inl rfl|exact .inr rfl|assumption):PG X (.Name x pos) (CY i):=by intro aa s σ H v u Q I r h;exact Hz (YX I c hi a r (λs' d=>⟨_,H,d,h⟩) b)
def gNil:TGs:=λvs σ H Q=>vs=[]/\Q σ H
def iW(t:TG)(u:TGs):TGs:=λvs σ H Q=>∃v r,vs=v::r/\t v σ H λa H'=>u r a H' Q
def JX:CL X [] gNil:=by intro aa s σ H vs a Q I r h;obtain⟨e,h⟩:=h;subst e;cases r;exact Ia ⟨σ,H,I,h⟩
def V6{e:Us}{es:List Us}{t:TG}{u:TGs}(h1:PG X e t)(h2:CL X es u)(c:(Ut (e::es) X.env).map (·.2)=assign e X.env::(Ut es X.env).map (·.2):=by rfl):CL X (e::es) (iW t u):=by
 intro aa s σ H vs i Q I r h;obtain⟨v,g,d,h⟩:=h;subst d;cases r with
 |cons r b=>
  rw[c];refine Ek (ZL (h1 aa s σ H _ _ _ I r h) λ_ s1 ⟨a,H1,f,q1⟩=>?_);exact h2 aa s1 a H1 _ _ Q f b q1
def gTup(K:Ah)(n:Nat)(t:TGs):TG:=λv σ H Q=>∃a xs,v=.ref a/\WL K H a xs/\xs.length=n/\t xs σ H Q
def Xl{es:List Us}{k:Nat}{t:TGs}{n:Nat}(hc:X.calm=ba)(h:CL X es t)(j:(Ut es X.env).length=n:=by rfl)(c:(Ut es X.env).findIdx? (·.1)=b4:=by rfl):PG X (.Tuple es k pos) (gTup X.K n t):=by intro aa s σ H v u Q I r hw;obtain⟨a,xs,l,i,hl,hw⟩:=hw;subst l;cases r;obtain⟨its,d,g,hz⟩:=I.tuple i;refine assign_Tuple_tuple (I.ok.hd hc) g (by simp[j,<-hl,d.length]) c λh' f=>?_;have m:cF X aa σ H {s with heap:=h'}:=I.kept (t':=s.toks) λb o e=>f b o (Bb (Aq e)) e;exact h aa _ σ H xs _ Q m (by simpa using d) hw
def gSub(to a:TE)(t:TSet):TG:=λv σ H Q=>to σ H λo H1=>a σ H1 λi H2=>t o i v H2 λb=>Q σ b
def Zd{o i:Us}{to c:TE}{t:TSet}(j:PE X o to)(hi:PE X i c)(g:PSet X t)(k:∀v,assign (.Subscript o i pos) X.env v=(do
   let a<-Ko [v] (eval o X.env)
   let b<-Ko [v,a] (eval i X.env)
   Tb pos
   Ko [v,a,b] (Pe a b v)
   release [v,a,b] []):=by intro _;rfl):PG X (.Subscript o i pos) (gSub to c t):=by
 intro aa s σ H v u Q I r h;rw[k];refine Ac (Bt (ZL (j aa s σ H _ I h) λa s1 ⟨x,H1,n,f,q1⟩=>?_));refine Ac (Bt (ZL (hi aa s1 σ H1 _ n q1) λb d ⟨y,H2,m,e,q2⟩=>?_));refine Ac (Gh (Ac (Bt (ZL (g aa d σ H2 x y v a b u _ m f e r q2) λ_ q ⟨p,l,q3⟩=>?_))));exact wpAny_release ⟨σ,p,l,q3⟩
def tAsg(te:TE)(g:TG):TS:=λD σ H=>te σ H λx H1=>g x σ H1 D.nx
def QB{tg e:Us}{te:TE}{g:TG}(d:PE X e te)(c:PG X tg g)(b:Ey [tg] e pos.line X.env=pure bb:=by rfl)(hw:Ez [tg] e X.env=pure b4:=by rfl)(h1:(Ut [tg] X.env).map (·.2)=[assign tg X.env]:=by rfl):PS X (.Assign [tg] e pos) (tAsg te g):=by intro aa s σ H D I h;refine wpAny_Assign_stores (ZL (d aa s σ H _ I h) λv s1 ⟨x,H1,f,a,q1⟩=>?_) b hw;rw[h1];exact ZL (c aa s1 σ H1 x v _ f a q1) λ_ i q=>q
def mE{i:Nat}{x:Uq}{e:Us}{te:TE}{ai:Pos}(g:X.N.Nodup)(hi:X.N[i]?=b3 x)(b:Loc X.env.scope x)(f:PE X e te)(c:Hm e (b3 (.Name x ai)) pos.line X.env=pure bb:=by rfl)(d:X.fn x=ba∨X.env.scope.names.lookup x=b3 .local:=by first|exact .inl rfl|exact .inr rfl|assumption):PS X (.Assign [.Name x ai] e pos) (tAsg te (CY i)):=by intro aa s σ H D I h;refine wpAny_Assign_Name (ZL (f aa s σ H _ I h) λv s1 ⟨y,H1,k,a,q1⟩=>?_) c;exact YX k g hi b a (λl j=>⟨_,H1,j,q1⟩) d
def tPar(i j:Nat)(ta:TA):TS:=λD σ H=>ta σ H λvs H1=>∃v w,vs=[v,w]/\D.nx ((σ.set i (b3 v)).set j (b3 w)) H1
def jN{i j:Nat}{x y:Uq}{a b:Us}{ta:TA}{k g pt:Pos}{kt k2 pt2}(hc:X.calm=ba)(t:X.N.Nodup)(hi:X.N[i]?=b3 x)(G:X.N[j]?=b3 y)(m:i≠j)(r:X.env.scope.names.lookup x=b3 .local)(n:X.env.scope.names.lookup y=b3 .local)(J:PA X [a,b] ta)(hw:Ez [.Tuple [.Name x k,.Name y g] kt pt] (.Tuple [a,b] k2 pt2) X.env=pure (b3 [x,y]))(F:Ey [.Tuple [.Name x k,.Name y g] kt pt] (.Tuple [a,b] k2 pt2) pos.line X.env=pure bb:=by rfl):PS X (.Assign [.Tuple [.Name x k,.Name y g] kt pt] (.Tuple [a,b] k2 pt2) pos) (tPar i j ta):=by
 intro aa s σ H D I h;rw[exec_Assign_arm];refine Ac (Gh ?_);rw[F];refine Ac (Aj ?_);rw[if_neg (by decide)];refine Ac (Tuple_ (ZL (J _ aa s σ H _ I h) λz s1 ⟨vs,H1,P,C,q1⟩=>?_));obtain⟨v,w,K,q1⟩:=q1;subst K;obtain⟨d,c,rfl,B,f⟩:∃d c,z=[d,c]/\bV v d/\bV w c:=by
  cases C with
  |cons p q=>
   cases q with
   |cons p' E=>
    cases E;exact⟨_,_,rfl,p,p'⟩
 refine Dq ?_ (by show 2<=sizeLine;decide);have O:cF X aa σ H1 {s1 with heap:=s1.heap.push {cls:=.type "tuple",data:=.seq [d,c].toArray}}:=P.kept (t':=s1.toks) λb o e=>Ae _ e;rw[hw];refine Ac (Aj ?_);show Uo (Ur X.prog X.w) X.A (do rule "assign.swapped-stores";let items<-Jn (.ref s1.heap.objs.size) 2 b4;Vc [λv=>Im X.env y v,λv=>Im X.env x v] items.reverse;pure Flow.next) _ _ _;refine Ac (Ib (Ac (Pf (items:= #[d,c]) (I.ok.hd hc) (Jo s1.heap _) λh' l=>?_)));have M:=O.kept (h':=h') (t':=s1.toks) λb o e=>l b o (Bb (Aq e)) e;show Uo _ _ (Vc [λv=>Im X.env y v,λv=>Im X.env x v] [c,d]>>=λ_=>pure Flow.next) _ _ _;refine Ac (Ek (Io (YX M t G (.inl n) f (λR L=>?_) (.inr n))));refine Ek (Io (YX L t hi (.inl r) B (λQ u=>Ia (Aj ?_)) (.inr r)));rw[Fa _ _ (Di m)]at u;exact⟨_,H1,u,q1⟩
end
section
variable{X:Cx}{pos:Pos}
def Zl(c:TT)(tb:TS):TS:=λD σ H=>∃W:Nat->St->Hp->Prop,(∃m,W m σ H)/\∀m σ H,W m σ H->
 c σ H λb H1=>if b=ba then∃N:St->Hp->Prop,(∀a H',N a H'->∃d,d<m/\W d a H')/\tb {D with nx:=N,ct:=N,bk:=D.nx} σ H1 else D.nx σ H1
def Zk{c:Us}{body:List Ux}{tc:TT}{tb:TS}(o:Rm (Ur X.prog X.w) X.A X.env X.xe)(hc:PT X c tc)(y:WN X body tb):PS X (.While c body [] pos) (Zl tc tb):=by
 intro aa s σ H D I h;obtain⟨W,⟨x,t⟩,turn⟩:=h;refine wpAny_While (codeAny_whileLoop (λn s'=>∃e H',cF X aa e H' s'/\W n e H') ?_ x ⟨σ,H,I,t⟩);rintro n s1 ⟨d,H1,z,r⟩;refine Gc o (ZL (hc aa s1 d H1 _ z (turn n d H1 r)) λb u ⟨H2,q,q2⟩=>?_);cases b with
 |true=>
  obtain⟨N,p,q2⟩:=q2;rw[if_pos rfl];refine Gc o (ZL (y aa u d H2 _ q q2) λf B q3=>?_);cases f with
  |next=>
   obtain⟨a,g,m,j⟩:=q3;obtain⟨k,l,i⟩:=p a g j;exact⟨k,l,a,g,m,i⟩
  |cont=>
   obtain⟨a,g,m,j⟩:=q3;obtain⟨k,l,i⟩:=p a g j;exact⟨k,l,a,g,m,i⟩
  |brk=>exact q3
  |ret v=>exact q3
 |false=>
  rw[if_neg El];exact Jm ⟨d,H2,q,q2⟩
end
structure It where
 go:Nat->Hp->Prop
 yld:Nat->Hp->V->Hp->Prop
 stop:Nat->Hp->Prop
def MD(X:Cx)(aa:List (Ul×Uw))(H:Hp)(b:Ul):Prop:=
 H b=b4/\b≠X.env.locals/\b∉X.fs/\(b∈X.ex∨X.s₀.heap.objs.size<=b)/\(∀x c,X.env.cells.lookup x=b3 c->c≠b)/\∀p∈X.pn++aa,p.1≠b
def cF.fpOk{X:Cx}{aa:List (Ul×Uw)}{σ:St}{H H':Hp}{s:Af}{b:Ul}(I:cF X aa σ H s)(a:s.heap.objs.size<=b)(f:H' b=b4):MD X aa H' b:=by
 refine⟨f,Hi (Az I.lt a),I.nofs a,.inr (Fp I.sz a),λx c e z=>?_,λp d z=>?_⟩
 ·obtain⟨v,q⟩:=I.cell x c e
  exact absurd (Az q.lt (by rw[z];exact a)) (Ck _)
 ·exact absurd (Az (Aq (I.pin p d).1) (by rw[z];exact a)) (Ck _)
structure EN(P:Av)(w:Uu)(K:Ah)(tg:Us)(J:It)(fp:List Ul)(it:Ul)(tn:Nat->Uv->Prop):Prop where
 mem:it∈fp
 obj:∀i h,tn i h->∀b∈fp,∃o,h.get? b=b3 o/\∀v,o.data≠ .cell v
 keep:∀i h h',tn i h->(∀b∈fp,∀o,h.get? b=b3 o->h'.get? b=b3 o)->tn i h'
 item:∀(X:Cx),X.prog=P->X.w=w->X.K=K->X.calm=ba->∀(i:Nat) (aa:List (Ul×Uw)) (s:Af) (σ:St) (H:Hp) (E:Uk->Af->Prop),cF X aa σ H s->(∀b∈fp,MD X aa H b)->tn i s.heap->J.go i H->
  Uo (Ur P w) X.A (pyNext (.ref it)) (λr s1=>∃u,r=b3 u∧
   Uo (Ur P w) X.A (Jp tg (.ref it) u) (λ_ s2=>∃x H',cF X aa σ H' s2/\bV x u/\J.yld i H x H'/\tn (i+1) s2.heap/\∀b∈fp,H' b=b4) E s1) E s
 done:∀(X:Cx),X.prog=P->X.w=w->X.K=K->X.calm=ba->∀(i:Nat) (aa:List (Ul×Uw)) (s:Af) (σ:St) (H:Hp) (E:Uk->Af->Prop),cF X aa σ H s->(∀b∈fp,MD X aa H b)->tn i s.heap->J.stop i H->
  Uo (Ur P w) X.A (pyNext (.ref it)) (λr s1=>r=b4/\cF X aa σ H s1) E s
 self:∀(A:Cc) (i:Nat) (s:Af) (Q:Uk->Af->Prop) (E:Uk->Af->Prop),tn i s.heap->Q (.ref it) s->Uo (Ur P w) A (pyIter (.ref it)) Q E s
abbrev TI:=St->Hp->(It->Hp->Prop)->Prop
def PIE(X:Cx)(aa:List (Ul×Uw))(σ:St)(tg:Us)(R:It->Hp->Prop)(a:Uk)(d:Af):Prop:=
 ∃(it:Ul) (fp:List Ul) (c:Nat->Uv->Prop) (J:It) (H':Hp),a=.ref it/\cF X aa σ H' d/\EN X.prog X.w X.K tg J fp it c/\c 0 d.heap/\(∀b∈fp,MD X aa H' b)/\R J H'
def PI(X:Cx)(tg iter:Us)(a:TI):Prop:=
 ∀(aa:List (Ul×Uw)) (s:Af) (σ:St) (H:Hp) (R:It->Hp->Prop),cF X aa σ H s->a σ H R->
  Uo (Ur X.prog X.w) X.A (eval iter X.env) (λv s1=>Uo (Ur X.prog X.w) X.A (pyIter v) (PIE X aa σ tg R) X.xe s1) X.xe s
def Vg{M:Ve}{A:Cc}{E:Uk->Af->Prop}{s:Af}{tg:Us}{it:Ul}{u:Uk}{o:Uw}{n:String}{vs:Array Uk}{Q:Unit->Af->Prop}(b:s.heap.get? it=b3 o)(hc:o.cls= .type n)(hd:o.data= .fields vs)(c:["enumerate","zip","dict_itemiterator","dict_reverseitemiterator","odict_iterator","itertools.zip_longest","itertools.pairwise"].contains n=bb)(a:Q () s):Uo M A (Jp tg (.ref it) u) Q E s:=by
  unfold Jp;cases tg<;>first
    |exact Aj a
    |(cases u<;>first
        |exact Aj a
        | (refine Ac (wpAny_load b ?_)
           rw[hc,hd];show Uo M A (if(["enumerate","zip","dict_itemiterator","dict_reverseitemiterator","odict_iterator","itertools.zip_longest","itertools.pairwise"].contains n&&vs[0]? ==b3 (rawInt _))=ba then _ else _) Q E s;rw[if_neg (by intro h;rw[c,Bool.false_and]at h;cases h)];exact Aj a))
def Itl(K:Ah)(a:Ul):It:=
 ⟨λi H=>∃xs x,X2 K H a xs/\xs[i]?=b3 x,λi H x H'=>H'=H/\∀xs,X2 K H a xs->xs[i]?=b3 x,λi H=>∃xs,X2 K H a xs/\xs.length<=i⟩
def Itt(K:Ah)(a:Ul):It:=
 ⟨λi H=>∃xs x,WL K H a xs/\xs[i]?=b3 x,λi H x H'=>H'=H/\∀xs,WL K H a xs->xs[i]?=b3 x,λi H=>∃xs,WL K H a xs/\xs.length<=i⟩
def Itr(lo:Int)(n:Nat):It:=⟨λi _=>i<n,λi H x H'=>H'=H/\x=.int (lo+i),λi _=>n<=i⟩
def B8{P:Av}{w:Uu}{K:Ah}{tg:Us}(a it:Ul):EN P w K tg (Itl K a) [it] it (λi h=>h.IsListIter it a i) where
 mem:=by simp
 obj:=λi h st b f=>by
  have e:b=it:=by simpa using f
  subst e;obtain⟨o,e,c,d⟩:=st;exact⟨o,e,λv z=>by rw[d]at z;cases z⟩
 keep:=λi h h' st k=>st.at λo e=>k it (by simp) o e
 item:=by intro X r hw t hc i aa s σ H E I l st q;subst r hw t;obtain⟨xs,x,j,n⟩:=q;obtain⟨its,m,p,hz⟩:=I.list j;obtain⟨u,G,D⟩:=m.get n;obtain⟨B,f1,f2,f3,A,y⟩:=l it (by simp);refine Ma st p.isList (x:=u) (by simpa using G) λh' g C=>?_;have L:cF X aa σ H {s with heap:=h'}:=I.turned (t':=s.toks) (λb o f e=>(C.2 b f).trans e) B f1 f3 A y;obtain⟨o,e,c,d⟩:=id g;exact⟨u,rfl,Vg (s:={s with heap:=h'}) e c d (by decide) ⟨x,H,L,D,⟨rfl,λys F=>by rw[I.list_inj F j];exact n⟩,g,λb f=>(l b f).1⟩⟩
 done:=by intro X r hw t hc i aa s σ H E I l st q;subst r hw t;obtain⟨xs,j,n⟩:=q;obtain⟨its,m,p,hz⟩:=I.list j;obtain⟨B,f1,f2,f3,A,y⟩:=l it (by simp);have hl:=m.length;exact Mi (I.ok.hd hc) st p.isList (by simp;lia) λh' J=>⟨rfl,I.turned (t':=s.toks) (λb o f e=>J b o f e) B f1 f3 A y⟩
 self:=λ_ _ _ _ _ st h=>wpAny_pyIter_listiter st h
def F1{P:Av}{w:Uu}{K:Ah}{tg:Us}(a it:Ul):EN P w K tg (Itt K a) [it] it (λi h=>h.IsTupleIter it a i) where
 mem:=by simp
 obj:=λi h st b f=>by
  have e:b=it:=by simpa using f
  subst e;obtain⟨o,e,c,d⟩:=st;exact⟨o,e,λv z=>by rw[d]at z;cases z⟩
 keep:=λi h h' st k=>st.at λo e=>k it (by simp) o e
 item:=by intro X r hw t hc i aa s σ H E I l st q;subst r hw t;obtain⟨xs,x,j,n⟩:=q;obtain⟨its,m,p,hz⟩:=I.tuple j;obtain⟨u,G,D⟩:=m.get n;obtain⟨B,f1,f2,f3,A,y⟩:=l it (by simp);refine wpAny_pyNext_tuple_item st (show s.heap.IsTuple a its.toArray from p) (x:=u) (by simpa using G) λh' g C=>?_;have L:cF X aa σ H {s with heap:=h'}:=I.turned (t':=s.toks) (λb o f e=>(C.2 b f).trans e) B f1 f3 A y;obtain⟨o,e,c,d⟩:=id g;exact⟨u,rfl,Vg (s:={s with heap:=h'}) e c d (by decide) ⟨x,H,L,D,⟨rfl,λys F=>by rw[I.tuple_inj F j];exact n⟩,g,λb f=>(l b f).1⟩⟩
 done:=by intro X r hw t hc i aa s σ H E I l st q;subst r hw t;obtain⟨xs,j,n⟩:=q;obtain⟨its,m,p,hz⟩:=I.tuple j;obtain⟨B,f1,f2,f3,A,y⟩:=l it (by simp);have hl:=m.length;exact wpAny_pyNext_tuple_end (I.ok.hd hc) st (show s.heap.IsTuple a its.toArray from p) (by simp;lia) λh' J=>⟨rfl,I.turned (t':=s.toks) (λb o f e=>J b o f e) B f1 f3 A y⟩
 self:=λ_ _ _ _ _ st h=>wpAny_pyIter_tupleiter st h
def F0{P:Av}{w:Uu}{K:Qe}{tg:Us}(it:Ul)(lo:Int)(n:Nat):EN P w K tg (Itr lo n) [it] it (λi h=>IsRangeIter h it (lo+(i:Nat)*1) ((n:Int)-(i:Nat)) 1) where
 mem:=by simp
 obj:=λi h st b a=>by
  have e:b=it:=by simpa using a
  subst e;exact⟨_,st,λv z=>by have z':Data.fields _=Data.cell v:=z;cases z'⟩
 keep:=λi h h' st k=>k it (by simp) _ st
 item:=by intro X g hw j hc i aa s σ H E I d st f;subst g hw j;obtain⟨p,f1,f2,f3,m,l⟩:=d it (by simp);have W:=Walks.range (prog:=X.prog) (w:=X.w) (I.ok.hd hc) it lo 1 n;refine W.item i s _ _ f st λv h' tk r c q=>?_;obtain⟨t,rfl⟩:=r;have x:cF X aa σ H {s with heap:=h',toks:=tk}:=I.turned (λb o a e=>q b o (by simpa using a) e) p f1 f3 m l;refine⟨_,rfl,Vg (s:={s with heap:=h',toks:=tk}) (n:= "range_iterator") c rfl rfl (by decide) ⟨.int (lo+i),H,x,⟨t,?_⟩,⟨rfl,rfl⟩,c,λb a=>(d b a).1⟩⟩;rw[Int.mul_one]
 done:=by intro X g hw j hc i aa s σ H E I d st f;subst g hw j;obtain⟨p,f1,f2,f3,m,l⟩:=d it (by simp);exact wpAny_pyNext_range_end (I.ok.hd hc) st (by have:n<=i:=f;lia) λh' u=>⟨rfl,I.turned (t':=s.toks) (λb o a e=>u b o a e) p f1 f3 m l⟩
 self:=λ_ _ _ _ _ st h=>wpAny_pyIter_rangeiter st h
section
variable{X:Cx}{tg:Us}
def Yr(K:Ah)(tl:TE):TI:=λσ H R=>tl σ H λx H1=>∃a,x=.ref a/\(∃xs,X2 K H1 a xs)/\R (Itl K a) H1
def iTup(K:Ah)(tl:TE):TI:=λσ H R=>tl σ H λx H1=>∃a,x=.ref a/\(∃xs,WL K H1 a xs)/\R (Itt K a) H1
def kW{l:Us}{tl:TE}(hl:PE X l tl):PI X tg l (Yr X.K tl):=by
 intro aa s σ H R I h;refine ZL (hl aa s σ H _ I h) λv s1 ⟨x,H1,c,d,q1⟩=>?_;obtain⟨a,e,⟨xs,f⟩,q⟩:=q1;subst e;cases d;obtain⟨its,i,p,hz⟩:=c.list f;refine Gy p.isList ?_;refine⟨s1.heap.objs.size,[s1.heap.objs.size],_,_,H1,rfl,c.kept (t':=s1.toks) λb o e=>Ae _ e,B8 a _,⟨_,As _ rfl,rfl,rfl⟩,λb g=>?_,q⟩;have e:b=s1.heap.objs.size:=by simpa using g
 subst e;exact c.fpOk (Ar _) (c.hok.fresh (Ar _))
def gQ{l:Us}{tl:TE}(hl:PE X l tl):PI X tg l (iTup X.K tl):=by
 intro aa s σ H R I h;refine ZL (hl aa s σ H _ I h) λv s1 ⟨x,H1,c,d,q1⟩=>?_;obtain⟨a,e,⟨xs,f⟩,q⟩:=q1;subst e;cases d;obtain⟨its,i,p,hz⟩:=c.tuple f;refine Hn (show s1.heap.IsTuple a its.toArray from p) ?_;refine⟨s1.heap.objs.size,[s1.heap.objs.size],_,_,H1,rfl,c.kept (t':=s1.toks) λb o e=>Ae _ e,F1 a _,⟨_,As _ rfl,rfl,rfl⟩,λb g=>?_,q⟩;have e:b=s1.heap.objs.size:=by simpa using g
 subst e;exact c.fpOk (Ar _) (c.hok.fresh (Ar _))
def HM{aa:List (Ul×Uw)}{σ:St}{H:Hp}{s:Af}{R:It->Hp->Prop}{E:Uk->Af->Prop}{lo hi:Int}{t u v:Vf}{tk:Nat}(I:cF X aa σ H s)(h1: -(2 ^ 62)<=lo)(h2:lo<2 ^ 62)(f: -(2 ^ 62)<=hi)(d:hi<2 ^ 62)(q:R (Itr lo (hi-lo).toNat) H):Uo (Ur X.prog X.w) X.A (pyIter (.ref s.heap.objs.size)) (PIE X aa σ tg R) E {s with heap:=s.heap.push {cls:=.type "range",data:=.fields #[.int lo t,.int hi u,.int 1 v]},toks:=tk}:=by
 refine wpAny_pyIter_range (Uf ..) (small_one h1 h2 f d) ?_;have a:cF X aa σ H {s with heap:=s.heap.push {cls:=.type "range",data:=.fields #[.int lo t,.int hi u,.int 1 v]},toks:=tk}:=I.kept λb o e=>Ae _ e;refine⟨(s.heap.push {cls:=.type "range",data:=.fields #[.int lo t,.int hi u,.int 1 v]}).objs.size,[(s.heap.push {cls:=.type "range",data:=.fields #[.int lo t,.int hi u,.int 1 v]}).objs.size],_,_,H,rfl,a.kept (t':=tk) λb o e=>Ae _ e,F0 _ lo (hi-lo).toNat,?_,λb c=>?_,q⟩
 ·have h : lo + ((0 : Nat) : Int) * 1 = lo := by simp
  have g:(((hi-lo).toNat:Nat):Int)-((0:Nat):Int)=Ho lo hi 1:=by rw[rangeSize_one];split<;>lia
  show IsRangeIter _ _ (lo+((0:Nat):Int)*1) ((((hi-lo).toNat:Nat):Int)-((0:Nat):Int)) 1;rw[h,g];exact As _ rfl
 ·have e : b = (s.heap.push { cls := .type "range",data := .fields #[.int lo t,.int hi u,.int 1 v] }).objs.size := by simpa using c
  subst e;exact a.fpOk (Ar _) (a.hok.fresh (Ar _))
def gZ(ta:TA):TI:=λσ H R=>ta σ H λvs H1=>∃j:Int,vs=[.int j]/\ -(2 ^ 62)<=j/\j<2 ^ 62/\R (Itr 0 j.toNat) H1
def mQ(ta:TA):TI:=λσ H R=>ta σ H λvs H1=>∃i j:Int,vs=[.int i,.int j]/\(-(2 ^ 62)<=i/\i<2 ^ 62/\ -(2 ^ 62)<=j/\j<2 ^ 62)/\R (Itr i (j-i).toNat) H1
def BK{a:Us}{ta:TA}{p pos:Pos}(g:Gl X "range")(f:X.mg "range"=b4)(i:PA X [a] ta)(d:Um [a] X.env=[(bb,eval a X.env)]:=by rfl):PI X tg (.Call (.Name "range" p) [a] [] pos) (gZ ta):=by
 intro aa s σ H R I h;refine Call_ (R8 I g f boot_range (Em (ZL (i pos aa s σ H _ I h) λl s1 ⟨vs,H1,k,c,q1⟩=>?_) d rfl));obtain⟨j,e,q1,q2,q⟩:=q1;subst e;cases c with
 |cons r b=>
  cases b;obtain⟨t,rfl⟩:=r;exact call_range_1 (HM k (by lia) (by lia) q1 q2 (by simpa using q))
def BL{a b:Us}{ta:TA}{p pos:Pos}(m:Gl X "range")(l:X.mg "range"=b4)(n:PA X [a,b] ta)(k:Um [a,b] X.env=[(bb,eval a X.env),(bb,eval b X.env)]:=by rfl)(c:Um [b] X.env=[(bb,eval b X.env)]:=by rfl):PI X tg (.Call (.Name "range" p) [a,b] [] pos) (mQ ta):=by
 intro aa s σ H R I h;refine Call_ (R8 I m l boot_range (Em (ZL (n pos aa s σ H _ I h) λu s1 ⟨vs,H1,o,f,q1⟩=>?_) (by rw[k,c]) (by rw[c];rfl)));obtain⟨i,j,e,⟨q1,q2,q3,g⟩,q⟩:=q1;subst e;cases f with
 |cons r d=>
  cases d with
  |cons r' d=>
   cases d;obtain⟨t,rfl⟩:=r;obtain⟨t',rfl⟩:=r';exact call_range_2 (HM o q1 q2 q3 g q)
def tFor(d:TI)(g:TG)(tb:TS):TS:=λD σ H=>d σ H λJ H1=>∃W:Nat->Nat->St->Hp->Prop,(∃m,W 0 m σ H1)/\∀i m σ H,W i m σ H->
 (J.stop i H/\D.nx σ H)∨(J.go i H/\∃N:St->Hp->Prop,(∀a H',N a H'->∃c,c<m/\W (i+1) c a H')/\∀x H',J.yld i H x H'->g x σ H' λb H2=>tb {D with nx:=N,ct:=N,bk:=D.nx} b H2)
def NP(fp:List Ul)(h:Uv):List (Ul×Uw):=fp.filterMap λb=>(h.get? b).map λo=>(b,o)
def VC{fp:List Ul}{h:Uv}{b:Ul}{o:Uw}(a:b∈fp)(e:h.get? b=b3 o):(b,o)∈NP fp h:=Kj.mpr ⟨b,a,by rw[e];rfl⟩
def BI{fp:List Ul}{h:Uv}{p:Ul×Uw}(a:p∈NP fp h):p.1∈fp/\h.get? p.1=b3 p.2:=by
 obtain⟨b,c,e⟩:=Kj.mp a;cases q:h.get? b with
 |none=>rw[q]at e;cases e
 |some o=>
  rw[q]at e;have d:(b,o)=p:=Bp e;subst d;exact⟨c,q⟩
def cF.pinned{aa:List (Ul×Uw)}{σ:St}{H:Hp}{s:Af}{fp:List Ul}(I:cF X aa σ H s)(h:∀b∈fp,MD X aa H b)(g:∀b∈fp,∃o,s.heap.get? b=b3 o/\∀v,o.data≠ .cell v):cF X (aa++NP fp s.heap) σ H s:=
 I.pins_of λp f=>(By.mp f).elim (λz=>I.pin p (Br _ z)) λz=>by obtain⟨a,e⟩:=BI z;obtain⟨i,f1,f2,_⟩:=h p.1 a;obtain⟨o,c,d⟩:=g p.1 a;rw[e]at c;cases c;exact⟨e,i,f1,f2,d⟩
def cF.unpinned{aa a:List (Ul×Uw)}{σ:St}{H:Hp}{s:Af}(I:cF X (aa++a) σ H s):cF X aa σ H s:=I.pins_of λp b=>I.pin p (Br _ (Bq _ b))
def eO{iter:Us}{body:List Ux}{Q:TI}{g:TG}{tb:TS}{pos:Pos}(C:Rm (Ur X.prog X.w) X.A X.env X.xe)(hc:X.calm=ba)(hi:PI X tg iter Q)(hg:PG X tg g)(k:WN X body tb)(hs:∀x,Uy iter X.env x=pure x:=by intro _;rfl):PS X (.For tg iter body [] pos) (tFor Q g tb):=by
 intro aa s σ H D I h;refine wpAny_For (ZL (hi aa s σ H _ I h) λv s1 h1=>ZL h1 λitv s2 h2=>?_) hs;obtain⟨it,fp,R,J,H2,e,I2,T,K,f2,W,⟨m0,w0⟩,turn⟩:=h2;subst e;have stat:∀{H':Hp},(∀b∈fp,H' b=b4)->∀b∈fp,MD X aa H' b:=λhn b k=>⟨hn b k,(f2 b k).2⟩;refine codeAny_forLoop_any (λn s'=>∃i j H',cF X aa j H' s'/\R i s'.heap/\(∀b∈fp,H' b=b4)/\W i n j H') ?_ m0 ⟨0,σ,H2,I2,K,λb k=>(f2 b k).1,w0⟩;rintro n U ⟨i,c,F,V,z,E,w3⟩;rcases turn i n c F w3 with⟨y,qn⟩|⟨go,N,hN,step⟩
 ·refine Gc C (ZL (T.done X rfl rfl rfl hc i aa U c F X.xe V (stat E) z y) λr s4 ⟨M,I4⟩ => ?_)
  subst M;exact Jm ⟨c,F,I4,qn⟩
 ·refine Gc C (ZL (T.item X rfl rfl rfl hc i aa U c F X.xe V (stat E) z go) λr s4 ⟨u,M,h4⟩ => ?_)
  subst M;refine Gc C (ZL h4 λ_ S ⟨x,Y,I5,r5,Z,t,O⟩=>?_);have P:=I5.pinned (stat O) (T.obj _ _ t);refine Gc C (ZL (hg _ S c Y x u _ P r5 (step x Y Z)) λ_ s6 ⟨G,H6,I6,q6⟩=>?_);refine Gc C (ZL (k _ s6 G H6 _ I6 q6) λf L q=>?_);have X7:∀{a:St}{p:Hp},cF X (aa++NP fp S.heap) a p L->N a p->∃m,m<n/\∃i j H',cF X aa j H' L/\R i L.heap/\(∀b∈fp,H' b=b4)/\W i m j H':=λ{a p} l B=>by obtain⟨m',hm,w7⟩:=hN a p B;refine⟨m',hm,i+1,a,p,l.unpinned,T.keep _ _ _ t λb k o e=>(l.pin (b,o) (Br _ (Br _ (VC k e)))).1,λb k=>?_,w7⟩;obtain⟨o,e,d⟩:=T.obj _ _ t b k;exact(l.pin (b,o) (Br _ (Br _ (VC k e)))).2.1
  cases f with
  |next=>obtain⟨a,p,l,B⟩:=q;exact X7 l B
  |cont=>obtain⟨a,p,l,B⟩:=q;exact X7 l B
  |brk=>obtain⟨a,p,l,q⟩:=q;exact⟨a,p,l.unpinned,q⟩
  |ret v=>obtain⟨x7,a,p,l,r7,q⟩:=q;exact⟨x7,a,p,l.unpinned,r7,q⟩
end
abbrev R2:=V->V->Hp->VK->Prop
def W7(X:Cx)(f:Uk->Uk->Vd Uk)(r:R2):Prop:=
 ∀(aa:List (Ul×Uw)) (s:Af) (σ:St) (H:Hp) (x y:V) (v u:Uk) (Q:VK),cF X aa σ H s->bV x v->bV y u->r x y H Q->
  Uo (Ur X.prog X.w) X.A (f v u) (EP X aa σ Q) X.xe s
def UnR(X:Cx)(f:Uk->Vd Uk)(r:V->Hp->VK->Prop):Prop:=
 ∀(aa:List (Ul×Uw)) (s:Af) (σ:St) (H:Hp) (x:V) (v:Uk) (Q:VK),cF X aa σ H s->bV x v->r x H Q->
  Uo (Ur X.prog X.w) X.A (f v) (EP X aa σ Q) X.xe s
def Z6(X:Cx)(f:Uk)(r:List V->Hp->VK->Prop):Prop:=
 ∀(aa:List (Ul×Uw)) (s:Af) (σ:St) (H:Hp) (xs:List V) (a:List Uk) (Q:VK),cF X aa σ H s->bQ xs a->r xs H Q->
  Uo (Ur X.prog X.w) X.A (call f a) (EP X aa σ Q) X.xe s
def tOp(r:R2)(ta tb:TE):TE:=λσ H Q=>ta σ H λx H1=>tb σ H1 λy H2=>r x y H2 Q
def tUn(r:V->Hp->VK->Prop)(ta:TE):TE:=λσ H Q=>ta σ H λx H1=>r x H1 Q
def rI(C:Int->Int->Prop)(g:Int->Int->V):R2:=λx y H Q=>∃i j,x=.int i/\y=.int j/\C i j/\Q (g i j) H
def FN(g:Int->Int->V):R2:=λx y H Q=>∃i j,x=.int i/\y=.int j/\Q (g i j) H
def rU(g:Int->V):V->Hp->VK->Prop:=λx H Q=>∃i,x=.int i/\Q (g i) H
section
variable{X:Cx}{a b c:Us}{ta tb tc:TE}{pos:Pos}
def binT(l:PE X a ta)(k:PE X b tb){aa:List (Ul×Uw)}{s:Af}{σ:St}{H:Hp}{R:V->V->Hp->Prop}(I:cF X aa σ H s)(h:ta σ H λx H1=>tb σ H1 λy H2=>R x y H2){Q:Uk->Af->Prop}{f:Uk->Uk->Vd Uk}(j:∀v u e x y H2,cF X aa σ H2 e->bV x v->bV y u->R x y H2->Uo (Ur X.prog X.w) X.A (f v u) Q X.xe e):Uo (Ur X.prog X.w) X.A (eval a X.env) (λv d=>Uo (Ur X.prog X.w) X.A (eval b X.env) (λu c=>Uo (Ur X.prog X.w) X.A (f v u) Q X.xe c) X.xe d) X.xe s:=by refine ZL (l aa s σ H _ I h) λv s1 ⟨x,H1,n,i,q1⟩=>?_;refine ZL (k aa s1 σ H1 _ n q1) λu e ⟨y,H2,m,g,q2⟩=>?_;exact j v u e x y H2 m i g q2
def Xx{op:Operator}{r:R2}(f:W7 X (Fs op) r)(i:PE X a ta)(g:PE X b tb):PE X (.BinOp a op b pos) (tOp r ta tb):=by intro aa s σ H Q I h;exact wpAny_BinOp (binT i g I h λv u c x y H2 j e d q=>f aa c σ H2 x y v u Q j e d q)
def eZ{op:UnaryOp}{r:V->Hp->VK->Prop}(c:UnR X (unaryOp op) r)(d:PE X a ta):PE X (.UnaryOp op a pos) (tUn r ta):=by intro aa s σ H Q I h;exact UnaryOp_ (ZL (d aa s σ H _ I h) λv s1 ⟨x,H1,e,b,q1⟩=>c aa s1 σ H1 x v Q e b q1)
def opI{f:Uk->Uk->Vd Uk}{C:Int->Int->Prop}{g:Int->Int->Int}(rule:∀(i j:Int) (t u:Vf) (s:Af) (Q:Uk->Af->Prop) (E:Uk->Af->Prop),C i j->Q (.int (g i j) s.toks) {s with toks:=s.toks+1}->Uo (Ur X.prog X.w) X.A (f (.int i t) (.int j u)) Q E s):W7 X f (rI C λi j=>.int (g i j)):=by intro aa s σ H x y v u Q I b a h;obtain⟨i,j,rfl,rfl,hc,q⟩:=h;obtain⟨t,rfl⟩:=b;obtain⟨t',rfl⟩:=a;exact rule i j t t' s _ _ hc ⟨.int (g i j),H,I.tok _,⟨_,rfl⟩,q⟩
def opI0{f:Uk->Uk->Vd Uk}{g:Int->Int->Int}(rule:∀(i j:Int) (t u:Vf) (s:Af) (Q:Uk->Af->Prop) (E:Uk->Af->Prop),Q (.int (g i j) s.toks) {s with toks:=s.toks+1}->Uo (Ur X.prog X.w) X.A (f (.int i t) (.int j u)) Q E s):W7 X f (FN λi j=>.int (g i j)):=by intro aa s σ H x y v u Q I b a h;obtain⟨i,j,rfl,rfl,q⟩:=h;obtain⟨t,rfl⟩:=b;obtain⟨t',rfl⟩:=a;exact rule i j t t' s _ _ ⟨.int (g i j),H,I.tok _,⟨_,rfl⟩,q⟩
def opB0{f:Uk->Uk->Vd Uk}{g:Int->Int->Bool}(rule:∀(i j:Int) (t u:Vf) (s:Af) (Q:Uk->Af->Prop) (E:Uk->Af->Prop),Q (.bool (g i j)) s->Uo (Ur X.prog X.w) X.A (f (.int i t) (.int j u)) Q E s):W7 X f (FN λi j=>.bl (g i j)):=by intro aa s σ H x y v u Q I b a h;obtain⟨i,j,rfl,rfl,q⟩:=h;obtain⟨t,rfl⟩:=b;obtain⟨t',rfl⟩:=a;exact rule i j t t' s _ _ ⟨.bl (g i j),H,I,rfl,q⟩
def CDiv(i j:Int):Prop:=0<j/\j<1073741824
def CPow(i j:Int):Prop:=0<=j/\j<=1000000/\i.natAbs<2 ^ 64
def CMul(i j:Int):Prop:=(-(2 ^ 64)<i/\i<2 ^ 64)∨(-(2 ^ 64)<j/\j<2 ^ 64)
def CMul.ok{i j:Int}(h:CMul i j):IntMulOk i j:=by
 rcases h with⟨h1,h2⟩|⟨h1,h2⟩
 ·exact .of_left (intBits_le_64 h1 h2)
 ·exact .of_right (intBits_le_64 h1 h2)
def zIH:W7 X (Fs .Add) (FN λi j=>.int (i+j)):=opI0 λ_ _ _ _ _ _ _ q=>add_int q
def WR:W7 X (Fs .Sub) (FN λi j=>.int (i-j)):=opI0 λ_ _ _ _ _ _ _ q=>sub_int q
def qh:W7 X (Fs .Mult) (rI CMul λi j=>.int (i*j)):=opI λ_ _ _ _ _ _ _ hc q=>mul_int q hc.ok
def JU:W7 X (Fs .FloorDiv) (rI CDiv λi j=>.int (i/j)):=opI λi j _ _ _ _ _ hc q=>by have h1:(0:Int)<j:=hc.1;have h2:j<1073741824:=hc.2;exact floordiv_int (by lia) (by rw[Int.fdiv_eq_ediv_of_nonneg i (by lia)];exact q) (.inl (PyProof.noPylong_small (by lia)))
def UJ:W7 X (Fs .Mod) (rI (λ_ j=>0<j) λi j=>.int (i % j)):=opI λi j _ _ _ _ _ hc q=>by have h1:(0:Int)<j:=hc;exact mod_int' (by lia) (by rw[Int.fmod_eq_emod_of_nonneg i (by lia)];exact q)
def eK:W7 X (Fs .Pow) (rI CPow λi j=>.int (i ^ j.toNat)):=opI λ_ _ _ _ _ _ _ hc q=>pow_int_small hc.1 hc.2.1 hc.2.2 q
def unI{f:Uk->Vd Uk}{g:Int->Int}(rule:∀(i:Int) (t:Vf) (s:Af) (Q:Uk->Af->Prop) (E:Uk->Af->Prop),Q (.int (g i) s.toks) {s with toks:=s.toks+1}->Uo (Ur X.prog X.w) X.A (f (.int i t)) Q E s):UnR X f (rU λi=>.int (g i)):=by intro aa s σ H x v Q I a h;obtain⟨i,rfl,q⟩:=h;obtain⟨t,rfl⟩:=a;exact rule i t s _ _ ⟨.int (g i),H,I.tok _,⟨_,rfl⟩,q⟩
def iO:UnR X (unaryOp .USub) (rU λi=>.int (-i)):=unI λ_ _ _ _ _ q=>neg_int q
end
section
variable{X:Cx}{a b c:Us}{ta tb tc:TE}{pos:Pos}
def JH{aa:List (Ul×Uw)}{σ:St}{H:Hp}{s:Af}{Q:VK}{k k':Bool}(I:cF X aa σ H s)(q:Q (.bl k) H)(e:k=k'):EP X aa σ Q (.bool k') s:=by subst e;exact⟨.bl k,H,I,rfl,q⟩
def HD:W7 X (Ct .Lt) (FN λi j=>.bl (decide (i<j))):=opB0 λ_ _ _ _ _ _ _ q=>lt_int q
def HC:W7 X (Ct .LtE) (FN λi j=>.bl (decide (i<=j))):=opB0 λ_ _ _ _ _ _ _ q=>le_int q
def HB:W7 X (Ct .Gt) (FN λi j=>.bl (decide (j<i))):=opB0 λ_ _ _ _ _ _ _ q=>gt_int q
def dR:W7 X (Ct .GtE) (FN λi j=>.bl (decide (j<=i))):=opB0 λ_ _ _ _ _ _ _ q=>ge_int q
def FF:W7 X (Ct .Is) (λx y H Q=>y=.non/\Q (.bl (decide (x=.non))) H):=by
 intro aa s σ H x y v u Q I a b h;obtain⟨rfl,q⟩:=h;cases b;refine is_none_gen (JH I q ?_);cases x<;>first
  |(cases a;rfl)
  |(obtain⟨t,rfl⟩:=a;rfl)
def gO:W7 X (Ct .IsNot) (λx y H Q=>y=.non/\Q (.bl (!decide (x=.non))) H):=by
 intro aa s σ H x y v u Q I a b h;obtain⟨rfl,q⟩:=h;cases b;refine isnot_none_gen (JH I q ?_);cases x<;>first
  |(cases a;rfl)
  |(obtain⟨t,rfl⟩:=a;rfl)
def W7.or{f:Uk->Uk->Vd Uk}{r r':R2}(h:W7 X f r)(h':W7 X f r'):W7 X f (λx y H Q=>r x y H Q∨r' x y H Q):=by
 intro aa s σ H x y v u Q I b a q;rcases q with q|q
 ·exact h aa s σ H x y v u Q I b a q
 ·exact h' aa s σ H x y v u Q I b a q
def UG(b:Us){op:CmpOp}(h:op≠ .In:=by decide)(h2:op≠ .NotIn:=by decide):Hq op b=bb:=by
 have c:(op==CmpOp.In)=bb:=by cases op<;>first|rfl|exact absurd rfl h
 have a:(op==CmpOp.NotIn)=bb:=by cases op<;>first|rfl|exact absurd rfl h2
 cases b<;>simp[Hq,c,a]
def lX{op:CmpOp}{r:R2}(f:W7 X (Ct op) r)(j:PE X a ta)(i:PE X b tb)(g:Hq op b=bb):PE X (.Compare a [op] [b] pos) (tOp r ta tb):=by intro aa s σ H Q I h;exact wpAny_Compare1 (binT j i I h λv u c x y H2 k e d q=>f aa c σ H2 x y v u Q k e d q) g
def Yg(t:TE):TT:=λσ H Q=>t σ H λx H'=>∃k,x=.bl k/\Q k H'
def fQ{op:CmpOp}{r:R2}(j:W7 X (Ct op) r)(n:PE X a ta)(m:PE X b tb)(l:Hq op b=bb):PT X (.Compare a [op] [b] pos) (Yg (tOp r ta tb)):=by
 intro aa s σ H Q I h;refine wpAny_isTrue_Compare1 (ZL (n aa s σ H _ I h) λv s1 ⟨x,H1,q,i,q1⟩=>ZL (m aa s1 σ H1 _ q q1) λu d ⟨y,H2,p,g,q2⟩=>
  ZL (j aa d σ H2 x y v u _ p i g q2) λc w ⟨z,t,o,f,k,e,q3⟩=>?_) l
 subst e;cases f;exact Fj ⟨t,o,q3⟩
def FZ(r r':R2)(ta tb tc:TE):TE:=λσ H Q=>ta σ H λx H1=>tb σ H1 λy H2=>r x y H2 λz a=>∃k,z=.bl k∧
 (if k=ba then tc σ a λb c=>r' y b c Q else Q (.bl bb) a)
def oV{op f:CmpOp}{r r':R2}(B:W7 X (Ct op) r)(g:W7 X (Ct f) r')(E:PE X a ta)(D:PE X b tb)(hc:PE X c tc)(C:Rn [op,f] [b,c]=bb:=by with_unfolding_all rfl):PE X (.Compare a [op,f] [b,c] pos) (FZ r r' ta tb tc):=by
 intro aa s σ H Q I h;refine Compare_chain (ZL (E aa s σ H _ I h) λv s1 ⟨x,H1,J,w,q1⟩=>chain_link (ZL (D aa s1 σ H1 _ J q1) λu p ⟨y,H2,G,i,q2⟩=>
  ZL (B aa p σ H2 x y v u _ G w i q2) λd o ⟨z,l,j,t,k,e,q3⟩=>?_)) C
 subst e;cases t;refine Fj ?_;cases k with
 |false=>exact ite_ff ⟨.bl bb,l,j,rfl,q3⟩
 |true=>exact ite_tt (chain_last (ZL (hc aa o σ l _ j q3) λm n ⟨z',K,F,q,A⟩=>g aa n σ K y z' u m Q F i q A))
def gX{op f:CmpOp}{r r':R2}(E:W7 X (Ct op) r)(g:W7 X (Ct f) r')(J:PE X a ta)(G:PE X b tb)(hc:PE X c tc)(F:Rn [op,f] [b,c]=bb:=by with_unfolding_all rfl):PT X (.Compare a [op,f] [b,c] pos) (Yg (FZ r r' ta tb tc)):=by
 intro aa s σ H Q I h;refine isTrue_chain (ZL (J aa s σ H _ I h) λv s1 ⟨x,H1,P,A,q1⟩=>test_link (ZL (G aa s1 σ H1 _ P q1) λu p ⟨y,H2,O,i,q2⟩=>
  ZL (E aa p σ H2 x y v u _ O A i q2) λd o ⟨z,l,j,w,k,e,q3⟩=>?_)) F
 subst e;cases w;refine Fj ?_;cases k with
 |false=>
  obtain⟨k',L,D⟩:=q3;cases L;exact ite_ff ⟨l,j,D⟩
 |true=>
  refine ite_tt (test_last (ZL (hc aa o σ l _ j q3) λm n ⟨z',S,N,t,C⟩=>ZL (g aa n σ S y z' u m _ N i t C) λd' U ⟨T,R,M,q,k2,K,B⟩=>?_));subst K;cases q;exact Fj ⟨R,M,B⟩
def P4:(sizeLine:Nat)<2 ^ 63:=by rw[Cf];decide
def FE:W7 X (Fs .Add) (λx y H Q=>∃i j,x=.str i/\y=.str j/\i.length+j.length<=sizeLine/\Q (.str (i++j)) H):=by intro aa s σ H x y v u Q I b a h;obtain⟨i,j,rfl,rfl,hz,q⟩:=h;obtain⟨t,rfl⟩:=b;obtain⟨t',rfl⟩:=a;exact add_str (λt' tk=>⟨.str (i++j),H,I.tok _,⟨_,rfl⟩,q⟩) hz
def SQ{x:V}{a:List Uk}(r:bQ [x] a):∃u,a=[u]/\bV x u:=by
 cases r with
 |cons c b=>cases b;exact⟨_,rfl,c⟩
def IJ{x y:V}{b:List Uk}(r:bQ [x,y] b):∃u a,b=[u,a]/\bV x u/\bV y a:=by
 cases r with
 |cons f e=>
  cases e with
  |cons d c=>cases c;exact⟨_,_,rfl,f,d⟩
def AD(hc:X.calm=ba):Z6 X (.builtin "max") (λxs H Q=>∃i j,xs=[.int i,.int j]/\Q (.int (if j>i then j else i)) H):=by
 intro aa s σ H xs c Q I r h;obtain⟨i,j,rfl,q⟩:=h;obtain⟨u,b,rfl,⟨t,rfl⟩,⟨t',rfl⟩⟩:=IJ r;refine max_two_ints (I.ok.hd hc) λh' tk k=>⟨_,H,I.kept k,?_,q⟩;by_cases a:j>i
 ·rw[if_pos a,if_pos a];exact⟨_,rfl⟩
 ·rw[if_neg a,if_neg a];exact⟨_,rfl⟩
def AE(hc:X.calm=ba):Z6 X (.builtin "min") (λxs H Q=>∃i j,xs=[.int i,.int j]/\Q (.int (if j<i then j else i)) H):=by
 intro aa s σ H xs c Q I r h;obtain⟨i,j,rfl,q⟩:=h;obtain⟨u,b,rfl,⟨t,rfl⟩,⟨t',rfl⟩⟩:=IJ r;refine min_two_ints (I.ok.hd hc) λh' tk k=>⟨_,H,I.kept k,?_,q⟩;by_cases a:j<i
 ·rw[if_pos a,if_pos a];exact⟨_,rfl⟩
 ·rw[if_neg a,if_neg a];exact⟨_,rfl⟩
end
structure ObjM(h:Uv)(x dx C:Ul)(mA:Uq->Option Uk):Prop where
 obj:h.get? x=b3 (Tt C dx)
 ns:h.Ns1 dx mA
 ne:dx≠x
def A6{h:Uv}{dx:Ul}{b:Uq->Option Uk}(n:h.Ns1 dx b):∃od,h.get? dx=b3 od/\∀name,W.lookIn name od=b3 (b name):=by
 obtain⟨o,es,j,f,hd,hk,_,g⟩:=n;refine⟨o,f,λname=>?_⟩;have e:=g name;unfold nsFind findBy at e;rw[<-Array.find?_toList]at e;unfold W.lookIn;rw[hd];dsimp only;split
 ·rename_i y q
  rw[q]at e;exact congrArg b3 e
 ·rename_i q
  rw[q]at e;have a:es.toList.any (·.refKey)=bb:=by rw[List.any_eq_false];intro y d;obtain⟨z,t,c⟩:=hk y (Array.mem_toList_iff.mp d);simp[DictEntry.refKey,c]
  have i:¬es.toList.any (·.refKey)=ba:=by rw[a];exact El
  rw[if_neg i];exact congrArg b3 e
def ObjM.look{h:Uv}{x dx C:Ul}{a:Uq->Option Uk}(I:ObjM h x dx C a):∃od,W.InstAt h x (Tt C dx) C (b3 od)/\∀name,W.lookIn name od=b3 (a name):=
 let ⟨od,b,hl⟩:=A6 I.ns
 ⟨od,⟨I.obj,rfl,rfl,b⟩,hl⟩
def PP.some_of{v:V}{o:Option Uk}(r:PP (b3 v) o):∃u,o=b3 u/\bV v u:=by
 cases o with
 |none=>exact(show False from r).elim
 |some u=>exact⟨u,rfl,r⟩
section
variable{P:Av}{w:Uu}{H H':Hp}{h h':Uv}{a C dx:Ul}{fs fs':List (Uq×V)}
def mC(c:UU P w H h)(e:H a=b3 (.ins C dx fs)):∃b,ObjM h a dx C b/\(∀f,PP (fs.lookup f) (b f))/\Tu b (fs.map (·.1))/\fs.length<=1000/\H dx=b3 (.own a):=by obtain⟨d,z,i,g,b,n,r,q⟩:=(show Z8 P w H h a (.ins C dx fs) from c a _ e);exact⟨b,⟨g,n,i⟩,r,q,z,d⟩
end
structure Cls(K:Ah)(C:Ul):Prop where
 pg:W.plainGet K C Str.empty=ba
 hd:W.hasDictIn K C=ba
 po:W.plainOver K C=ba
 sa:Rc K (.ref C) "__setattr__"=b3 (b3 (.builtin "object.__setattr__"))
def Cls.get{K:Ah}{C:Ul}(c:Cls K C)(f:Uq):W.plainGet K C f=ba:=c.pg
section
variable{X:Cx}{aa:List (Ul×Uw)}{σ:St}{H:Hp}{s:Af}{A:Cc}{E:Uk->Af->Prop}{Q:Uk->Af->Prop}{c:Uk}{b:Bool}
inductive OV(K:Ah)(H:Hp):V->Uk->Prop where
 |non:OV K H .non (.type "NoneType")
 |bl (x:Bool):OV K H (.bl x) (.type "bool")
 |int (i:Int):OV K H (.int i) (.type "int")
 |str (x:Uq):OV K H (.str x) (.type "str")
 |flt (x:UInt64):OV K H (.flt x) (.type "float")
 |lst {a:Ul}{xs:List V}(e:H a=b3 (.lst xs)):OV K H (.ref a) (.type "list")
 |frz {a:Ul}{o:Uw}{xs:List V}(e:H a=b3 (.frz o (.lst xs))):OV K H (.ref a) (.type "list")
 |tup {a:Ul}{xs:List V}(e:H a=b3 (.tup xs)):OV K H (.ref a) (.type "tuple")
 |dK {a:Ul}{kvs:List (aR×V)}(e:H a=b3 (.dK kvs)):OV K H (.ref a) (.type "dict")
 |dT {a:Ul}{kvs:List (List aR×V)}(e:H a=b3 (.dT kvs)):OV K H (.ref a) (.type "dict")
 |ins {a C dx:Ul}{fs:List (Uq×V)}(e:H a=b3 (.ins C dx fs)) (cl:Cls K C) (ha:Rc K (.ref C) "__class__"=b3 (b3 (.builtin "object.__class__")))
   (hn:W.specialIn K (.builtin "object.__class__") "__get__"=b3 (b3 (.builtin "getset_descriptor.__get__"))) (htk:W.takesIn K (.builtin "object.__class__")=b3 ba)
   (hm:W.mroIn K C (.type "object")=b3 ba):OV K H (.ref a) (.ref C)
def TK{x:V}{u t:Uk}(I:cF X aa σ H s)(d:bV x u)(ty:OV X.K H x t)(e:Hd X.K t c=b3 b)(h:∀tk,Q (.bool b) {s with toks:=tk}):Uo (Ur X.prog X.w) A (call (.builtin "isinstance") [u,c]) Q E s:=by
 cases ty with
 |non=>cases (show u=Value.none from d);exact Fl W.kitx_none I.kIn True.intro e (λz=>nomatch z) h
 |bl y=>cases (show u=Gm y from d);exact Fl W.kitx_bool I.kIn True.intro e (λz=>nomatch z) h
 |int i=>obtain⟨t,q⟩:=(show∃t,u=Rj i t from d);cases q;exact Fl W.kitx_int I.kIn True.intro e (λz=>nomatch z) h
 |str y=>obtain⟨t,q⟩:=(show∃t,u=Rk y t from d);cases q;exact Fl W.kitx_str I.kIn True.intro e (λz=>nomatch z) h
 |flt y=>obtain⟨t,q⟩:=(show∃t,u=Ue y t from d);cases q;exact Fl W.kitx_float I.kIn True.intro e (λz=>nomatch z) h
 | @lst a xs f=>
  cases (show u=Bv a from d);obtain⟨_,_,n,_,h1⟩:=(show Z8 X.prog X.w H s.heap a (.lst xs) from I.hok a _ f);exact Fl Np I.kIn ⟨_,h1,rfl⟩ e (λz=>nomatch z) h
 | @frz a j xs f=>
  cases (show u=Bv a from d);obtain⟨_,_,_,n,_,h1⟩:=(show Z8 X.prog X.w H s.heap a (.frz j (.lst xs)) from I.hok a _ f);exact Fl Np I.kIn ⟨_,h1,rfl⟩ e (λz=>nomatch z) h
 | @tup a xs f=>
  cases (show u=Bv a from d);obtain⟨_,_,_,p⟩:=(show Z8 X.prog X.w H s.heap a (.tup xs) from I.hok a _ f);obtain⟨o,h1,h2,_⟩:=p;exact Fl W.kitx_tuple I.kIn ⟨o,h1,h2⟩ e (λz=>nomatch z) h
 | @dK a kvs f=>
  cases (show u=Bv a from d);obtain⟨_,_,vs,_,p⟩:=(show Z8 X.prog X.w H s.heap a (.dK kvs) from I.hok a _ f);obtain⟨o,es,r,h1,h2,_⟩:=p;exact Fl W.kitx_dict I.kIn ⟨o,h1,h2.1⟩ e (λz=>nomatch z) h
 | @dT a kvs f=>
  cases (show u=Bv a from d);obtain⟨_,_,xs,_,o,es,r,h1,h2,_⟩:=(show Z8 X.prog X.w H s.heap a (.dT kvs) from I.hok a _ f);exact Fl W.kitx_dict I.kIn ⟨o,h1,h2.1⟩ e (λz=>nomatch z) h
 | @ins a C dx fs f cl m k g l=>
  cases (show u=Bv a from d);obtain⟨v,O,_⟩:=mC I.hok f;obtain⟨od,J,_⟩:=O.look;exact Fl (W.kitx_own (cl.get _) cl.hd m k g l) I.kIn J e (λz=>nomatch z) h
end
structure YT(k:Nat)(A:Cc):Prop where
 hd:A.handled=b4
 dp:A.depth+3*k+5<Kq
 un:A.units+16*k+200<cLine
def YT.mono{j k:Nat}{A:Cc}(r:YT k A)(h:j<=k):YT j A:=⟨r.hd,by have:=r.dp;lia,by have:=r.un;lia⟩
def YT.deeper{k:Nat}{A:Cc}(r:YT (k+1) A)(env:Env):YT k (A.deeper env):=
 ⟨r.hd,by have:=r.dp;show A.depth+1+3*k+5<_;lia,by have:=r.un;show A.units+3+16*k+200<_;lia⟩
def YT.depth{k:Nat}{A:Cc}(r:YT k A):A.depth<Kq:=by have:=r.dp;lia
def YT.units{k:Nat}{A:Cc}(r:YT k A):A.units+64<cLine:=by have:=r.un;lia
def tNil:TA:=λ_ H Q=>Q [] H
def LY(ta:TE)(a:TA):TA:=λσ H Q=>ta σ H λx H1=>a σ H1 λxs H2=>Q (x::xs) H2
section
variable{X:Cx}{e:Us}{es:List Us}{te:TE}{t:TA}{pos:Pos}
def Z9:PA X [] tNil:=λ_ _ _ _ H Q I h=>Ic ⟨[],H,I,.nil,h⟩
def bW(f:PE X e te)(d:PA X es t)(c:Um (e::es) X.env=(bb,eval e X.env)::Um es X.env:=by rfl):PA X (e::es) (LY te t):=by intro pos aa s σ H Q I h;rw[c];show Uo _ _ (spliced ((bb,eval e X.env)::Fb pos (Um es X.env))) _ _ s;refine Gr (ZL (f aa s σ H _ I h) λu s1 ⟨x,H1,i,b,q1⟩=>?_);exact ZL (d pos aa s1 σ H1 _ i q1) λj k ⟨xs,H2,g,a,q2⟩=>⟨x::xs,H2,g,.cons b a,q2⟩
def tTup(t:TA):TE:=λσ H Q=>t σ H λxs H1=>xs.length<=sizeLine/\∀p,H1 p=b4->Q (.ref p) (upd H1 p (.tup xs))
def tLst(t:TA):TE:=λσ H Q=>t σ H λxs H1=>xs.length<=sizeLine/\∀p,H1 p=b4->Q (.ref p) (upd H1 p (.lst xs))
def FH{x1}(h:PA X es t):PE X (.Tuple es x1 pos) (tTup t):=by intro aa s σ H Q I d;refine wpAny_Tuple_spliced (ZL (h pos aa s σ H _ I d) λc s1 ⟨xs,H1,a,r,z,q⟩=>⟨by rw[<-r.length];exact z,?_⟩);have f:H1 s1.heap.objs.size=b4:=a.hok.fresh (Ar _);refine⟨.ref s1.heap.objs.size,upd H1 s1.heap.objs.size (.tup xs),a.laid (t':=s1.toks) (λb u e=>Ae _ e) (Ar _) ?_,rfl,q _ f⟩;exact⟨z,c,r,⟨_,As _ rfl,rfl,_,rfl⟩⟩
def JW(h:PA X es t):PE X (.List es pos) (tLst t):=by intro aa s σ H Q I d;refine wpAny_List_spliced (ZL (h pos aa s σ H _ I d) λc s1 ⟨xs,H1,a,r,z,q⟩=>⟨by rw[<-r.length];exact z,?_⟩);have f:H1 s1.heap.objs.size=b4:=a.hok.fresh (Ar _);refine⟨.ref s1.heap.objs.size,upd H1 s1.heap.objs.size (.lst xs),a.laid (t':=s1.toks) (λb u e=>Ae _ e) (Ar _) ?_,rfl,q _ f⟩;exact⟨z,c,0,r,As _ rfl⟩
end
abbrev Sp:=List V->Hp->VK->XK->Prop
abbrev CXT:=List Env->Hp->Af->XK->Uk->Af->Prop
structure Env0(P:Av)(w:Uu)(K:Ah)(mg:Uq->Option Uk)(base:Uv)(A:Cc)(outer:List Env)(s:Af)(H:Hp):Prop where
 frames:A.frames=b3 outer
 mod:Mod K mg base
 bs:∀b o,base.get? b=b3 o->s.heap.get? b=b3 o/\H b=b4
 bsz:base.objs.size<=s.heap.objs.size
 funs:s.heap.FunFrames base outer
 frf:∀b∈SN outer,H b=b4
 hok:UU P w H s.heap
 bare:Ld s.gens
def CE(outer:List Env)(P:Av)(w:Uu)(H:Hp)(s:Af)(Q:VK)(u:Uk)(s':Af):Prop:=
 ∃v H',s'.os=s.os/\Ld s'.gens/\Un (SN outer) [] H H' s.heap s'.heap/\UU P w H' s'.heap/\bV v u/\Q v H'
def CR(CX:CXT)(outer:List Env)(P:Av)(w:Uu)(H:Hp)(s:Af)(Q:VK)(E:XK)(r:Result)(s':Af):Prop:=
 match r with
 |.ok (.ret u)=>CE outer P w H s Q u s'
 |.ok _=>False
 |.error e=>CX outer H s E e s'
structure aA(P:Av)(w:Uu)(K:Ah)(mg:Uq->Option Uk)(base:Uv)(CX:CXT)(k:Nat)(f:Ul)(fd:Dw)(ps:List Uq)(sp:Sp):Prop where
 len:∀vs H Q E,sp vs H Q E->vs.length=ps.length
 run:∀(A:Cc) (outer:List Env) (s:Af) (H:Hp) (args:Args) (us:List Uk) (vs:List V) (Q:VK) (E:XK),YT k A->Env0 P w K mg base A outer s H->Pg s fd args (ps.zip us)->bQ vs us->sp vs H Q E->
  Jq (Ur P w) A (.call (.ref f) args) (CR CX outer P w H s Q E) s
section
variable{X:Cx}{aa:List (Ul×Uw)}{σ:St}{H:Hp}{s s':Af}
def cF.env0(I:cF X aa σ H s):Env0 X.prog X.w X.K X.mg X.base X.A X.stack s H:=
 ⟨I.ok.frames,I.ok.mod,I.bs,Fp I.ok.bsz I.sz,I.stack,I.stkFree,I.hok,I.bare⟩
def cF.after{Q:VK}{u:Uk}(I:cF X aa σ H s)(h:CE X.stack X.prog X.w H s Q u s'):EP X aa σ Q u s':=by obtain⟨v,H',os,a,un,e,r,q⟩:=h;obtain⟨f,g,d,t,c⟩:=s';obtain rfl:c=s.os:=os;exact⟨v,H',I.call (h':=f) (g':=g) (d':=d) (t':=t) (ch:=[]) un e a (λb z=>absurd z (by simp)),r,q⟩
end
def EC(sp:Sp)(dvs:List V)(E:XK)(t:TA):TE:=λσ H Q=>t σ H λvs H1=>sp (vs++dvs) H1 Q E
def QJ(K:Ah)(fd:Dw)(ps:List Uq)(ds:List Uk):Prop:=
 ∀(s:Af) (a:List Uk),K.In s.heap->(a++ds).length=ps.length->Pg s fd ⟨a,[]⟩ (ps.zip (a++ds))
def QJ.all{K:Ah}{fd:Dw}{ps:List Uq}(h:∀a:List Uk,a.length=ps.length->Rf fd ⟨a,[]⟩=pure (ps.zip a)):QJ K fd ps []:=λs a _ hl=>by rw[Eo]at hl⊢;exact .of_eq (h a hl)
def EL(CX:CXT)(X:Cx)(E:XK):Prop:=∀(aa:List (Ul×Uw)) (σ:St) (H:Hp) (s:Af) (e:Uk) (s':Af),cF X aa σ H s->CX X.stack H s E e s'->X.xe e s'
section
variable{X:Cx}{CX:CXT}{k:Nat}{f C:Ul}{fd:Dw}{ps:List Uq}{sp:Sp}{dvs:List V}{ds:List Uk}{E:XK}{x m:Uq}{p pos ao:Pos}{e o:Us}{es:List Us}{ta:TE}{t:TA}
def nG{aa:List (Ul×Uw)}{σ:St}{H:Hp}{s:Af}{Q:VK}{a:List Uk}{vs:List V}(F:aA X.prog X.w X.K X.mg X.base CX k f fd ps sp)(g:YT k X.A)(i:QJ X.K fd ps ds)(hd:bQ dvs ds)(d:EL CX X E)(I:cF X aa σ H s)(r:bQ vs a)(h:sp (vs++dvs) H Q E):Uo (Ur X.prog X.w) X.A (call (.ref f) a) (EP X aa σ Q) X.xe s:=by
 have c:bQ (vs++dvs) (a++ds):=r.append hd;have hl:(a++ds).length=ps.length:=by rw[<-c.length];exact F.len _ _ _ _ h
 refine Sr (Kk (F.run X.A X.stack s H ⟨a,[]⟩ (a++ds) (vs++dvs) Q E g I.env0 (i s a I.kIn hl) c h) λr s' b=>?_);cases r with
 |error e=>exact d aa σ H s e s' I b
 |ok j=>
  cases j with
  |ret u=>exact I.after b
  |next=>exact Gx b
  |brk=>exact Gx b
  |cont=>exact Gx b
def eB(F:aA X.prog X.w X.K X.mg X.base CX k f fd ps sp)(g:YT k X.A)(j:Gl X x)(i:X.mg x=b3 (.ref f))(hk:Jd X.K (.ref f)=ba)(m:QJ X.K fd ps ds)(hd:bQ dvs ds)(d:EL CX X E)(n:PA X (e::es) t)(b:(x==("__debug__":Uq))=bb:=by decide)(l:Um (e::es) X.env=(bb,eval e X.env)::Um es X.env:=by rfl)(a:(Fb pos (Um es X.env)).any (·.1)=bb:=by rfl):PE X (.Call (.Name x p) (e::es) [] pos) (EC sp dvs E t):=by intro aa s σ H Q I h;refine Fe (TM I j i ?_ b);refine Qf (h₀:=X.base) I.ok.mod.kin hk (ZL (n pos aa s σ H _ I h) λo s1 ⟨vs,H1,c,r,q⟩=>⟨c.kIn,?_⟩) l a;exact nG F g m hd d c r q
end
structure b6(N P:List Uq)(sc:Vb):Prop where
 kind:sc.kind=.function
 co:sc.isCoroutine=bb
 gen:sc.isGenerator=bb
 nd:N.Nodup
 pre:N.take P.length=P
 par:∀x∈P,sc.names.lookup x=b3 .local∨sc.names.lookup x=b3 .cell
 nofree:∀y∈sc.names,y.2≠ .free
theorem KN{kindOf:Uq->Option Va}{x:Uq}:∀{binds:List (Uq×Uk)}{m:Uq->Option Uk},(∀v,(x,v)∉binds)->bindL kindOf binds m x=m x
 |[],_,_=>rfl
 | (n,v) :: r,m,h => by
  unfold bindL;rw[KN λw hw=>h w (An _ hw)];split
  ·have : x ≠ n := by rintro rfl;exact h v Au
   simp[this]
  ·rfl
theorem KL{kindOf:Uq->Option Va}{x:Uq}:∀{binds:List (Uq×Uk)}{m:Uq->Option Uk},(∀v,(x,v)∉binds)->bindC kindOf binds m x=m x
 |[],_,_=>rfl
 | (n,v) :: r,m,h => by
  unfold bindC;rw[KL λw hw=>h w (An _ hw)];split
  ·rfl
  ·have : x ≠ n := by rintro rfl;exact h v Au
   simp[this]
theorem KM{kindOf:Uq->Option Va}{x:Uq}{v:Uk}:∀{P:List Uq}{vs:List Uk}{i:Nat}{m:Uq->Option Uk},P.Nodup->P[i]?=b3 x->vs[i]?=b3 v->kindOf x=b3 .local->bindL kindOf (P.zip vs) m x=b3 v
 |[],_,_,_,_,h,_,_=>by simp at h
 |_::_,[],_,_,_,_,h,_=>by simp at h
 |p::P,w::vs,0,m,a,h1,h2,hk=>by simp at h1 h2;subst h1;subst h2;show bindL kindOf ((p,w)::P.zip vs) m p=_;unfold bindL;rw[KN λv b=>(Cb.mp a).1 (Jr b).1,if_pos hk];simp
 |p::P,w::vs,i+1,m,a,h1,h2,hk=>by show bindL kindOf ((p,w)::P.zip vs) m x=_;unfold bindL;exact KM (i:=i) (Cb.mp a).2 (by simpa using h1) (by simpa using h2) hk
theorem KJ{kindOf:Uq->Option Va}{x:Uq}{v:Uk}:∀{P:List Uq}{vs:List Uk}{i:Nat}{m:Uq->Option Uk},P.Nodup->P[i]?=b3 x->vs[i]?=b3 v->kindOf x≠b3 .local->bindC kindOf (P.zip vs) m x=b3 v
 |[],_,_,_,_,h,_,_=>by simp at h
 |_::_,[],_,_,_,_,h,_=>by simp at h
 |p::P,w::vs,0,m,a,h1,h2,hk=>by simp at h1 h2;subst h1;subst h2;show bindC kindOf ((p,w)::P.zip vs) m p=_;unfold bindC;rw[KL λv b=>(Cb.mp a).1 (Jr b).1,if_neg hk];simp
 |p::P,w::vs,i+1,m,a,h1,h2,hk=>by show bindC kindOf ((p,w)::P.zip vs) m x=_;unfold bindC;exact KJ (i:=i) (Cb.mp a).2 (by simpa using h1) (by simpa using h2) hk
def start(N:List Uq)(vs:List V):St:=vs.map b3++Aw (N.length-vs.length) b4
noncomputable def QS(CX:CXT)(P:Av)(w:Uu)(K:Ah)(mg:Uq->Option Uk)(base:Uv)(N:List Uq)(qual:Uq)(scope:Vb)(f:Ul)(cd:Uk)(A:Cc)(outer:List Env)(s:Af)(H:Hp)(E:XK):Cx where
 prog:=P
 w:=w
 K:=K
 mg:=mg
 base:=base
 A:=A.deeper (envOfC qual scope s.heap.objs.size f cd)
 N:=N
 s₀:=s
 H₀:=H
 env:=envOfC qual scope s.heap.objs.size f cd
 outer:=outer
 stack:=envOfC qual scope s.heap.objs.size f cd::outer
 ex:=[]
 calm:=ba
 fn:=λ_=>ba
 pn:=[]
 xe:=λe s'=>Uo (Ur P w) (A.deeper (envOfC qual scope s.heap.objs.size f cd)) (leaving (envOfC qual scope s.heap.objs.size f cd) e) (λ_ a=>CX outer H s E e a) (λb a=>CX outer H s E b a) s'
def GG{a:Vb}{n:Nat}{x:Uq}(h:a.names.lookup x=b3 .cell):∃c,(Uz n a.names []).lookup x=b3 c:=by have q:=Lw a.names n [] (.inl h);exact Option.isSome_iff_exists.mp q
def K7{CX:CXT}{P:Av}{w:Uu}{K:Ah}{mg:Uq->Option Uk}{base:Uv}{N ps:List Uq}{qual:Uq}{scope:Vb}{f:Ul}{cd:Uk}{A:Cc}{outer:List Env}{s s1:Af}{H:Hp}{E:XK}{o:List Uk}{vs:List V}(S:b6 N ps scope)(hd:A.handled=b4)(d:Env0 P w K mg base A outer s H)(hl:vs.length=ps.length)(r:bQ vs o)(x:InCallC s s.heap.objs.size (bindL (envOfC qual scope s.heap.objs.size f cd).kindOf (ps.zip o) λ_=>b4) (Uz (s.heap.objs.size+1) scope.names []) (bindC (envOfC qual scope s.heap.objs.size f cd).kindOf (ps.zip o) λ_=>b4) s1):cF (QS CX P w K mg base N qual scope f cd A outer s H E) [] (start N vs) H s1:=by
 have C:ps.length<=N.length:=by have:=congrArg List.length S.pre;rw[Cr]at this;lia
 obtain⟨h1,tk,rfl,hk⟩:=x.done;have g:∀b:Ul,b∉(QS CX P w K mg base N qual scope f cd A outer s H E).ex:=λb z=>absurd (show b∈([]:List Ul) from z) (by simp);refine⟨⟨d.mod,S.kind,rfl,rfl,Ar _,λy z c h1 h2=>?_,λy j=>?_,λy c _ h=>?_,λ_=>hd,Around.frames_deeper d.frames,.inr ⟨rfl,rfl⟩,λb z=>absurd z (g b),d.bs,d.bsz,λb _ _=>g b,λb z=>absurd z (g b),d.funs,d.frf⟩,rfl,d.bare,Un.kept hk,⟨_,x.toInCall.ns,λi y v h1 h2 F=>?_⟩,λy c h=>⟨_,x.cell y c h⟩,d.hok.fresh (Ar _),λy c h=>?_,λp m=>absurd (show p∈([]:List (Ul×Uw)) from m) (by simp),d.hok.kept hk,?_⟩
 ·exact name_of_addr x.apart (Cv h1) (Cv h2)
 ·have j:scope.names.lookup y=b3 .cell∨scope.names.lookup y=b3 .free:=j
  rcases j with j|j
  ·exact GG j
  ·exact absurd rfl (S.nofree _ (Cv j))
 ·exact Qd (x.above y c (Cv h))
 ·have hi:i<vs.length:=by
   unfold start at h2;by_cases hi:i<vs.length
   ·exact hi
   ·rw [Bo (by simpa using hi)]at h2
    rw[Dr]at h2;split at h2<;>cases h2
  have D:vs[i]?=b3 v:=by
   unfold start at h2;rw[Ao (by simpa using hi),Ds]at h2;cases e:vs[i]? with
   |none=>rw[e]at h2;cases h2
   |some a=>rw[e]at h2;cases h2;rfl
  obtain⟨u,t,B⟩:=r.get D;have m:ps[i]?=b3 y:=by rw[<-S.pre,Df (by lia)];exact h1
  have l:ps.Nodup:=by rw[<-S.pre];exact S.nd.sublist (List.take_sublist _ _)
  refine⟨u,B,?_⟩;rcases S.par y (Dt m)with k|k
  ·exact .inl ⟨k,KM l m t k⟩
  ·obtain⟨c,e⟩:=GG (n:=s.heap.objs.size+1) k
   refine .inr ⟨.inl k,c,e,?_⟩;have q:=x.cell y c e;rw[KJ l m t (by show scope.names.lookup y≠_;rw[k];decide)]at q;exact q
 ·exact d.hok.fresh (Qd (x.above y c (Cv h)))
 ·unfold start
  show _=N.length;rw[Bw,Ci,Mj];lia
def Xj{CX:CXT}{P:Av}{w:Uu}{K:Ah}{mg:Uq->Option Uk}{base:Uv}{k:Nat}{f:Ul}{name qual:Uq}{c:Arguments}{body:List Ux}{scope:Vb}{D kV doc C a ct M:Uk}{F od:Option Ul}{m:Array (Option Uk)}{N ps:List Uq}{sp:Sp}(O:K.lookup f=b3 ⟨M,od,.func (Lx name qual c body scope D kV doc C F a ct),m⟩)(B:Of K a qual=ba)(S:b6 N ps scope)(len:∀vs H Q E,sp vs H Q E->vs.length=ps.length)(ar:∀(A:Cc) (outer:List Env) (s:Af) (H:Hp) (vs:List V) (Q:VK) (E:XK),YT k (A.deeper (envOfC qual scope s.heap.objs.size f a))->sp vs H Q E->∃t,WN (QS CX P w K mg base N qual scope f a A outer s H E) body t/\t {nx:=λ_ H'=>Q .non H',rt:=Q} (start N vs) H):aA P w K mg base CX (k+1) f (Lx name qual c body scope D kV doc C F a ct) ps sp:=by
 refine⟨len,λA outer s H args L vs Q E z j Y r h=>?_⟩;have hl:=len _ _ _ _ h;have G:K.In s.heap:=j.mod.kin.keeps λb o e=>(j.bs b o e).1;have p:s.heap.NoLimit:=j.mod.nolimit.keeps λb o e=>(j.bs b o e).1;have Z:∀y∈ps.zip L,scope.names.lookup y.1=b3 .local∨(scope.names.lookup y.1=b3 .cell/\((Uz (s.heap.objs.size+1) scope.names []).lookup y.1).isSome=ba):=λ⟨n,v⟩ R=>by
  rcases S.par n (Jr R).1 with q|q
  ·exact .inl q
  ·exact .inr ⟨q,Lw _ _ _ (.inl q)⟩
 refine Mk z.depth (G _ _ O) rfl S.co S.gen rfl (W.codeRec_of G B) (Y _ _ _ _ ?_);refine Kc S.kind Z λenv X s1 x=>?_;subst X;refine⟨p.keeps x.toInCall.keep,codeAny_func ?_⟩;obtain⟨t,T,U⟩:=ar A outer s H vs Q E (z.deeper _) h;have I:cF (QS CX P w K mg base N qual scope f a A outer s H E) [] (start N vs) H s1:=K7 S z.hd j hl r x;refine Ce (T [] s1 (start N vs) H _ I U) (λfl s' g=>?_) λe s' g=>g;have i:∀{d:St}{H':Hp}{v:V}{u:Uk},cF (QS CX P w K mg base N qual scope f a A outer s H E) [] d H' s'->bV v u->Q v H'->CE outer P w H s Q u s':=
  λ{d H' v u} J l q=>⟨v,H',J.os,J.bare,J.base,J.hok,l,q⟩
 cases fl with
 |ret u=>
  obtain⟨v,d,H',J,l,q⟩:=g;exact i J l q
 |next=>
  obtain⟨d,H',J,q⟩:=g;exact i (v:=V.non) (u:=Value.none) J rfl q
 |brk=>
  obtain⟨_,_,_,q⟩:=g;exact Gx q
 |cont=>
  obtain⟨_,_,_,q⟩:=g;exact Gx q
section
variable{X:Cx}{x:Uq}{p pos:Pos}{e:Us}{es:List Us}{t:TA}{id T:String}{r:List V->Hp->VK->Prop}
def tCB(r:List V->Hp->VK->Prop)(t:TA):TE:=λσ H Q=>t σ H λvs H1=>r vs H1 Q
def NM(hc:Z6 X (.builtin id) r)(j:Gl X x)(i:X.mg x=b4)(f:Bm x=b3 (.builtin id))(l:PA X (e::es) t)(g:x≠ "__name__":=by decide)(b:(x==("__debug__":Uq))=bb:=by decide)(k:Um (e::es) X.env=(bb,eval e X.env)::Um es X.env:=by rfl)(a:(Fb pos (Um es X.env)).any (·.1)=bb:=by rfl):PE X (.Call (.Name x p) (e::es) [] pos) (tCB r t):=by intro aa s σ H Q I h;refine Fe (R8 I j i f ?_ g b);exact PyProof.Rows.callWith_builtin1 (ZL (l pos aa s σ H _ I h) λc s1 ⟨vs,H1,m,d,q1⟩=>hc aa s1 σ H1 vs c Q m d q1) k a
def V5(hc:Z6 X (.type T) r)(j:Gl X x)(i:X.mg x=b4)(f:Bm x=b3 (.type T))(l:PA X (e::es) t)(g:x≠ "__name__":=by decide)(b:(x==("__debug__":Uq))=bb:=by decide)(k:Um (e::es) X.env=(bb,eval e X.env)::Um es X.env:=by rfl)(a:(Fb pos (Um es X.env)).any (·.1)=bb:=by rfl):PE X (.Call (.Name x p) (e::es) [] pos) (tCB r t):=by intro aa s σ H Q I h;refine Fe (R8 I j i f ?_ g b);exact Em (ZL (l pos aa s σ H _ I h) λc s1 ⟨vs,H1,m,d,q1⟩=>hc aa s1 σ H1 vs c Q m d q1) k a
end
end L2
namespace HT
open PySem PyProof.Rows
section
variable{prog:Av}{w:Uu}{A:Cc}{E:Uk->Af->Prop}{s:Af}
def zFF{t b:Ul}{vs a:List Uk}{Q:Uk->Af->Prop}(m:IsTup s.heap t vs.toArray)(o:IsTup s.heap b a.toArray)(l:vs≠[])(h1:a=[]->Q (.ref t) s)(h2:a≠[]->Q (.ref s.heap.objs.size) {s with heap:=s.heap.push {cls:=.type "tuple",data:=.seq (vs++a).toArray}})(hsz:vs.length+a.length<=sizeLine):Uo (Ur prog w) A (Fs .Add (.ref t) (.ref b)) Q E s:=by
 obtain⟨⟨cls,dd,data,j⟩,i,hc,n,hd⟩:=id m;obtain⟨⟨p,h,data2,d⟩,c,g,k,f⟩:=id o;simp only at hc hd g f;subst hc hd g f;have e:vs.toArray++a.toArray=(vs++a).toArray:=by simp
 by_cases hw:a=[]
 ·exact Ml ⟨_,i,rfl⟩ ⟨_,c,rfl⟩ Ly Og Hx Hr (Hj _ _)
   (tuple_addW1 t b vs.toArray a.toArray n k dd h j d (by simpa using l) (by simp[hw])) ⟨i,c,h1 hw⟩
 ·refine Ml ⟨_,i,rfl⟩ ⟨_,c,rfl⟩ Ly Og Hx Hr (Hj _ _)
   (tuple_addW2 t b vs.toArray a.toArray n k dd h j d (by simpa using l) (by simpa using hw) (by rw[Ak,Ak];exact hsz)) ⟨i,c,?_⟩
  rw[e];exact h2 hw
noncomputable def sIx(n d:Nat):Option Int->Nat
 |none=>d
 |some v=>if v<0 then(v+(n:Int)).toNat else min v.toNat n
def HS(n d:Nat):sIx n d b4=d:=rfl
def D3(n d k:Nat):sIx n d (b3 (k:Int))=min k n:=by show(if(k:Int)<0 then((k:Int)+(n:Int)).toNat else min (k:Int).toNat n)=min k n;rw[if_neg (by lia),Ie]
def mI(n d:Nat)(hd:d<=n)(o:Option Int):sIx n d o<=n:=by
 cases o with
 |none=>exact hd
 |some v=>
  show(if v<0 then(v+(n:Int)).toNat else min v.toNat n)<=n;by_cases a:v<0
  ·rw[if_pos a];lia
  ·rw[if_neg a];exact Nat.min_le_right _ _
def CS(v:Int)(n d:Nat):(if v<0 then max (v+(n:Int)) 0 else min v (n:Int))=((sIx n d (b3 v):Nat):Int):=by
 show(if v<0 then max (v+(n:Int)) 0 else min v (n:Int))=(((if v<0 then(v+(n:Int)).toNat else min v.toNat n):Nat):Int);by_cases a:v<0
 ·simp only[if_pos a];lia
 ·simp only[if_neg a];lia
def EO(lo hi:Option Int)(n:Nat):Hb lo hi 1 (n:Int)=(((sIx n 0 lo:Nat):Int),((sIx n n hi:Nat):Int)):=by
 have h1:¬((1:Int)<0):=by lia
 unfold Hb;simp only[h1,if_false];refine Prod.ext ?_ ?_
 ·cases lo with
  |none=>rfl
  |some v=>exact CS v n 0
 ·cases hi with
  |none=>rfl
  |some v=>exact CS v n n
def FK(i j:Nat):Fw (i:Int) (j:Int) 1=j-i:=by
 unfold Fw;have h1:(1:Int)>0:=by lia
 simp only[h1,if_true,Int.ediv_one];split<;>lia
def N3{v:Uk}{o:Option Int}{Q:Option Int->Af->Prop}(p:IsPart v o)(h:Q o s):Uo (Ur prog w) A (Rg v) Q E s:=by
 cases p with
 |none=>exact slicePart_none h
 |int i t=>exact slicePart_int h
def V7{e:Ul}{d c:Uk}{lo hi:Option Int}{n:Nat}{Q:Int×Int×Nat->Af->Prop}(g:s.heap.IsSliceOf e d c .none)(f:IsPart d lo)(pu:IsPart c hi)(h:Q (((sIx n 0 lo:Nat):Int),1,sIx n n hi-sIx n 0 lo) s):Uo (Ur prog w) A (Ke (.ref e) (pure (n:Int))) Q E s:=by obtain⟨os,a,i,b⟩:=id g;unfold Ke Se;refine Ac (Ac (Ep a b (x:=d) rfl (Ac (Ep a b (x:=c) rfl (Ac (Ep a b (x:=.none) rfl (Aj ?_)))))));refine Ac (slicePart_none ?_);show Uo _ _ (if((1:Int)==0)=ba then _ else _) _ _ s;rw[if_neg (by decide)];refine Ac (N3 f (Ac (N3 pu (Ac (Aj ?_)))));show Uo _ _ (match Hb lo hi 1 (n:Int)with|(lo,hi)=>pure (lo,(1:Int),Fw lo hi 1)) _ _ s;rw[EO lo hi n];show Uo _ _ (pure (((sIx n 0 lo:Nat):Int),(1:Int),Fw ((sIx n 0 lo:Nat):Int) ((sIx n n hi:Nat):Int) 1)) _ _ s;rw[FK];exact Aj h
def dG(xs:Array Uk)(i k:Nat):((Bf k).filterMap λ(m:Nat)=>xs[((i:Int)+(m:Int)*1).toNat]?).toArray=((xs.toList.drop i).take k).toArray:=by
 have e:(λ(m:Nat)=>xs[((i:Int)+(m:Int)*1).toNat]?)=λm=>xs[i+m]? :=by
  funext m;have:((i:Int)+(m:Int)*1).toNat=i+m:=by lia
  rw[this]
 rw[e];have:=pick_run xs i k
 rw[List.filterMap_map]at this;have a:((λx=>xs[x]?)∘λx=>i+x)=λm=>xs[i+m]? :=rfl;rw[a]at this;rw[this]
def QU{t c:Ul}{items:Array Uk}{j i:Uk}{lo hi:Option Int}{Q:Uk->Af->Prop}(a:IsTup s.heap t items)(k:s.heap.IsSliceOf c j i .none)(l:IsPart j lo)(pu:IsPart i hi)(hw:¬(sIx items.size 0 lo=0/\sIx items.size items.size hi=items.size))(h:Q (.ref s.heap.objs.size) {s with heap:=s.heap.push {cls:=.type "tuple",data:=.seq ((items.toList.drop (sIx items.size 0 lo)).take (sIx items.size items.size hi-sIx items.size 0 lo)).toArray}})(hsz:items.size<=sizeLine):Uo (Ur prog w) A (Le (.ref t) (.ref c)) Q E s:=by
 have b:sizeOk (.seq ((items.toList.drop (sIx items.size 0 lo)).take (sIx items.size items.size hi-sIx items.size 0 lo)).toArray):=by show((items.toList.drop (sIx items.size 0 lo)).take (sIx items.size items.size hi-sIx items.size 0 lo)).toArray.size<=sizeLine;rw[Ak,Cr,Qn,Gg];lia
 have o:sIx items.size items.size hi<=items.size:=mI _ _ (Ar _) hi;obtain⟨os,d,f,n⟩:=id k;have g:s.TypeIs (.ref c) "slice":=⟨os,d,f⟩;unfold Le;try with_reducible refine Bt ?_
 first|refine Ac (Aj ?_)|skip
 refine Ac (Ig a.typeIs (by decide) ?_);refine Ac (Cw (name:=Be "__getitem__") a.typeIs Ex
  (Et Ex a.typeIs entry_tuple_getitem ?_ (args_tuple_getitem _ _)))
 show Uo _ _ (Kf (.ref t)>>=_) _ _ s;refine Ac (tupleItemsOf_ a ?_);refine Ac (Kl g ?_);rw[if_pos (by decide)];refine Ac (V7 k l pu ?_);have e:¬((((sIx items.size 0 lo:Nat):Int)==0&&(1:Int)==1&&(sIx items.size items.size hi-sIx items.size 0 lo)==items.size)=ba):=by intro q;rw[Ad,Ad]at q;have q1:((sIx items.size 0 lo:Nat):Int)=0:=eq_of_beq q.1.1;have q2:sIx items.size items.size hi-sIx items.size 0 lo=items.size:=eq_of_beq q.2;exact hw ⟨by lia,by lia⟩
 show Uo _ _ (if(((sIx items.size 0 lo:Nat):Int)==0&&(1:Int)==1&&(sIx items.size items.size hi-sIx items.size 0 lo)==items.size)=ba then _ else _) _ _ s;rw[if_neg e,dG]
 first
  |exact Ac (m:=Gd _) (Dq (Aj ⟨_,rfl,Aj h⟩) b)
  |exact Ac (m:=Gd _) (Dq (Ac (Aj (Aj ⟨_,rfl,Aj h⟩))) b)
  |exact Ac (Ac (m:=Gd _) (Dq (Aj (Aj ⟨_,rfl,Aj h⟩)) b))
  |exact Ac (Ac (m:=Gd _) (Dq (Aj ⟨_,rfl,Aj h⟩) b))
end
end HT
namespace L2
open PySem PySem.Spec PyProof.Rows
abbrev TO:=St->Hp->(Option Int->Hp->Prop)->Prop
def PO(X:Cx)(e:Option Us)(t:TO):Prop:=
 ∀(aa:List (Ul×Uw)) (s:Af) (σ:St) (H:Hp) (Q:Option Int->Hp->Prop),cF X aa σ H s->t σ H Q->
  Uo (Ur X.prog X.w) X.A (evalPart e X.env) (λu s'=>∃o H',cF X aa σ H' s'/\IsPart u o/\Q o H') X.xe s
def jA:TO:=λ_ H Q=>Q b4 H
def mM(t:TE):TO:=λσ H Q=>t σ H λx H1=>∃i,x=.int i/\Q (b3 i) H1
section
variable{X:Cx}{e:Us}{te:TE}{lo hi:Option Us}{tl th:TO}{pos p2:Pos}
def zEC:PO X b4 jA:=by intro aa s σ H Q I h;rw[Oh];exact Aj ⟨b4,H,I,.none,h⟩
def pD(h:PE X e te):PO X (b3 e) (mM te):=by intro aa s σ H Q I hw;rw[evalPart_some];refine ZL (h aa s σ H _ I hw) λu s1 ⟨x,H1,b,a,q1⟩=>?_;obtain⟨i,rfl,q⟩:=q1;obtain⟨t,rfl⟩:=a;exact⟨b3 i,H1,b,.int i t,q⟩
def SlR(X:Cx)(r:V->Option Int->Option Int->Hp->VK->Prop):Prop:=
 ∀(aa:List (Ul×Uw)) (s:Af) (σ:St) (H:Hp) (x:V) (v b a:Uk) (lo hi:Option Int) (c:Ul) (Q:VK),cF X aa σ H s->bV x v->s.heap.IsSliceOf c b a .none->IsPart b lo->IsPart a hi->r x lo hi H Q->
  ∃T id,typeLookup (.type T) "__getitem__"=pure (b3 (.builtin id))/\s.TypeIs v T/\Uo (Ur X.prog X.w) X.A (Le v (.ref c)) (EP X aa σ Q) X.xe s
def SlR.or{r r':V->Option Int->Option Int->Hp->VK->Prop}(h:SlR X r)(h':SlR X r'):SlR X (λx lo hi H Q=>r x lo hi H Q∨r' x lo hi H Q):=by
 intro aa s σ H x v b a lo hi c Q I d f e pu q;rcases q with q|q
 ·exact h aa s σ H x v b a lo hi c Q I d f e pu q
 ·exact h' aa s σ H x v b a lo hi c Q I d f e pu q
def tSl(r:V->Option Int->Option Int->Hp->VK->Prop)(te:TE)(tl th:TO):TE:=λσ H Q=>te σ H λx H1=>tl σ H1 λl H2=>th σ H2 λu a=>r x l u a Q
def gK{r:V->Option Int->Option Int->Hp->VK->Prop}(n:SlR X r)(p:PE X e te)(hl:PO X lo tl)(k:PO X hi th):PE X (.Subscript e (.Slice lo hi b4 p2) pos) (tSl r te tl th):=by intro aa s σ H Q I h;refine Subscript_ (ZL (p aa s σ H _ I h) λv s1 ⟨x,H1,C,i,q1⟩=>?_);refine wpAny_Slice (ZL (hl aa s1 σ H1 _ C q1) λd g ⟨l,H2,B,j,q2⟩=>ZL (k aa g σ H2 _ B q2) λc a ⟨u,f,z,pu,q3⟩=>?_);rw[Oh];refine Aj ?_;have y:cF X aa σ f {a with heap:=a.heap.push {cls:=.type "slice",data:=.fields #[d,c,.none]}}:=z.kept (t':=a.toks) λb D q=>Ae _ q;obtain⟨T,id,t,m,o⟩:=n aa {a with heap:=a.heap.push {cls:=.type "slice",data:=.fields #[d,c,.none]}} σ f x v d c l u a.heap.objs.size Q y i (Ui ..) j pu q3;show Uo (Ur X.prog X.w) X.A (subscriptTail e (.Slice lo hi b4 p2) v (.ref a.heap.objs.size)) (EP X aa σ Q) X.xe {a with heap:=a.heap.push {cls:=.type "slice",data:=.fields #[d,c,.none]}};exact Tc (ops:=[.ref a.heap.objs.size,v]) m t o (by with_unfolding_all rfl)
def GH(xs:List V)(lo hi:Option Int):List V:=(xs.drop (HT.sIx xs.length 0 lo)).take (HT.sIx xs.length xs.length hi-HT.sIx xs.length 0 lo)
def O9(xs:List V)(lo hi:Option Int):(GH xs lo hi).length<=xs.length:=by unfold GH;rw[Cr,Qn];lia
def rSlT(K:Ah):V->Option Int->Option Int->Hp->VK->Prop:=λx lo hi H Q=>∃a xs,x=.ref a/\WL K H a xs∧
 ¬(HT.sIx xs.length 0 lo=0/\HT.sIx xs.length xs.length hi=xs.length)/\∀p,H p=b4->Q (.ref p) (upd H p (.tup (GH xs lo hi)))
def zHF:SlR X (rSlT X.K):=by
 intro aa s σ H x v k j lo hi l Q I e i f pu h;obtain⟨a,xs,rfl,g,hw,q⟩:=h;cases e;obtain⟨its,r,d,hz⟩:=I.tuple g;have c:its.toArray.size=xs.length:=by rw[Ak];exact r.length.symm
 refine⟨"tuple",_,PyProof.Rows.slot_tuple_getitem.lookup,d.typeIs,?_⟩;refine HT.QU d i f pu (by rw[c];exact hw) ?_ (by rw[c];exact hz);rw[c];refine⟨.ref s.heap.objs.size,_,I.laid (t':=s.toks) (o:=.tup (GH xs lo hi)) (λb m q=>Ae _ q) (Ar _) ?_,rfl,q _ (I.hok.fresh (Ar _))⟩;exact⟨Fp (O9 xs lo hi) hz,_,(r.drop (HT.sIx xs.length 0 lo)).take (HT.sIx xs.length xs.length hi-HT.sIx xs.length 0 lo),Jo _ _⟩
def bQ.nil_iff{xs:List V}{a:List Uk}(r:bQ xs a):a=[]↔xs=[]:=by
 cases r with
 |nil=>simp
 |cons _ _=>simp
end
noncomputable def AZ(n:Nat)(i:Int):Option Nat:=if 0<=i then(if i<n then b3 i.toNat else b4)else if -(n:Int)<=i then b3 (i+n).toNat else b4
def T2{α:Type}(xs:List α)(i:Int):Option α:=(AZ xs.length i).bind λj=>xs[j]?
def C7{n:Nat}{i:Int}{j:Nat}(h:AZ n i=b3 j):seqIndex? i n=b3 j/\j<n/\ -(n:Int)<=i/\i<n:=by
 unfold AZ at h;by_cases a:0<=i
 ·rw[if_pos a]at h
  by_cases h1:i<n
  ·rw[if_pos h1]at h
   have e:i.toNat=j:=Bp h;exact⟨by rw[Ro a h1,e],by lia,by lia,h1⟩
  ·rw[if_neg h1]at h;cases h
 ·rw[if_neg a]at h
  by_cases h1: -(n:Int)<=i
  ·rw[if_pos h1]at h
   have e:(i+n).toNat=j:=Bp h;exact⟨by rw[Qg (by lia) h1,e],by lia,h1,by lia⟩
  ·rw[if_neg h1]at h;cases h
def IW{α:Type}{xs:List α}{i:Int}{v:α}(h:T2 xs i=b3 v):∃j,seqIndex? i xs.length=b3 j/\xs[j]?=b3 v/\j<xs.length/\ -(xs.length:Int)<=i/\i<xs.length:=by
 unfold T2 at h;cases e:AZ xs.length i with
 |none=>rw[e]at h;cases h
 |some j=>
  rw[e]at h;obtain⟨h1,h2,b,a⟩:=C7 e;exact⟨j,h1,h,h2,b,a⟩
def QN{α:Type}(xs:List α)(v:α):T2 (xs++[v]) (-1)=b3 v:=by
 have hl:(xs++[v]).length=xs.length+1:=by simp
 have e:AZ (xs++[v]).length (-1)=b3 xs.length:=by unfold AZ;rw[hl,if_neg (by decide),if_pos (by lia)];congr 1;lia
 unfold T2;rw[e];show(xs++[v])[xs.length]?=b3 v;simp
def W0(b:Us):Prop:=∀o i,subscripted b bb o i=operate [o,i] (Le o i)
def CK(X:Cx)(r:R2):Prop:=
 ∀(value a:Us) (aa:List (Ul×Uw)) (s:Af) (σ:St) (H:Hp) (x y:V) (v u:Uk) (Q:VK),cF X aa σ H s->bV x v->bV y u->r x y H Q->
  subscripted a bb v u=operate [v,u] (Le v u)->Uo (Ur X.prog X.w) X.A (subscriptTail value a v u) (EP X aa σ Q) X.xe s
def MtR(X:Cx)(id:String)(r:V->List V->Hp->VK->Prop):Prop:=
 ∀(aa:List (Ul×Uw)) (s:Af) (σ:St) (H:Hp) (x:V) (xs:List V) (v:Uk) (a:List Uk) (Q:VK),cF X aa σ H s->bV x v->bQ xs a->r x xs H Q->
  Uo (Ur X.prog X.w) X.A (call (.builtin id) (v::a)) (EP X aa σ Q) X.xe s
section
variable{X:Cx}{a b:Us}{ta tb:TE}{pos:Pos}
def CK.or{r r':R2}(h:CK X r)(h':CK X r'):CK X (λx y H Q=>r x y H Q∨r' x y H Q):=by
 intro value a aa s σ H x y v u Q I c b q d;rcases q with q|q
 ·exact h value a aa s σ H x y v u Q I c b q d
 ·exact h' value a aa s σ H x y v u Q I c b q d
def NO{r:R2}(g:CK X r)(j:PE X a ta)(i:PE X b tb)(f:W0 b):PE X (.Subscript a b pos) (tOp r ta tb):=by intro aa s σ H Q I h;exact Subscript_ (binT j i I h λv u c x y H2 k e d q=>g a b aa c σ H2 x y v u Q k e d q (f _ _))
def rIxL(K:Ah):R2:=λx y H Q=>∃p xs i v,x=.ref p/\y=.int i/\X2 K H p xs/\T2 xs i=b3 v/\Q v H
def rIxT(K:Ah):R2:=λx y H Q=>∃p xs i v,x=.ref p/\y=.int i/\WL K H p xs/\T2 xs i=b3 v/\Q v H
def rIxS:R2:=λx y H Q=>∃z i c,x=.str z/\y=.int i/\z.length<=sizeLine/\T2 z.cps.toList i=b3 c/\Q (.str ⟨#[c]⟩) H
def C8:CK X (rIxL X.K):=by
 intro value b aa s σ H x y v u Q I m l h f;obtain⟨p,xs,i,z,rfl,rfl,n,o,q⟩:=h;cases m;obtain⟨t,rfl⟩:=l;obtain⟨its,r,d,hz⟩:=I.list n;obtain⟨j,h1,h2,D,B,A⟩:=IW o;obtain⟨w,k,c⟩:=r.get h2;have hl:=r.length;have C:=P4;have a:EP X aa σ Q w s:=⟨z,H,I,c,q⟩;by_cases g:0<=i
 ·have e:i.toNat=j:=by rw[Ro g A]at h1;exact Bp h1
  exact item_listR d.isList g (by lia) (by rw[e];simpa using k) a f
 ·have e:(i+(its.toArray.size:Int)).toNat=j:=by rw[Qg (by lia) B]at h1;rw[Ak,<- hl];exact Bp h1
  exact Mb (x:=w) d.isList.typeIs slot_list_getitem.lookup
   (wpAny_getItem_list_neg (Q:=λr s'=>r=w/\EP X aa σ Q r s') d.isList (by lia) (by rw[Ak]<;>lia) (by lia) (by rw[e];simpa using k) ⟨rfl,a⟩) f
def zJI:CK X (rIxT X.K):=by
 intro value a aa s σ H x y v u Q I f e h g;obtain⟨p,xs,i,z,rfl,rfl,k,l,q⟩:=h;cases f;obtain⟨t,rfl⟩:=e;obtain⟨its,r,d,hz⟩:=I.tuple k;obtain⟨j,h1,h2,B,A,o⟩:=IW l;obtain⟨w,m,b⟩:=r.get h2;have hl:=r.length;have n:=P4;have c:EP X aa σ Q w s:=⟨z,H,I,b,q⟩;exact Mb (x:=w) d.typeIs slot_tuple_getitem.lookup
  (getItem_tuple (j:=j) (Q:=λr s'=>r=w/\EP X aa σ Q r s') d (by lia) (by lia) (by rw[Ak,<-hl];exact h1) (by simpa using m) ⟨rfl,c⟩) g
def qP:CK X rIxS:=by
 intro value a aa s σ H x y v u Q I d b h e;obtain⟨z,i,c,rfl,rfl,hz,f,q⟩:=h;obtain⟨t,rfl⟩:=d;obtain⟨t',rfl⟩:=b;obtain⟨j,h1,h2,o,k,g⟩:=IW f;have hl:z.cps.toList.length=z.length:=by simp[Str.length]
 rw[hl]at h1 k g;have n:=P4;exact Tc (typeIs_str s z t) slot_str_getitem.lookup (getItem_str (c:=c) (by have m:decide (i< -(2 ^ 63:Int))=bb:=decide_eq_false (by lia);have l:decide (i≥2 ^ 63)=bb:=decide_eq_false (by lia);rw[m,l,Te]) (by rw[h1];simpa using h2) ⟨.str ⟨#[c]⟩,H,I.tok _,⟨_,rfl⟩,q⟩) e
def rIx(K:Ah):R2:=λx y H Q=>rIxL K x y H Q∨rIxT K x y H Q∨rIxS x y H Q
def zJK:CK X (rIx X.K):=C8.or (zJI.or qP)
def E4(its:List Uk)(n j:Nat)(u:Uk):Dg (·.setIfInBounds j u) {cls:=.type "list",data:=.seq its.toArray n}={cls:=.type "list",data:=.seq (its.set j u).toArray n}:=by simp[Dg]
def J6(lo hi:Option Int)(n:Nat):(Hf lo hi b4 n).1=((HT.sIx n 0 lo:Nat):Int)/\(Hf lo hi b4 n).2.1=((HT.sIx n n hi:Nat):Int)/\(Hf lo hi b4 n).2.2=1:=by
 refine⟨?_,?_,rfl⟩
 ·cases lo with
  |none=>simp[Hf,HT.sIx]
  |some i=>
   simp only[Hf,HT.sIx,Qo,show(1:Int)>0 by decide,if_true];by_cases h:i<0
   ·simp only[h,if_true]<;>lia
   ·simp only[h,if_false]<;>lia
 ·cases hi with
  |none=>simp[Hf,HT.sIx]
  |some i=>
   simp only[Hf,HT.sIx,Qo,show(1:Int)>0 by decide,if_true];by_cases h:i<0
   ·simp only[h,if_true]<;>lia
   ·simp only[h,if_false]<;>lia
def MO(its:List Uk)(lo hi:Option Int):slicePick its.toArray lo hi b4=((its.drop (HT.sIx its.length 0 lo)).take (HT.sIx its.length its.length hi-HT.sIx its.length 0 lo)).toArray:=by obtain⟨h1,h2,a⟩:=J6 lo hi its.toArray.size;unfold slicePick;rw[h1,h2,a];simp only[sliceRange_one,pick_run,Ak]<;>rfl
def rSlL(K:Ah):V->Option Int->Option Int->Hp->VK->Prop:=λx lo hi H Q=>∃a xs,x=.ref a/\X2 K H a xs/\∀p,H p=b4->Q (.ref p) (upd H p (.lst (GH xs lo hi)))
def r6:SlR X (rSlL X.K):=by intro aa s σ H x v k j lo hi l Q I d g e pu h;obtain⟨a,xs,rfl,f,q⟩:=h;cases d;obtain⟨its,r,c,hz⟩:=I.list f;have i:=r.length;refine⟨"list",_,slot_list_getitem.lookup,c.isList.typeIs,?_⟩;refine wpAny_getItem_list_slice c.isList g e pu .none (by simp) ?_ (by rw[Ak]<;>lia);rw[MO,<-i];refine⟨.ref s.heap.objs.size,_,I.laid (t':=s.toks) (o:=.lst (GH xs lo hi)) (λb m q=>Ae _ q) (Ar _) ?_,rfl,q _ (I.hok.fresh (Ar _))⟩;exact⟨Fp (O9 xs lo hi) hz,_,0,(r.drop (HT.sIx xs.length 0 lo)).take (HT.sIx xs.length xs.length hi-HT.sIx xs.length 0 lo),As _ rfl⟩
def JA:Z6 X (.builtin "len") (λxs H Q=>∃p ys,xs=[.ref p]/\(X2 X.K H p ys∨WL X.K H p ys)/\Q (.int ys.length) H):=by
 intro aa s σ H xs e Q I r h;obtain⟨p,ys,rfl,a,q⟩:=h;obtain⟨u,rfl,d⟩:=SQ r;cases d;have f:=P4;rcases a with a|a
 ·obtain⟨its,r',b,hz⟩:=I.list a
  have c:=r'.length;exact Calls.call_len_list b.isList (by simp only[Ak]<;>lia) ⟨.int ys.length,H,I.tok _,⟨s.toks+1,by rw[Ak,c]⟩,q⟩
 ·obtain⟨its,r',b,hz⟩:=I.tuple a
  have c:=r'.length;exact len_tuple b (by simp only[Ak]<;>lia) ⟨.int ys.length,H,I.tok _,⟨s.toks+1,by rw[Ak,c]⟩,q⟩
def JB:Z6 X (.builtin "len") (λxs H Q=>∃z,xs=[.str z]/\z.length<=sizeLine/\Q (.int z.length) H):=by intro aa s σ H xs a Q I r h;obtain⟨z,rfl,hz,q⟩:=h;obtain⟨u,rfl,t,rfl⟩:=SQ r;have b:=P4;exact len_str (by lia) ⟨.int z.length,H,I.tok _,⟨_,rfl⟩,q⟩
def Z6.or{f:Uk}{r r':List V->Hp->VK->Prop}(h:Z6 X f r)(h':Z6 X f r'):Z6 X f (λxs H Q=>r xs H Q∨r' xs H Q):=by
 intro aa s σ H xs a Q I b q;rcases q with q|q
 ·exact h aa s σ H xs a Q I b q
 ·exact h' aa s σ H xs a Q I b q
def JC:Z6 X (.type "list") (λxs H Q=>∃p ys,xs=[.ref p]/\(X2 X.K H p ys∨WL X.K H p ys)/\∀l,H l=b4->Q (.ref l) (upd H l (.lst ys))):=by
 intro aa s σ H xs k Q I r h;obtain⟨p,ys,rfl,c,q⟩:=h;obtain⟨u,rfl,i⟩:=SQ r;cases i;have d:∀(its:List Uk),bQ ys its->ys.length<=sizeLine->∀(h':Uv) (a:Nat),(∀b o',s.heap.get? b=b3 o'->h'.get? b=b3 o')->
   h'.get? s.heap.objs.size=b3 {cls:=.type "list",dict:=b4,data:=.seq its.toArray a,slots:= #[]}->EP X aa σ Q (.ref s.heap.objs.size) {s with heap:=h'}:=λits r' hz h' a kp e=>
  ⟨.ref s.heap.objs.size,_,I.laid (t':=s.toks) kp (Ar _) (show Z8 X.prog X.w _ h' _ (.lst ys) from⟨hz,its,a,r',e⟩),rfl,q _ (I.hok.fresh (Ar _))⟩
 rcases c with c|c
 ·obtain⟨its,r',f,hz⟩:=I.list c
  have j:=r'.length;obtain⟨o,g,hc,n,hd⟩:=f.isList;exact call_list_seq p (.inl rfl) g hc hd (λh' a kp e=>d its r' hz h' a kp e) (by simp only[Ak]<;>lia)
 ·obtain⟨its,r',f,hz⟩:=I.tuple c
  have j:=r'.length;obtain⟨o,g,hc,n,hd⟩:=f;exact call_list_seq p (.inr rfl) g hc hd (λh' a kp e=>d its r' hz h' a kp e) (by simp only[Ak]<;>lia)
def MI:Z6 X (.type "tuple") (λxs H Q=>∃p ys,xs=[.ref p]/\((X2 X.K H p ys/\∀l,H l=b4->Q (.ref l) (upd H l (.tup ys)))∨(WL X.K H p ys/\Q (.ref p) H))):=by
 intro aa s σ H xs i Q I r h;obtain⟨p,ys,rfl,h⟩:=h;obtain⟨u,rfl,f⟩:=SQ r;cases f;rcases h with⟨c,q⟩|⟨c,q⟩
 ·obtain⟨its,r',a,hz⟩:=I.list c
  have j:=r'.length;refine call_tuple_list a.isList (λh' kp=>?_) (by simp only[Ak]<;>lia);have d:cF X aa σ H {s with heap:=h'}:=I.kept (t':=s.toks) kp;have g:cF X aa σ (upd H h'.objs.size (.tup ys)) {s with heap:=h'.push {cls:=.type "tuple",data:=.seq its.toArray}}:=
   d.laid (t':=s.toks) (λb o e=>Ae _ e) (Ar _) (show Z8 X.prog X.w _ _ _ (.tup ys) from⟨hz,its,r',Jo _ _⟩)
  exact⟨.ref h'.objs.size,_,g,rfl,q _ (d.hok.fresh (Ar _))⟩
 ·obtain⟨its,r',a,hz⟩:=I.tuple c
  exact call_tuple_same a ⟨.ref p,H,I,rfl,q⟩
def tyV(K:Ah)(T:String)(x:V)(H:Hp):Prop:=match x with
 |.str _=>T= "str"
 |.int _=>T= "int"
 | .ref p => (T = "list" /\ ∃ xs,X2 K H p xs) ∨ (T = "tuple" /\ ∃ o,K.lookup p = b3 o /\ o.cls = .type "tuple" /\ o.dict = b4) ∨
   (T= "dict" /\((∃kvs,H p=b3 (.dK kvs))∨∃kvs,H p=b3 (.dT kvs)))∨(T= "set" /\∃S n,H p=b3 (.set S n))
 |_=>False
def nV{aa:List (Ul×Uw)}{σ:St}{H:Hp}{s:Af}{T:String}{x:V}{v:Uk}(I:cF X aa σ H s)(r:bV x v)(ty:tyV X.K T x H):s.TypeIs v T/\∀a,v=.ref a->∃f,s.heap.get? a=b3 f/\f.dict=b4:=by
 cases x with
 |str z=>
  obtain⟨t,rfl⟩:=r;cases (show T= "str" from ty);exact⟨typeIs_str s z t,λ_ e=>nomatch e⟩
 |int i=>
  obtain⟨t,rfl⟩:=r;cases (show T= "int" from ty);exact⟨Mx s i t,λ_ e=>nomatch e⟩
 |ref p=>
  cases r;rcases ty with⟨rfl,xs,g⟩|⟨rfl,o,hk,hc,hd⟩|⟨rfl,hk⟩|⟨rfl,S,n,hk⟩
  ·obtain⟨its,_,d,_⟩:=I.list g
   refine⟨d.isList.typeIs,λa e=>?_⟩;cases e;obtain⟨o,n,e,c,hd,_⟩:=d;exact⟨o,e,hd⟩
  ·refine ⟨⟨o,I.kIn p o hk,hc⟩,λa e => ?_⟩
   cases e;exact⟨o,I.kIn _ o hk,hd⟩
  ·have z: ∃o,s.heap.get? p=b3 o/\o.ExactDict:=by
    rcases hk with⟨kvs,hk⟩|⟨kvs,hk⟩
    ·obtain⟨_,_,_,_,o,_,_,e,ex,_⟩:=I.hok p _ hk
     exact⟨o,e,ex⟩
    ·obtain⟨_,_,_,_,o,_,_,e,ex,_⟩:=I.hok p _ hk
     exact⟨o,e,ex⟩
   obtain⟨o,e,ex⟩:=z;refine⟨⟨o,e,ex.1⟩,λa b=>?_⟩;cases b;exact⟨o,e,ex.2.1⟩
  ·obtain⟨o,_,_,_,e,ex,_⟩:=I.hok p _ hk
   refine⟨⟨o,e,ex.1⟩,λa b=>?_⟩;cases b;exact⟨o,e,ex.2.1⟩
 |_=>exact Gx ty
def tBM(K:Ah)(T:String)(r:V->List V->Hp->VK->Prop)(to:TE)(t:TA):TE:=λσ H Q=>to σ H λx H1=>tyV K T x H1/\t σ H1 λxs H2=>r x xs H2 Q
variable{o e:Us}{es:List Us}{to:TE}{t:TA}{name:Uq}{ao ae:Pos}{T id:String}{r:V->List V->Hp->VK->Prop}
def mB(pa:PlainAttrs T)(slot:Slot T name id)(a:Qh (.builtin id)=pure (.type "method_descriptor"))(l:MtR X id r)(k:PE X o to)(m:PA X (e::es) t)(p:Gi o name X.env (eval o X.env)=eval o X.env:=by rfl)(n:((Fb ae (Um (e::es) X.env)).all (λx=> !x.1)&&(Lg ae (Hg [] X.env)).all (λx=>x.1.isSome)&&decide ((e::es).length+([]:List Hh).length+(if([]:List Hh).isEmpty then 0 else 1)<30))=ba:=by rfl)(q:(ao.endLine==ae.line)=ba:=by rfl)(j:Um (e::es) X.env=(bb,eval e X.env)::Um es X.env:=by rfl)(u:(Fb ae (Um es X.env)).any (·.1)=bb:=by rfl):PE X (.Call (.Attribute o name ao) (e::es) [] ae) (tBM X.K T r to t):=by intro aa s σ H Q I h;refine wpAny_Call_method_late p n q rfl (ZL (k aa s σ H _ I h) λv s1 ⟨x,H1,d,b,ty,q1⟩=>?_);obtain⟨h1,h2⟩:=nV d b ty;refine⟨T,id,pa,slot,a,h1,h2,?_⟩;have c:=m ae aa s1 σ H1 _ d q1;rw[j]at c⊢;refine Gp (by show(bb || (Fb ae (Um es X.env)).any (·.1))=bb;rw[u]<;>rfl) (Fz ?_);exact ZL c λf g ⟨vs,H2,w,i,q2⟩=>l aa g σ H2 x vs v f Q w b i q2
end
def MtM(X:Cx)(id:String)(r:V->List V->Hp->VK->Prop):Prop:=
 ∀(aa:List (Ul×Uw)) (s:Af) (σ:St) (H:Hp) (x:V) (xs:List V) (v:Uk) (a:List Uk) (Q:VK),cF X aa σ H s->bV x v->bQ xs a->r x xs H Q->
  Uo (Ur X.prog X.w) X.A (call (.builtin id) (v::a)) (EP X aa σ Q) X.xe s
theorem bQ.one:∀{x:V}{a:List Uk},bQ [x] a->∃u,a=[u]/\bV x u
 |_,_,.cons r .nil=>⟨_,rfl,r⟩
theorem bQ.eraseIdx:∀{xs:List V}{a:List Uk}(i:Nat),bQ xs a->bQ (xs.eraseIdx i) (a.eraseIdx i)
 |_,_,_,.nil=>.nil
 |_,_,0,.cons _ t=>t
 |_,_,i+1,.cons r t=>.cons r (bQ.eraseIdx i t)
section
variable{X:Cx}{aa:List (Ul×Uw)}{σ:St}{H:Hp}{s:Af}{l b:Ul}{xs ys zs:List V}
def cF.lset{its its':List Uk}{n:Nat}{f:Array Uk->Array Uk}{t':Nat}(I:cF X aa σ H s)(g:H l=b3 (.lst xs))(e:s.heap.get? l=b3 {cls:=.type "list",data:=.seq its.toArray n})(c:f its.toArray=its'.toArray)(a:bQ ys its')(hz:ys.length<=sizeLine):cF X aa σ (upd H l (.lst ys)) {s with heap:=s.heap.update l (Dg f),toks:=t'}:=by have q:=PySem.IsL.update e f;rw[c]at q;refine I.write (x:=l) (e:=l) (by rw[g];exact trivial) (.inl rfl) (λh u d b=>(Ew s.heap (Dg f) (Di d)).trans b) ⟨_,q⟩ ?_;exact⟨hz,its',_,a,q⟩
def cF.lnew{its:List Uk}{t':Nat}(I:cF X aa σ H s)(a:bQ ys its)(hz:ys.length<=sizeLine):cF X aa σ (upd H s.heap.objs.size (.lst ys)) {s with heap:=s.heap.push {cls:=.type "list",data:=.seq its.toArray},toks:=t'}:=
 I.laid (λ_ _ q=>Ae _ q) (Ar _) ⟨hz,its,0,a,As _ rfl⟩
def cF.fresh(I:cF X aa σ H s):H s.heap.objs.size=b4:=I.hok.fresh (Ar _)
def cF.lstM(I:cF X aa σ H s)(a:H l=b3 (.lst xs)):xs.length<=sizeLine/\∃(its:List Uk) (n:Nat),bQ xs its/\xs.length=its.length/\s.heap.get? l=b3 {cls:=.type "list",data:=.seq its.toArray n}:=by obtain⟨z,its,n,r,e⟩:=I.hok l _ a;exact⟨z,its,n,r,r.length,e⟩
def kO{n:Nat}(h:n<=sizeLine):Ea n=bb:=by unfold Ea;exact decide_eq_false (by lia)
end
section
variable{X:Cx}
def DS:V->List V->Hp->VK->Prop:=λx vs H Q=>∃l xs y,x=.ref l/\vs=[y]/\H l=b3 (.lst xs)/\xs.length<sizeLine/\Q .non (upd H l (.lst (xs++[y])))
def aI:MtM X "list.append" DS:=by intro aa s σ H x vs v f Q I b c h;obtain⟨l,xs,y,rfl,rfl,a,hz,q⟩:=h;cases b;obtain⟨u,rfl,d⟩:=c.one;obtain⟨z,its,n,r,hl,e⟩:=I.lstM a;refine Fk Oi ⟨_,e,rfl⟩ Nq (Na _ _) (Ph l its.toArray n u (by rw[Ak];lia)) ⟨e,?_⟩;refine⟨.non,_,I.lset (its':=its++[u]) a e (by simp) (r.append (.cons d .nil)) ?_,rfl,q⟩;rw[Bw,Eb];lia
end
section
variable{prog:Av}{w:Uu}{A:Cc}{E:Uk->Af->Prop}{s:Af}
set_option maxRecDepth 100000 in
end
section
variable{κ:Type}[DecidableEq κ]
noncomputable def SW(kvs:List (κ×V))(k:κ):Option V:=(kvs.find? λa=>decide (a.1=k)).map (·.2)
noncomputable def W9(kvs:List (κ×V))(k:κ)(v:V):List (κ×V):=
 if(kvs.any λa=>decide (a.1=k))=ba then kvs.map (λa=>if a.1=k then(a.1,v)else a)else kvs++[(k,v)]
def RA{p:κ×V}{r:List (κ×V)}{k:κ}(e:p.1=k):SW (p::r) k=b3 p.2:=by simp[SW,Gv,e]
def UQ{p:κ×V}{r:List (κ×V)}{k:κ}(e:¬p.1=k):SW (p::r) k=SW r k:=by simp[SW,Gv,e]
theorem N6(k:κ):∀kvs:List (κ×V),(kvs.any λa=>decide (a.1=k))=(SW kvs k).isSome
 |[]=>rfl
 |p::r=>by
  rw[Je];by_cases e:p.1=k
  ·simp only[RA e,decide_eq_true e,Bool.true_or,Oj]
  ·rw[UQ e,decide_eq_false e,Tf];exact N6 k r
def PD(kvs:List (κ×V))(k:κ)(v:V):(W9 kvs k v).length<=kvs.length+1:=by
 unfold W9;split
 ·rw[Ci];lia
 ·rw[Bw,Bx,Mm];lia
def lF{kvs:List (κ×V)}{k:κ}(v:V)(h:SW kvs k=b4):W9 kvs k v=kvs++[(k,v)]:=by unfold W9;rw[N6,h];exact if_neg (by decide)
def PP.isSome_eq{o:Option V}{u:Option Uk}(r:PP o u):o.isSome=u.isSome:=by
 cases o with
 |none=>cases u with
  |none=>rfl
  |some _=>exact(show False from r).elim
 |some _=>cases u with
  |none=>exact(show False from r).elim
  |some _=>rfl
def PP.getD{o:Option V}{u:Option Uk}{d:V}{d':Uk}(r:PP o u)(a:bV d d'):bV (o.getD d) (u.getD d'):=by
 cases o with
 |none=>cases u with
  |none=>exact a
  |some _=>exact(show False from r).elim
 |some _=>cases u with
  |none=>exact(show False from r).elim
  |some _=>exact r
def KV.val{kvs:List (κ×V)}{vs:List (κ×Uk)}(r:KV kvs vs)(k:κ):PP (SW kvs k) (Pj vs k):=by
 unfold KV at r;induction r with
 |nil=>exact True.intro
 | @cons p q ps a h t d=>
  obtain⟨h1,h2⟩:=h;by_cases e:p.1=k
  ·have c:q.1=k:=h1.symm.trans e
   have b:Pj (q::a) k=b3 q.2:=by simp[Pj,Gv,c]
   rw[RA e,b];exact h2
  ·have c : ¬ q.1 = k := λz => e (h1.trans z)
   have b:Pj (q::a) k=Pj a k:=by simp[Pj,Gv,c]
   rw[UQ e,b];exact d
def KV.any{kvs:List (κ×V)}{vs:List (κ×Uk)}(r:KV kvs vs)(k:κ):(kvs.any λa=>decide (a.1=k))=vs.any λa=>decide (a.1=k):=by
 unfold KV at r;induction r with
 |nil=>rfl
 |cons h t b=>rw[Je,Je,b,h.1]
def KV.repl{kvs:List (κ×V)}{vs:List (κ×Uk)}(r:KV kvs vs)(k:κ){y:V}{u:Uk}(b:bV y u):KV (kvs.map λa=>if a.1=k then(a.1,y)else a) (vs.map λa=>if a.1=k then(a.1,u)else a):=by
 unfold KV at r⊢;induction r with
 |nil=>exact .nil
 | @cons p q ps d h t c=>
  rw[Ba,Ba];refine .cons ?_ c;obtain⟨h1,h2⟩:=h;by_cases e:p.1=k
  ·rw[if_pos e,if_pos (h1.symm.trans e)];exact⟨h1,b⟩
  ·rw[if_neg e,if_neg (λz=>e (h1.trans z))];exact⟨h1,h2⟩
def KV.put{kvs:List (κ×V)}{vs:List (κ×Uk)}(r:KV kvs vs)(k:κ){y:V}{u:Uk}(a:bV y u):KV (W9 kvs k y) (Tw vs k u):=by
 unfold W9 Tw;rw[r.any k];by_cases e:(vs.any λb=>decide (b.1=k))=ba
 ·rw[if_pos e,if_pos e];exact r.repl k a
 ·rw[if_neg e,if_neg e];exact Ug r ⟨rfl,a⟩
def KV.length{kvs:List (κ×V)}{vs:List (κ×Uk)}(r:KV kvs vs):kvs.length=vs.length:=Od r
end
def LB{P:Av}{w:Uu}{k:aR}{u:Uk}(r:bV (kV k) u):(aW P w).is k u=ba:=by
 cases k with
 |inl i=>obtain⟨t,e⟩:=(show∃t,u=Rj i t from r);subst e;exact G4 P w i t
 |inr x=>obtain⟨t,e⟩:=(show∃t,u=Rk x t from r);subst e;exact G5 P w x t
theorem K9{P:Av}{w:Uu}:∀{ks:List aR}{a:List Uk},bQ (ks.map kV) a->ItemsAre (aW P w) ks a
 |[],_,r=>by rw[Eu]at r;cases r;exact .nil
 |k::ks,_,r=>by
  rw[Ba]at r;cases r with
  |cons h t=>exact .cons (LB h) (K9 t)
abbrev KT(H:Hp):List (List aR×V)->List (List aR×Ul×Uk)->Prop:=Paired λp q=>p.1=q.1/\H q.2.1=b3 (.tup (p.1.map kV))/\bV p.2 q.2.2
def KT.val{H:Hp}{kvs:List (List aR×V)}{xs:List (List aR×Ul×Uk)}(r:KT H kvs xs)(k:List aR):PP (SW kvs k) ((atKey xs k).map (·.2)):=by
 induction r with
 |nil=>exact True.intro
 | @cons p q ps a h t d=>
  obtain⟨h1,_,h2⟩:=h;by_cases e:p.1=k
  ·have c:q.1=k:=h1.symm.trans e
   have b:atKey (q::a) k=b3 q.2:=by simp[atKey,Gv,c]
   rw[RA e,b];exact h2
  ·have c : ¬ q.1 = k := λz => e (h1.trans z)
   have b:atKey (q::a) k=atKey a k:=by simp[atKey,Gv,c]
   rw[UQ e,b];exact d
def KT.repl{H:Hp}{kvs:List (List aR×V)}{xs:List (List aR×Ul×Uk)}(r:KT H kvs xs)(k:List aR){y:V}{u:Uk}(b:bV y u):KT H (kvs.map λa=>if a.1=k then(a.1,y)else a) (xs.map (putAt k u)):=by
 induction r with
 |nil=>exact .nil
 | @cons p q ps f h t c=>
  rw[Ba,Ba];refine .cons ?_ c;obtain⟨h1,h2,d⟩:=h;unfold putAt;by_cases e:p.1=k
  ·rw[if_pos e,if_pos (h1.symm.trans e)];exact⟨h1,h2,b⟩
  ·rw[if_neg e,if_neg (λz=>e (h1.trans z))];exact⟨h1,h2,d⟩
def KT.put{H:Hp}{kvs:List (List aR×V)}{xs:List (List aR×Ul×Uk)}(r:KT H kvs xs)(k:List aR){b:Ul}{y:V}{u:Uk}(d:H b=b3 (.tup (k.map kV)))(a:bV y u):KT H (W9 kvs k y) (storedH xs k b u):=by
 have e:(kvs.any λc=>decide (c.1=k))=(atKey xs k).isSome:=by rw[N6,(r.val k).isSome_eq,Option.isSome_map]
 unfold W9 storedH;rw[e];by_cases q:(atKey xs k).isSome=ba
 ·rw[if_pos q,if_pos q];exact r.repl k a
 ·rw[if_neg q,if_neg q];exact Ug r ⟨rfl,d,a⟩
def KT.keeps{H H':Hp}{kvs:List (List aR×V)}{xs:List (List aR×Ul×Uk)}(r:KT H kvs xs)(a:∀b ys,H b=b3 (.tup ys)->H' b=b3 (.tup ys)):KT H' kvs xs:=
 Paired.mapP r λ_ _ z=>⟨z.1,a _ _ z.2.1,z.2.2⟩
section
variable{P:Av}{w:Uu}{H:Hp}{h:Uv}{a:Ul}
def Yt{u:HO}(ok:UU P w H h)(e:Rd H a u):Z8 P w H h a u:=e.ok ok
def KU{kvs:List (aR×V)}(ok:UU P w H h)(e:Rd H a (.dK kvs)):kvs.length<=sizeLine/\(a==Gb)=bb/\∃vs,KV kvs vs/\h.DictOf (aW P w) a vs:=
 show Z8 P w H h a (.dK kvs) from Yt ok e
def kP{kvs:List (aR×V)}(ok:UU P w H h)(e:H a=b3 (.dK kvs)):kvs.length<=sizeLine/\(a==Gb)=bb/\∃vs,KV kvs vs/\h.DictOf (aW P w) a vs:=KU ok (Rd.of e)
def NG{ks:List aR}(ok:UU P w H h)(e:H a=b3 (.tup (ks.map kV))):(tupleKind (aW P w)).is h ks a:=by obtain⟨_,its,r,o,h1,h2,n,b⟩:=(show Z8 P w H h a (.tup (ks.map kV)) from ok a _ e);exact⟨o,its.toArray,n,h1,h2,b,by simpa using K9 r⟩
def KZ{kvs:List (List aR×V)}(ok:UU P w H h)(e:Rd H a (.dT kvs)):kvs.length<=sizeLine/\(a==Gb)=bb∧ ∃xs,KT H kvs xs/\h.DictOfH (tupleKind (aW P w)) a xs:=by
 obtain⟨z,y,xs,r,o,es,j,h1,h2,i,g,f⟩:=(show Z8 P w H h a (.dT kvs) from Yt ok e);refine⟨z,y,xs,r,o,es,j,h1,h2,i,g,λx b=>?_,f⟩;have all:∀{l:List (List aR×V)}{m:List (List aR×Ul×Uk)},KT H l m->∀x∈m,(tupleKind (aW P w)).is h x.1 x.2.1:=by
  intro l m q;induction q with
  |nil=>intro x b;exact nomatch b
  | @cons p q ps k c t d=>
   intro x b;rcases Am.mp b with e|b
   ·subst e
    exact NG ok (by rw[<-c.1];exact c.2.1)
   ·exact d x b
 exact all r x b
def pI{kvs:List (List aR×V)}(ok:UU P w H h)(e:H a=b3 (.dT kvs)):kvs.length<=sizeLine/\(a==Gb)=bb∧ ∃xs,KT H kvs xs/\h.DictOfH (tupleKind (aW P w)) a xs:=KZ ok (Rd.of e)
end
def PM(H:Hp)(a:Ul)(y:V)(r:Option V):Prop:=
 (∃kvs k,Rd H a (.dK kvs)/\y=kV k/\r=SW kvs k)∨∃kvs k b,Rd H a (.dT kvs)/\y=.ref b/\H b=b3 (.tup (k.map kV))/\r=SW kvs k
def DPut(H:Hp)(a:Ul)(y v:V)(H':Hp):Prop:=
 (∃kvs k,H a=b3 (.dK kvs)/\y=kV k/\kvs.length<sizeLine/\H'=upd H a (.dK (W9 kvs k v)))∨
 ∃kvs k b,H a=b3 (.dT kvs)/\y=.ref b/\H b=b3 (.tup (k.map kV))/\kvs.length<sizeLine/\H'=upd H a (.dT (W9 kvs k v))
def PM.k{H:Hp}{a:Ul}{kvs:List (aR×V)}{k:aR}(e:H a=b3 (.dK kvs)):PM H a (kV k) (SW kvs k):=.inl ⟨kvs,k,Rd.of e,rfl,rfl⟩
def DPut.k{H:Hp}{a:Ul}{kvs:List (aR×V)}{k:aR}{v:V}(e:H a=b3 (.dK kvs))(hl:kvs.length<sizeLine):DPut H a (kV k) v (upd H a (.dK (W9 kvs k v))):=.inl ⟨kvs,k,e,rfl,hl,rfl⟩
section
variable{X:Cx}{aa:List (Ul×Uw)}{σ:St}{H:Hp}{s:Af}{a:Ul}{y v:V}{u r:Uk}{o:Option V}{A:Cc}{E:Uk->Af->Prop}
def cF.big(I:cF X aa σ H s):Gb<s.heap.objs.size:=by have h:Up<s.heap.objs.size:=(I.mod.glob.keeps I.bk).lt;exact Qi (by decide) h
def AJ{Q:Uk->Af->Prop}(n:A.units+1<cLine)(I:cF X aa σ H s)(g:PM H a y (b3 v))(m:bV y u)(h:∀f s',cF X aa σ H s'->bV v f->Q f s'):Uo (Ur X.prog X.w) A (Le (.ref a) u) Q E s:=by
 rcases g with⟨kvs,k,e,j,l⟩|⟨kvs,k,b,e,j,r,l⟩
 ·subst j
  obtain⟨z,hd,vs,d,dd⟩:=KU I.hok e;obtain⟨f,hw,c⟩:=PP.some_of (v:=v) (o:=Pj vs k) (by rw[l];exact d.val k);exact wpAny_getItem_of (LB m) dd.mapOf hw (h f _ (I.tok _) c)
 ·subst j
  cases (show u=Bv b from m);obtain⟨z,hd,xs,d,dd⟩:=KZ I.hok e;obtain⟨f,hw,c⟩:=PP.some_of (v:=v) (o:=(atKey xs k).map (·.2)) (by rw[l];exact d.val k);obtain⟨p,q,i⟩:=Ap.mp hw;refine wpAny_getItem_heap (Hs n) (NG I.hok r) dd q ?_;rw[i];exact h f _ (I.tok _) c
def CU{h':Uv}{t':Nat}{c:HO}(I:cF X aa σ H s)(d:Mut (H a))(f:Fq a s.heap h')(g:∃q,h'.get? a=b3 q)(new:Z8 X.prog X.w (upd H a c) h' a c):cF X aa σ (upd H a c) {s with heap:=h',toks:=t'}:=
 I.write (x:=a) (e:=a) d (.inl rfl) (λb q h z=>(f.2 b h).trans z) g new
def Xa{P:Av}{w:Uu}{H':Hp}{h':Uv}{kvs:List (aR×V)}{vs:List (aR×Uk)}(z:kvs.length<=sizeLine)(hd:(a==Gb)=bb)(b:KV kvs vs)(dd:h'.DictOf (aW P w) a vs):Z8 P w H' h' a (.dK kvs):=⟨z,hd,vs,b,dd⟩
def AK{H':Hp}{Q:Unit->Af->Prop}(B:A.units+1<cLine)(I:cF X aa σ H s)(g:DPut H a y v H')(o:bV y u)(p:bV v r)(h:∀s',cF X aa σ H' s'->Q () s'):Uo (Ur X.prog X.w) A (Pe (.ref a) u r) Q E s:=by
 rcases g with⟨kvs,k,e,m,l,n⟩|⟨kvs,k,b,e,m,x,l,n⟩
 ·subst m n
  obtain⟨z,hd,vs,d,dd⟩:=kP I.hok e;have hz:vs.length<=sizeLine:=by rw[<-d.length];exact z
  have hl:(W9 kvs k v).length<=sizeLine:=by have:=PD kvs k v;lia
  refine wpAny_setItem_pairs (hsz:=hz) (LB o) dd λh' f j=>h _ ?_;have C:∃q,h'.get? a=b3 q:=let ⟨q,_,_,i,_⟩:=f;⟨q,i⟩
  exact CU I (by rw[e];exact True.intro) j C (Xa hl hd (d.put k p) f)
 ·subst m n
  cases (show u=Bv b from o);obtain⟨z,hd,xs,d,dd⟩:=pI I.hok e;have hz:xs.length<=sizeLine:=by rw[<-Od d];exact z
  have hl:(W9 kvs k v).length<=sizeLine:=by have:=PD kvs k v;lia
  refine wpAny_setItem_heap (hsz:=hz) (Hs B) (NG I.hok x) dd λh' f j=>h _ ?_;obtain⟨q,es,J,i,h2,G,F,_,D⟩:=f;refine CU I (by rw[e];exact True.intro) j ⟨q,i⟩ ⟨hl,hd,_,(d.put k x p).keeps λc ys t=>?_,q,es,J,i,h2,G,F,D⟩;rw[bZ (QZ t e (λz=>nomatch z))];exact t
end
def GI{X:Cx}{aa:List (Ul×Uw)}{σ:St}{H:Hp}{s:Af}{a:Ul}{y:V}{o:Option V}(I:cF X aa σ H s)(g:PM H a y o):s.TypeIs (.ref a) "dict":=by
 rcases g with⟨kvs,k,e,_,_⟩|⟨kvs,k,b,e,_,_,_⟩
 ·obtain⟨_,_,vs,_,dd⟩:=KU I.hok e
  exact dd.typeIs
 ·obtain⟨_,_,xs,_,dd⟩:=KZ I.hok e
  exact dd.typeIs
def iG(td ty tv:TE):TS:=λD σ H=>tv σ H λv H1=>td σ H1 λx H2=>ty σ H2 λy c=>∃a b,x=.ref a/\DPut c a y v b/\D.nx σ b
section
variable{X:Cx}{o i e value:Us}{pos ai dn:Pos}{td ty tv:TE}
def iH(j:X.A.units+1<cLine)(l:PE X o td)(hi:PE X i ty)(f:PE X value tv)(k:Hm value (b3 (.Subscript o i ai)) pos.line X.env=pure bb):PS X (.Assign [.Subscript o i ai] value pos) (iG td ty tv):=by intro aa s σ H D I h;refine wpAny_Assign_Subscript (ZL (f aa s σ H _ I h) λr s1 ⟨v,H1,q,e,q1⟩=>ZL (l aa s1 σ H1 _ q q1) λu b ⟨x,H2,p,d,q2⟩=>ZL (hi aa b σ H2 _ p q2) λB z ⟨y,C,n,c,a,t,ex,g,q3⟩=>?_) k;subst ex;obtain rfl:u=Bv a:=d;exact AK j n g c e λw m=>⟨σ,t,m,q3⟩
end
def kY{P:Av}{w:Uu}{H:Hp}(h:Uv)(a:Gb<h.objs.size):Z8 P w H (h.push {cls:=.type "dict",data:=.dict #[]}) h.objs.size (.dK []):=
 ⟨Er _,beq_eq_false_iff_ne.mpr (Di (Bb a)),[],.nil,Rp h⟩
def Zv:TE:=λ_ H Q=>∀p,H p=b4->Q (.ref p) (upd H p (.dK []))
section
variable{X:Cx}{pos:Pos}
def HG:PE X (.Dict [] [] pos) Zv:=λaa s σ H Q I h=>
 wpAny_Dict_empty ⟨.ref s.heap.objs.size,_,I.laid (a:=s.heap.objs.size) (o:=.dK []) (t':=s.toks) (λ_ _ q=>Ae _ q) (Ar _) (kY s.heap I.big),rfl,h _ (I.hok.fresh (Ar _))⟩
end
def NI(kvs more:List (aR×V)):List (aR×V):=more.foldl (λacc a=>W9 acc a.1 a.2) kvs
def KV.merge:∀{more:List (aR×V)}{a:List (aR×Uk)}{kvs:List (aR×V)}{vs:List (aR×Uk)},KV more a->KV kvs vs->KV (NI kvs more) (merged vs a):=by
 intro more a kvs vs r;unfold KV at r;induction r generalizing kvs vs with
 |nil=>intro q;exact q
 | @cons p q ps d h t c=>
  intro b;have e:KV (W9 kvs p.1 p.2) (Tw vs q.1 q.2):=by
   have:=b.put p.1 h.2
   rw[<-h.1];exact this
  exact c e
structure M1(X:Cx)(o:Us)(m:Uq)(ao:Pos)(e:Us)(ae:Pos):Prop where
 base:Gi o m X.env (eval o X.env)=eval o X.env
 few:((Fb ae (Um [e] X.env)).all (λx=> !x.1)&&(Lg ae (Hg [] X.env)).all (λx=>x.1.isSome)
  && decide (([e]:List Us).length+([]:List Hh).length+(if([]:List Hh).isEmpty then 0 else 1)<30))=ba
 line:(ao.endLine==ae.line)=ba
 trees:Fb ae (Um [e] X.env)=[(bb,eval e X.env)]
structure M2(X:Cx)(o:Us)(m:Uq)(ao:Pos)(e f:Us)(ae:Pos):Prop where
 base:Gi o m X.env (eval o X.env)=eval o X.env
 few:((Fb ae (Um [e,f] X.env)).all (λx=> !x.1)&&(Lg ae (Hg [] X.env)).all (λx=>x.1.isSome)
  && decide (([e,f]:List Us).length+([]:List Hh).length+(if([]:List Hh).isEmpty then 0 else 1)<30))=ba
 line:(ao.endLine==ae.line)=ba
 trees:Fb ae (Um [e,f] X.env)=[(bb,eval e X.env),(bb,eval f X.env)]
def IsD(H:Hp)(a:Ul):Prop:=(∃kvs,Rd H a (.dK kvs))∨∃kvs,Rd H a (.dT kvs)
def Wm{X:Cx}{aa:List (Ul×Uw)}{σ:St}{H:Hp}{s:Af}{a:Ul}(I:cF X aa σ H s)(d:IsD H a):s.TypeIs (.ref a) "dict" /\(∀b,Bv a=.ref b->∃c,s.heap.get? b=b3 c/\c.dict=b4)/\(a==Gb)=bb:=by
 rcases d with⟨kvs,e⟩|⟨kvs,e⟩
 ·obtain⟨_,hd,vs,_,dd⟩:=KU I.hok e
  refine⟨dd.typeIs,λb q=>?_,hd⟩;cases q;obtain⟨c,_,_,h1,h2,_⟩:=dd;exact⟨c,h1,h2.2.1⟩
 ·obtain⟨_,hd,xs,_,dd⟩:=KZ I.hok e
  refine⟨dd.typeIs,λb q=>?_,hd⟩;cases q;obtain⟨c,_,_,h1,h2,_⟩:=dd;exact⟨c,h1,h2.2.1⟩
section
variable{X:Cx}{aa:List (Ul×Uw)}{σ:St}{H:Hp}{s:Af}{a:Ul}{y d:V}{u r:Uk}{o:Option V}{A:Cc}{E:Uk->Af->Prop}
def oH{Q:Uk->Af->Prop}(j:A.units+1<cLine)(I:cF X aa σ H s)(g:PM H a y o)(i:bV y u)(h:∀f s',cF X aa σ H s'->bV (o.getD .non) f->Q f s'):Uo (Ur X.prog X.w) A (call (.builtin "dict.get") [.ref a,u]) Q E s:=by
 rcases g with⟨kvs,k,e,d,l⟩|⟨kvs,k,b,e,d,m,l⟩
 ·subst d
  obtain⟨z,hd,vs,c,dd⟩:=KU I.hok e;refine Mn Ec dd.typeIs Fn (Ht _ _) (meets_dict_get (aW X.prog X.w) a (LB i) hd) ⟨_,dd.mapOf,h _ _ (I.tok _) ?_⟩;rw[l];exact(c.val k).getD rfl
 ·subst d
  cases (show u=Bv b from i);obtain⟨z,hd,xs,c,dd⟩:=KZ I.hok e;refine Mn Ec dd.typeIs Fn (Ht _ _) (meetsH_dict_get (tupleKind (aW X.prog X.w)) a b hd) ⟨Hs j,k,xs,NG I.hok m,dd,h _ _ (I.tok _) ?_⟩;rw[l];exact(c.val k).getD rfl
def kF{Q:Uk->Af->Prop}(n:A.units+1<cLine)(I:cF X aa σ H s)(g:PM H a y o)(j:bV y u)(m:bV d r)(h:∀i s',cF X aa σ H s'->bV (o.getD d) i->Q i s'):Uo (Ur X.prog X.w) A (call (.builtin "dict.get") [.ref a,u,r]) Q E s:=by
 rcases g with⟨kvs,k,e,f,l⟩|⟨kvs,k,b,e,f,p,l⟩
 ·subst f
  obtain⟨z,hd,vs,c,dd⟩:=KU I.hok e;refine Mn Ec dd.typeIs Fn (Li _ _ _) (meets_dict_get_default (aW X.prog X.w) a (LB j) hd r) ⟨_,dd.mapOf,h _ _ (I.tok _) ?_⟩;rw[l];exact(c.val k).getD m
 ·subst f
  cases (show u=Bv b from j);obtain⟨z,hd,xs,c,dd⟩:=KZ I.hok e;refine Mn Ec dd.typeIs Fn (Li _ _ _) (meetsH_dict_get_default (tupleKind (aW X.prog X.w)) a b hd r) ⟨Hs n,k,xs,NG I.hok p,dd,h _ _ (I.tok _) ?_⟩;rw[l];exact(c.val k).getD m
end
def iZ(td ty tx:TE):TE:=λσ H Q=>td σ H λx H1=>∃a,x=.ref a/\IsD H1 a/\ty σ H1 λy H2=>tx σ H2 λz b=>∃o,PM b a y o/\Q (o.getD z) b
section
variable{X:Cx}{o e f:Us}{ao ae:Pos}{td ty tx:TE}
def lP(p:X.A.units+1<cLine)(q:PE X o td)(t:PE X e ty)(r:PE X f tx)(m:M2 X o "get" ao e f ae):PE X (.Call (.Attribute o "get" ao) [e,f] [] ae) (iZ td ty tx):=by
 intro aa s σ H Q I h;refine Pk m.base m.few m.line Lj Ec Mo (ZL (q aa s σ H _ I h) λu s1 ⟨x,H1,c,n,a,ex,d,q1⟩=>?_);subst ex;obtain rfl:u=Bv a:=n;obtain⟨j,i,_⟩:=Wm c d;refine⟨j,i,?_⟩;rw[m.trees];refine Gp rfl (Fz (Gr (ZL (t aa s1 σ H1 _ c q1) λJ k ⟨y,H2,B,l,q2⟩=>
  Gr (ZL (r aa k σ H2 _ B q2) λfv F ⟨z,C,w,rz,G,g,q3⟩=>Ic ?_))))
 exact kF p w g l rz λD E v b=>⟨_,C,v,b,q3⟩
end
end L2
namespace Att
open PySem PySem.W PySem.Calls PyProof.Rows
def OW{P:Qc}{h:Uv}:∀(ns:List Int) (vs:List Uk),WellAll P h vs (ns.map WData.int)->Tg vs ns:=by
 intro ns;induction ns with
 |nil=>
  intro vs w;rw[Eu]at w;cases w;exact .nil
 |cons n ns c=>
  intro vs w;rw[Ba]at w;cases w with
  |cons a b=>
   cases a;exact .cons _ _ (c _ b)
def BY{l:OpenLaw}{n:Nat}(s:l.most=b3 n){P:Qc}{h:Uv}{args:List WData}{b:List Uk}(c:l.row.toRowW.claim.pre args=ba)(g:WellAll P h b args):∃a vs ns,b=[Bv a]/\args=[WData.list (ns.map WData.int)]/\h.get? a=b3 {cls:=.type "list",data:=.seq vs.toArray}/\Tg vs ns/\ns.length<=n:=by
 have i:WShape.hasAll [] args [.list .int]=ba:=(pre_splitW c).1;have hc:l.pre.holds [] {args:=args}=ba:=(pre_splitW c).2;obtain⟨d,r,rfl,h1,h2⟩:=hasAllW_cons i;obtain rfl:=hasAllW_nil h2;obtain⟨xs,rfl,t⟩:=hasW_list h1;obtain⟨ns,rfl⟩:=items_int t;have u:ns.length<=n:=by
  unfold OpenLaw.pre at hc;have f:(WTm.not (.lt (.lit (.int (n:Int))) (.len (.arg 0)))).holds [] {args:=[.list (ns.map .int)]}=ba:=by have f:=(holds_andW hc).1;rw[s]at f;exact f
  have e:=condW_of f (w_not (w_lt w_lit (w_len_list (w_arg rfl))));rw[Ci]at e;refine Nat.le_of_not_lt λq=>?_;have m:(n:Int)<((ns.length:Nat):Int):=by lia
  first
   |(rw[decide_eq_true m]at e;exact absurd e (by decide))
   |(simp at e;lia)
 cases g with
 |cons k j=>
  cases j;cases k with
  |list p o=>exact⟨_,_,ns,rfl,rfl,p,OW ns _ o,u⟩
def BM(l:OpenLaw)(args:List WData):l.row.toRowW.claim.post args (.bool ba) args=ba:=
 postW_of (r:=l.row.toRowW) (X:=(ba==ba))
  (show Uj [] (.bool ba) .bool=ba by first|rfl|decide|simp[Uj,WShape.arms,WShape.armsAll])
  (show(WTm.eq .res (.lit (.bool ba))).value [] {args:=args,res:=b3 (.bool ba),after:=args}=b3 (.bool (ba==ba)) from w_eq_bool (w_res rfl) w_lit) rfl
def GA{l:OpenLaw}{n:Nat}{q:Av}{loose:List Uq}{XP:(Uq->Option Uk)->Uv->Prop}{YP:Uu->Uv->Prop}{d:DefRec}(z:l.most=b3 n)(m:d.params.defaults=[])(call:∀(w:Uu) (s₀ b:Af) (mg i:Uq->Option Uk) (fa:Ul) (o:Uw) (h cd doc:Uk) (a:Ul) (vs:List Uk) (ns:List Int),Ground q loose [] XP w s₀ mg i b.heap->YP w b.heap->b.heap.get? fa=b3 o->o.data=.func (docDef d.name d.params d.body d.scope h cd doc)->b.heap.CodeRec cd d.name->mg d.name=b3 (.ref fa)->b.heap.get? a=b3 {cls:=.type "list",data:=.seq vs.toArray}->Tg vs ns->ns.length<=n->b.gens= #[]->Jq (Ur l.prog w) Nr (.call (.ref fa) ⟨[.ref a],[]⟩) (λr s'=>r=.ok (.ret (.bool ba))/\OldK b.heap s'.heap/\s'.os=b.os/\Ld s'.gens) b):WalkO q loose XP YP l.row.toRowW d [] (λf vs=>Ss f vs):=by intro w s₀ b mg i G Y fa o h cd doc F kV y hd p u k C args s as e t v j B;obtain rfl:F=.none:=Dflts.none u m;obtain rfl:kV=.none:=Dflts.noKw u;obtain⟨a,vs,ns,rfl,rfl,g,c,H⟩:=BY z e j;refine enter_call (Kk (call w s₀ b mg i fa o h cd doc a vs ns G Y y (fd_plain hd) p k g c H C) λr s' x=>?_);obtain⟨rfl,h2,E,D⟩:=x;exact⟨.inl ⟨.bool ba,.bool ba,[],rfl,λ_=>rfl,.bool ba,BM l _,λ_=>⟨Pn,λ_ A=>(nomatch A)⟩⟩,h2,E,D⟩
end Att
namespace L2
open PySem PySem.Spec PyProof.Rows
theorem L7:∀{vs:List Uk}{ns:List Int},Tg vs ns->bQ (ns.map V.int) vs
 |_,_,.nil=>.nil
 |_,_,.cons n t h=>.cons ⟨t,rfl⟩ (L7 h)
def Only(H:Hp):Prop:=∀b,H b=b4∨∃o xs,H b=b3 (.frz o (.lst xs))
def nR{P:Av}{w:Uu}{K:Ah}{mg B:Uq->Option Uk}{CX:CXT}{k:Nat}{fa a:Ul}{fd:Dw}{x:Uq}{sp:Sp}{c:Af}{vs:List Uk}{ns:List Int}(Q:K.In c.heap)(j:c.heap.Ns Up mg)(f:c.heap.Ns builtinsNs B)(D:∀x:Uq,x≠ "__name__" ->B x=Bm x)(T:c.heap.NoLimit)(hg:c.gens= #[])(y:c.heap.get? a=b3 {cls:=.type "list",data:=.seq vs.toArray})(hi:Tg vs ns)(hl:ns.length<=sizeLine)(hr:YT k Nr)(F:∀base:Uv,K.In base->base.Ns Up mg->aA P w K mg base CX k fa fd [x] sp)(Y:∀(s:Af) (u:Uk),Pg s fd ⟨[u],[]⟩ [(x,u)])(C:∀H:Hp,Only H->X2 K H a (ns.map V.int)->sp [.ref a] H (λv _=>v=.bl ba) λ_ _ _=>False)(E:∀H e s',CX [] H c (λ_ _ _=>False) e s'->False):Jq (Ur P w) Nr (.call (.ref fa) ⟨[.ref a],[]⟩) (λr s'=>r=.ok (.ret (.bool ba))/\OldK c.heap s'.heap/\s'.os=c.os/\Ld s'.gens) c:=by
 have I:=L7 hi;have X:=hi.length;have J: ∀H:Hp,Only H->X2 K H a (ns.map V.int)->UU P w H c.heap->(∀b,H b≠b4->b=a)->(H a≠b4->K.lookup a=b4)->
   Jq (Ur P w) Nr (.call (.ref fa) ⟨[.ref a],[]⟩) (λr s'=>r=.ok (.ret (.bool ba))/\OldK c.heap s'.heap/\s'.os=c.os/\Ld s'.gens) c:=by
  intro H L hS i M hK;have N:∀{b:Ul}{o:Uw},c.heap.get? b=b3 o->H b=b4->(JJ c.heap H).get? b=b3 o:=λe n=>gH e n;have A:∀{b:Ul}{o:Uw}{es:Array Mg}{p:Nat},c.heap.get? b=b3 o->o.data=.dict es p->H b=b4:=λ{b o es p} e d=>by
   cases q:H b with
   |none=>rfl
   |some u=>
    have G:b=a:=M b (by rw[q];simp);subst G;rw[y]at e;cases e;have d':Data.seq vs.toArray _=Data.dict es p:=d;cases d'
  have g:∀{b:Ul}{m:Uq->Option Uk},c.heap.Ns b m->(JJ c.heap H).Ns b m:=λ{b m} ⟨o,es,p,e,d,r⟩=>⟨o,es,p,N e (A e d),d,r⟩;have l:K.In (JJ c.heap H):=λb o e=>N (Q b o e) (by
   cases q:H b with
   |none=>rfl
   |some u=>
    have G:b=a:=M b (by rw[q];simp);subst G;rw[hK (by rw[q];simp)]at e;cases e)
  have hM:Mod K mg (JJ c.heap H):=⟨l,g j,⟨B,g f,D⟩,let ⟨Z,h1,h2⟩:=T;⟨Z,g h1,h2⟩⟩;have e0:Env0 P w K mg (JJ c.heap H) Nr [] c H:=⟨rfl,hM,λb o e=>dC e,Nat.le_of_eq (AW _ _),trivial,λb f=>absurd (show b∈([]:List Ul) from f) (by simp),i,.of_eq hg⟩;refine Kk ((F _ l (g j)).run Nr [] c H ⟨[.ref a],[]⟩ [.ref a] [.ref a] _ _ hr e0 (Y c (.ref a)) (.cons rfl .nil) (C H L hS)) λr s' h=>?_;cases r with
  |error e=>exact(E H e s' h).elim
  |ok fl=>
   cases fl with
   |next=>exact Gx h
   |brk=>exact Gx h
   |cont=>exact Gx h
   |ret u=>
    obtain⟨v,H',os,t,un,U,r',q⟩:=h;have S:v=.bl ba:=q;subst S;obtain rfl:u=Gm ba:=r';refine⟨rfl,OldK.of_keep λb o e=>?_,os,t⟩;cases q:H b with
    |none=>exact un.keep b o e q (by intro z;exact absurd (show b∈([]:List Ul) from z) (by simp)) (by simp)
    |some u=>
     rcases L b with z|⟨W,xs,z⟩
     ·rw[q]at z;cases z
     ·have R:=un.frzs b W _ z
      obtain⟨O,_⟩:=i b _ z;obtain⟨e2,_⟩:=U b _ R;rw[e]at O;cases O;exact e2
 cases hk:K.lookup a with
 |some o=>
  have e:=Q a o hk;rw[y]at e;cases e;refine J (λ_=>b4) (λ_=>.inl rfl) (.inr ⟨_,vs.toArray,_,hk,rfl,rfl,rfl,by rw[Ak,X];exact hl,by simpa using I⟩) (λb u z=>by have z':(b4:Option HO)=b3 u:=z;cases z') (λb z=>absurd rfl z) λz=>absurd rfl z
 |none=>
  refine J (λb=>if b=a then b3 (.frz {cls:=.type "list",data:=.seq vs.toArray} (.lst (ns.map V.int)))else b4) (λb=>?_) (.inl (.inr ⟨{cls:=.type "list",data:=.seq vs.toArray},if_pos rfl⟩)) (λb u z=>?_) (λb z=>?_) λ_=>hk
  ·by_cases f:b=a
   ·exact .inr ⟨_,_,if_pos f⟩
   ·exact .inl (if_neg f)
  ·by_cases f:b=a
   ·have z':=(if_pos f).symm.trans z
    cases z';subst f;exact⟨y,by rw[Ci];exact hl,vs,_,I,y⟩
   ·have z':=(if_neg f).symm.trans z
    cases z'
  ·by_cases f:b=a
   ·exact f
   ·exact absurd (if_neg f) z
def Zs{l:Tx}{n k:Nat}{q:Av}{loose:List Uq}{XP:(Uq->Option Uk)->Uv->Prop}{YP:Uu->Uv->Prop}{d:DefRec}{K:Qc->Ah}{CX:Uu->CXT}{sp:Uu->Sp}{x:Uq}(C:l.most=b3 n)(p:n<=sizeLine)(t:d.params.defaults=[])(B:YT k Nr)(J:∀(w:Uu) (h:Uv),YP w h->(K w.params).In h)(F:∀(w:Uu) (mg:Uq->Option Uk) (fa:Ul) (h:Uv),(K w.params).In h->h.Ns Up mg->mg d.name=b3 (.ref fa)->∃fd:Dw,(∀(s:Af) (u:Uk),Pg s fd ⟨[u],[]⟩ [(x,u)])∧ ∀base:Uv,(K w.params).In base->base.Ns Up mg->aA l.prog w (K w.params) mg base (CX w) k fa fd [x] (sp w))(m:∀(w:Uu) (H:Hp) (a:Ul) (ns:List Int),ns.length<=n->Only H->X2 (K w.params) H a (ns.map V.int)->sp w [.ref a] H (λv _=>v=.bl ba) λ_ _ _=>False)(y:∀(w:Uu) (H:Hp) (s:Af) (e:Uk) (s':Af),CX w [] H s (λ_ _ _=>False) e s'->False):W.WalkO q loose XP YP l.row.toRowW d [] (λf vs=>Ss f vs):=by refine Att.GA C t λw s₀ i mg P fa o O cd doc a vs ns G Y Q hd E r j c z D=>?_;have A:=J w _ Y;obtain⟨fd,I,N⟩:=F w mg fa _ A G.T.g r;exact nR A G.T.g G.T.b G.T.builtins G.T.nolimit D j c (Fp z p) B N I (λH M L=>m w H a ns z M L) λH e s'=>y w H i e s'
def zA6{l:Tx}{n k:Nat}{q:Av}{loose:List Uq}{XP:(Uq->Option Uk)->Uv->Prop}{YP:Uu->Uv->Prop}{d:DefRec}{K:Qc->Ah}{CX:CXT}{sp:Ah->Sp}{x:Uq}(m:l.most=b3 n)(c:n<=sizeLine)(g:d.params.defaults=[])(j:YT k Nr)(o:∀(w:Uu) (h:Uv),YP w h->(K w.params).In h)(F:∀(w:Uu) (mg:Uq->Option Uk) (fa:Ul) (h:Uv),(K w.params).In h->h.Ns Up mg->mg d.name=b3 (.ref fa)->∃fd:Dw,(∀(s:Af) (u:Uk),Pg s fd ⟨[u],[]⟩ [(x,u)])∧ ∀base:Uv,(K w.params).In base->base.Ns Up mg->aA l.prog w (K w.params) mg base CX k fa fd [x] (sp (K w.params)))(b:∀(K:Ah) (H:Hp) (a:Ul) (ns:List Int),ns.length<=n->Only H->X2 K H a (ns.map V.int)->sp K [.ref a] H (λv _=>v=.bl ba) λ_ _ _=>False)(i:∀(H:Hp) (s:Af) (e:Uk) (s':Af),CX [] H s (λ_ _ _=>False) e s'->False):W.WalkO q loose XP YP l.row.toRowW d [] (λf vs=>Ss f vs):=
 Zs (K:=K) (CX:=λ_=>CX) (sp:=λw=>sp (K w.params)) m c g j o F (λw H a ns h1 h2 p=>b (K w.params) H a ns h1 h2 p) λ_ H s e s'=>i H s e s'
def YQ(s:Ux):Arguments:=match s with
 |.FunctionDef _ a _ _ _ _ _ _ _ _=>a
 |_=>{posonlyargs:=[],args:=[],vararg:=b4,kwonlyargs:=[],kw_defaults:=[],kwarg:=b4,defaults:=[]}
def aH(s:Ux):List Ux:=match s with
 |.FunctionDef _ _ b _ _ _ _ _ _ _=>b
 |_=>[]
def cO(s:Ux):Vb:=match s with
 |.FunctionDef _ _ _ _ _ _ a _ _ _=>a
 |_=>{kind:=.function,names:=[],isGenerator:=bb,isCoroutine:=bb}
abbrev CX0:CXT:=λ_ _ _ _ _ _=>False
abbrev E0:XK:=λ_ _ _=>False
def fF{X:Cx}:EL CX0 X E0:=λ_ _ _ _ _ _ _ h=>h.elim
structure XU(K:Ah)(x qual:Uq)(st:Ux)(f:Ul)(fd:Dw):Prop where
 ex:∃(oc:Uk) (od:Option Ul) (kV doc pm:Uk) (an:Option Ul) (cdv ct:Uk) (osl:Array (Option Uk)),
  fd=Lx x qual (YQ st) (aH st) (cO st) .none kV doc pm an cdv ct/\K.lookup f=b3 ⟨oc,od,.func fd,osl⟩/\Of K cdv qual=ba
 kp:Jd K (.ref f)=ba
section
variable{P:Av}{w:Uu}{K:Ah}{mg:Uq->Option Uk}{base:Uv}
def XU.ok{x qual:Uq}{st:Ux}{f:Ul}{fd:Dw}{N ps:List Uq}{k:Nat}{sp:Sp}(F:XU K x qual st f fd)(S:b6 N ps (cO st))(len:∀vs H Q E,sp vs H Q E->vs.length=ps.length)(i:∀(a:Uk) (A:Cc) (outer:List Env) (s:Af) (H:Hp) (vs:List V) (Q:VK) (E:XK),YT k (A.deeper (envOfC qual (cO st) s.heap.objs.size f a))->sp vs H Q E->∃t,WN (QS CX0 P w K mg base N qual (cO st) f a A outer s H E).nox (aH st) t/\t {nx:=λ_ H'=>Q .non H',rt:=Q} (start N vs) H):aA P w K mg base CX0 (k+1) f fd ps sp:=by obtain⟨l,od,kV,doc,j,m,a,ct,d,rfl,e,c⟩:=F.ex;refine Xj e c S len λA outer s H vs Q E g b=>?_;obtain⟨t,h,q⟩:=i a A outer s H vs Q E g b;exact⟨t,h.nox,q⟩
def XU.binds{x qual:Uq}{st:Ux}{f:Ul}{fd:Dw}{ps:List Uq}(F:XU K x qual st f fd)(h:∀(kV doc c:Uk) (d:Option Ul) (a ct:Uk) (b:List Uk),b.length=ps.length->Rf (Lx x qual (YQ st) (aH st) (cO st) .none kV doc c d a ct) ⟨b,[]⟩=pure (ps.zip b)):QJ K fd ps []:=by obtain⟨i,od,kV,doc,c,d,a,ct,e,rfl,j,g⟩:=F.ex;exact .all (h kV doc c d a ct)
def JI{x qual:Uq}{st:Ux}{f:Ul}{g:Uk}{od e:Option Ul}{b:Array (Option Uk)}{kV doc d a ct:Uk}(l:K.lookup f=b3 ⟨g,od,.func (Lx x qual (YQ st) (aH st) (cO st) .none kV doc d e a ct),b⟩)(c:Of K a qual=ba)(k:Jd K (.ref f)=ba):XU K x qual st f (Lx x qual (YQ st) (aH st) (cO st) .none kV doc d e a ct):=⟨⟨g,od,kV,doc,d,e,a,ct,b,rfl,l,c⟩,k⟩
end
def Ws{A:Cc}{k:Nat}(a:YT k A):A.units+1<cLine:=Nat.lt_of_le_of_lt (Nat.add_le_add_left (by decide:1<=64) _) a.units
section
variable{X:Cx}
def pv(i:Nat){x:Uq}{pos:Pos}(c:X.N[i]?=b3 x:=by rfl)(b:Vis X.env.scope x:=by first|exact Cg rfl|exact Bk (Cg rfl)|exact Bk (Bk rfl))(hd:(x==("__debug__":Uq))=bb:=by decide)(a:(x==("__classdict__":Uq))=bb:=by decide):PE X (.Name x pos) (V8 i):=FI c b hd a
end
def MK{A B:Prop}(h:B):if bb=ba then A else B:=by rw[if_neg El];exact h
def ML{A B:Prop}(h:A):if ba=ba then A else B:=by rw[if_pos rfl];exact h
def bA(H H':Hp):Prop:=∀b o,H b=b3 o->H' b=b3 o
def bA.refl(H:Hp):bA H H:=λ_ _ h=>h
def bA.trans{H H1 H2:Hp}(a:bA H H1)(b:bA H1 H2):bA H H2:=λc o h=>b c o (a c o h)
def bA.seq{K:Ah}{H H':Hp}{a:Ul}{xs:List V}(e:bA H H')(h:X2 K H a xs):X2 K H' a xs:=by
 rcases h with((h|⟨xs,sub,zs,z,(⟨y,h,h2,s⟩|⟨h,h2⟩)⟩)|⟨o,h⟩)|h
 ·exact .inl (.inl (.inl (e _ _ h)))
 ·exact .inl (.inl (.inr ⟨xs,sub,zs,z,.inl ⟨y,e _ _ h,e _ _ h2,s⟩⟩))
 ·exact .inl (.inl (.inr ⟨xs,sub,zs,z,.inr ⟨e _ _ h,h2⟩⟩))
 ·exact .inl (.inr ⟨o,e _ _ h⟩)
 ·exact .inr h
theorem JD{env:Env}{f:Uq×Va->List (Uq×Ul)->Vd (ForInStep (List (Uq×Ul)))}(i:∀n k r,f (n,k) r=if(k==Bu)=ba then(cellOf env n>>=λc=>pure (Dv ((n,c)::r)))else pure (Dv r)):∀(names:List (Uq×Va)) (b:List (Uq×Ul)),(∀y∈names,y.2=.free->∃c,env.cells.lookup y.1=b3 c)->∃cl,forIn names b f=(pure cl:Vd (List (Uq×Ul)))/\(∀x c,cl.lookup x=b3 c->b.lookup x=b3 c∨env.cells.lookup x=b3 c)∧(∀x c,b.lookup x=b3 c->∃g,cl.lookup x=b3 g)/\∀x,(x,Bu)∈names->∃c,cl.lookup x=b3 c
 |[],b,_=>⟨b,rfl,λ_ _ e=>.inl e,λ_ c e=>⟨c,e⟩,λ_ h=>nomatch h⟩
 | (n,k) :: r,b,h => by
  have o:∀y∈r,y.2=.free->∃c,env.cells.lookup y.1=b3 c:=λy p=>h y (An _ p);by_cases hk:k=.free
  ·subst hk
   obtain⟨c,hc⟩:=h (n,.free) Au rfl;have hc:env.cells.lookup n=b3 c:=hc;obtain⟨cl,m,l,d,j⟩:=JD i r ((n,c)::b) o;refine⟨cl,?_,λx g e=>?_,λx g e=>?_,λx a=>?_⟩
   ·rw [Js,i,if_pos (show (Bu == Bu) = ba by decide)]
    have t:cellOf env n=pure c:=by unfold cellOf;rw[hc]
    rw[t,pure_bind,pure_bind];exact m
   ·rcases l x g e with q|q
    ·by_cases a:x=n
     ·subst a
      rw[Ed]at q;cases q;exact .inr hc
     ·rw[Co,beq_eq_false_iff_ne.mpr a]at q
      exact .inl q
    ·exact .inr q
   ·by_cases a:x=n
    ·subst a
     exact d x c (Ed ..)
    ·refine d x g ?_
     rw[Co,beq_eq_false_iff_ne.mpr a];exact e
   ·rcases Am.mp a with q|q
    ·cases q
     exact d n c (Ed ..)
    ·exact j x q
  ·obtain⟨cl,m,l,d,j⟩:=JD i r b o
   refine⟨cl,?_,l,d,λx a=>?_⟩
   ·have s : ¬ (k == Bu) = ba := by simpa using hk
    rw[Js,i,if_neg s,pure_bind];exact m
   ·rcases Am.mp a with q|q
    ·cases q
     exact absurd rfl hk
    ·exact j x q
def CT{env:Env}{scope:Vb}(h:∀y∈scope.names,y.2=.free->∃c,env.cells.lookup y.1=b3 c):∃cl,closureFor scope env=pure cl/\(∀x c,cl.lookup x=b3 c->env.cells.lookup x=b3 c)/\∀x,(x,Bu)∈scope.names->∃c,cl.lookup x=b3 c:=by
 simp only[closureFor];obtain⟨cl,a,d,_,b⟩:=JD (env:=env) (f:=λx r=>match x with
  |(name,kind)=>if(kind==Bu)=ba then(cellOf env name>>=λc=>pure (Dv ((name,c)::r)))else pure (Dv r)) (λ_ _ _=>rfl) scope.names [] h
 refine⟨cl,?_,λx c e=>?_,b⟩
 ·first
   |exact a
   |(refine Eq.trans (congrArg (λm=>m>>=pure) a) ?_;exact pure_bind _ _)
 ·rcases d x c e with q|q
  ·cases q
  ·exact q
def YF(ix:List Nat)(σ:St):St:=ix.map λi=>(σ[i]?).join
def PTs(Y:Cx)(a:List Us)(b:TT):Prop:=
 ∀(aa:List (Ul×Uw)) (s:Af) (σ:St) (H:Hp) (Q:Bool->Hp->Prop),cF Y aa σ H s->b σ H Q->
  Uo (Ur Y.prog Y.w) Y.A (forIn a ba λc r=>if r=ba then do let ok<-isTrue c Y.env (eval c Y.env);pure (Dv ok)else pure (Dv r)) (TP Y aa σ Q) Y.xe s
def tYes:TT:=λ_ H Q=>Q ba H
def Zh{Y:Cx}:PTs Y [] tYes:=λ_ _ _ H _ I h=>wpAny_tests_nil ⟨H,I,h⟩
def oS{Y:Cx}{c:Us}{a:TT}(h:PT Y c a):PTs Y [c] a:=λaa s σ H Q I hw=>wpAny_tests_one (h aa s σ H Q I hw)
structure Blk(Y:Cx)(tg:Us)(ifs:List Us)(elt:Us)(g:TG)(tt:TT)(te:TE):Prop where
 tg:PG Y tg g
 ts:PTs Y ifs tt
 el:PE Y elt te
def AH{prog:Av}{w:Uu}{A:Cc}{s:Af}{l t iter:Us}{j:List Us}{scope:Vb}{pos:Pos}{it acc:Uk}{env:Env}{R:Result->Af->Prop}(I:Nat->Af->Prop)(turn:∀n s,I n s->Uo (Ur prog w) A (pyNext it) (λr b=>match r with
   |none=>R (.ok .next) b
   | some v => Uo (Ur prog w) A (Jp t it v) (λ_ s₀ => Uo (Ur prog w) A (assign t env v) (λ_ f =>
     Uo (Ur prog w) A (forIn j ba λc r=>if r=ba then do let ok<-isTrue c env (eval c env);pure (Dv ok)else pure (Dv r)) (λok a=>if ok=ba then Uo (Ur prog w) A (eval l env) (λx e=>
      Uo (Ur prog w) A (call (.builtin "list.append") [acc,x]) (λ_ d=>∃m,m<n/\I m d) (λ_ _=>False) e) (λ_ _=>False) a
      else∃m,m<n/\I m a) (λ_ _=>False) f)
     (λ_ _=>False) s₀) (λ_ _=>False) b) (λ_ _=>False) s)
  (n:Nat) (h:I n s):Jq (Ur prog w) A (.compLoop (.ListComp l [⟨t,iter,j,0⟩] scope pos) 0 it acc env) R s:=by
 refine codeAny_loop rfl I (λn s y=>?_) n h;show Uo _ A ((compTurn (.ListComp l [⟨t,iter,j,0⟩] scope pos) 0 it acc env).onRaise (λx=>do noteFrame x env;theTreesLotGoes x)) _ _ s;refine wpAny_noted ?_;rw[compTurn_list];refine Ac (Gh (Ac (Ce (turn n s y) (λr b i=>?_) λ_ _ h'=>h'.elim)));cases r with
 |none=>exact Aj i
 |some v=>
  refine Ac (Ce i (λ_ s₀ k=>?_) λ_ _ h'=>h'.elim);refine Ac (Ce k (λ_ f q=>?_) λ_ _ h'=>h'.elim);refine Ac (Ce q (λu a g=>?_) λ_ _ h'=>h'.elim);cases u with
  |false=>exact Aj ⟨rfl,g⟩
  |true=>exact Ac (Ac (Ce g (λx e p=>Ac (Ce p (λ_ d o=>Aj (Aj ⟨rfl,o⟩)) λ_ _ h'=>h'.elim)) λ_ _ h'=>h'.elim))
section
variable{X:Cx}{aa:List (Ul×Uw)}{σ:St}{H H':Hp}{s s1 s':Af}{h'':Uv}
def cF.offNew{a:St}{H1:Hp}(d:cF X aa σ H1 s1)(i:cF X aa a H' s')(h:H' s1.heap.objs.size=b4)(f:∀b o,b≠s1.heap.objs.size->s'.heap.get? b=b3 o->h''.get? b=b3 o):cF X aa a H' {s' with heap:=h''}:=
 i.turned (t':=s'.toks) (it:=s1.heap.objs.size) f h (Hi d.lt) (.inr d.sz)
  (λx c e z => by
   obtain⟨v,q⟩:=d.cell x c e;have:=q.lt
   rw[z]at this;exact Ck _ this)
  λp g z=>by
   have:=Aq (d.pin p g).1
   rw[z]at this;exact Ck _ this
end
def Vz(D:Ul)(ix:List Nat)(nl:Nat)(J:It)(g:TG)(h:TT)(te:TE)(σ:St)(H0:Hp)(Q:Hp->Prop):Prop:=
 ∃W:Nat->Nat->List V->Hp->Prop,(∃m,W 0 m [] (upd H0 D (.lst [])))/\∀i m acc H1,W i m acc H1->
  (J.stop i H1/\Q H1)∨
  (J.go i H1/\ ∃N:List V->Hp->Prop,(∀d H',N d H'-> ∃c,c<m/\W (i+1) c d H')∧
   ∀x H2,J.yld i H1 x H2->g x (YF ix σ++Aw nl b4) H2 λa j=>a.take ix.length=YF ix σ∧
    h a j λb f=>if b=ba then te a f λv e=>e D=b3 (.lst acc)/\acc.length<sizeLine/\N (acc++[v]) (upd e D (.lst (acc++[v])))else N acc f)
theorem Q7{env:Env}{x:Uq}:∀{l:List (Uq×Va)},l.lookup x=b3 .free->(l.map λ(n,k)=>if(k==Bu&&env.scope.kind== .function&&env.kindOf n==b3 .cell)then(n,Cm)else(n,k)).lookup x=b3 .cell∨(l.map λ(n,k)=>if(k==Bu&&env.scope.kind== .function&&env.kindOf n==b3 .cell)then(n,Cm)else(n,k)).lookup x=b3 .free
 |[],h=>by cases h
 | (n,k) :: r,h => by
  show Nt x ((if(k==Bu&&env.scope.kind== .function&&env.kindOf n==b3 .cell)=ba then(n,Cm)else(n,k))::_)=b3 .cell∨Nt x ((if(k==Bu&&env.scope.kind== .function&&env.kindOf n==b3 .cell)=ba then(n,Cm)else(n,k))::_)=b3 .free;by_cases c:x=n
  ·subst c
   rw[Ed]at h;cases h;by_cases hc:(Bu==Bu&&env.scope.kind== .function&&env.kindOf x==b3 .cell)=ba
   ·left
    rw[if_pos hc,Ed]
   ·right
    rw[if_neg hc,Ed]
  ·have a:(x==n)=bb:=beq_eq_false_iff_ne.mpr c
   simp only[Co,a]at h;have b:=Q7 (env:=env) h;by_cases hc:(k==Bu&&env.scope.kind== .function&&env.kindOf n==b3 .cell)=ba
   ·rw[if_pos hc]
    simp only[Co,a];exact b
   ·rw[if_neg hc]
    simp only[Co,a];exact b
def IE(ix:List Nat)(nl:Nat)(a:TI)(g:TG)(b:TT)(te:TE):TE:=λσ H Q=>a σ H λJ H0=>∀D,H0 D=b4->Vz D ix nl J g b te σ H0 λH'=>Q (.ref D) H'
mutual
inductive Dp(K:Ah)(H:Hp):V->Nh->Prop
 |non:Dp K H .non .none
 |bl (b:Bool):Dp K H (.bl b) (.bool b)
 |int (i:Int):Dp K H (.int i) (.int i)
 |str (x:Uq):Dp K H (.str x) (.str x)
 |lst {a:Ul}{xs:List V}{ds:List Nh}:X2 K H a xs->MR K H xs ds->Dp K H (.ref a) (.list ds)
 |tup {a:Ul}{xs:List V}{ds:List Nh}:WL K H a xs->MR K H xs ds->Dp K H (.ref a) (.tuple ds)
inductive MR(K:Ah)(H:Hp):List V->List Nh->Prop
 |nil:MR K H [] []
 |cons {v:V}{vs:List V}{d:Nh}{ds:List Nh}:Dp K H v d->MR K H vs ds->MR K H (v::vs) (d::ds)
end
section
variable{X:Cx}{aa:List (Ul×Uw)}{σ:St}{H:Hp}{s:Af}
mutual
theorem cF.reads(I:cF X aa σ H s):∀{v:V}{d:Nh}{u:Uk},Dp X.K H v d->bV v u->∃as,Reads s.heap u d as
 |_,_,_,.non,r=>by cases r;exact⟨_,.none⟩
 |_,_,_,.bl b,r=>by cases r;exact⟨_,.bool b⟩
 |_,_,_,.int i,r=>by obtain⟨t,rfl⟩:=r;exact⟨_,.int i t⟩
 |_,_,_,.str x,r=>by obtain⟨t,rfl⟩:=r;exact⟨_,.str x t⟩
 |_,_,_,.lst q all,r=>by
  cases r;obtain⟨its,a,⟨o,n,e,c,_,d⟩,_⟩:=I.list q;obtain⟨as,h⟩:=cF.readsAll I all a;exact⟨_,.list e c d (by simpa using h)⟩
 |_,_,_,.tup q all,r=>by
  cases r;obtain⟨its,a,⟨o,e,c,n,d⟩,_⟩:=I.tuple q;obtain⟨as,h⟩:=cF.readsAll I all a;exact⟨_,.tuple e c d (by simpa using h)⟩
theorem cF.readsAll(I:cF X aa σ H s):∀{vs:List V}{ds:List Nh}{a:List Uk},MR X.K H vs ds->bQ vs a->∃as,ReadsAll s.heap a ds as
 |_,_,_,.nil,r=>by cases r;exact⟨_,.nil⟩
 | _,_,_,.cons h t,r => by
  cases r with
  |cons c b=>
   obtain⟨as,h1⟩:=cF.reads I h c;obtain⟨bs,h2⟩:=cF.readsAll I t b;exact⟨_,.cons h1 h2⟩
end
end
def rEqD(K:Ah):R2:=λx y H Q=>∃d e,Dp K H x d/\Dp K H y e/\Fc d=ba/\Fc e=ba/\Q (.bl (Ji d e)) H
def rNeD(K:Ah):R2:=λx y H Q=>∃d e,Dp K H x d/\Dp K H y e/\Fc d=ba/\Fc e=ba/\Q (.bl (!PyData.eqv d e)) H
section
variable{X:Cx}
def ql(g:X.A.units+64<cLine):W7 X (Ct .Eq) (rEqD X.K):=by intro aa s σ H x y v u Q I f c h;obtain⟨d,e,hd,i,b,a,q⟩:=h;obtain⟨as,h1⟩:=I.reads hd f;obtain⟨bs,h2⟩:=I.reads i c;exact eq_dataH h1 h2 b a g (JH I q rfl)
def dX(g:X.A.units+64<cLine):W7 X (Ct .NotEq) (rNeD X.K):=by intro aa s σ H x y v u Q I f c h;obtain⟨d,e,hd,i,b,a,q⟩:=h;obtain⟨as,h1⟩:=I.reads hd f;obtain⟨bs,h2⟩:=I.reads i c;exact ne_dataH h1 h2 b a g (JH I q rfl)
def rngP(p:Ul)(a b c:Int):Uv->Prop:=λh=>∃t u v,IsRange h p a b c t u v
inductive KC:List Mg->List (Uq×V)->Prop
 |nil:KC [] []
 |cons {e:Mg}{es:List Mg}{x:Uq}{t:Vf}{v:V}{D:List (Uq×V)}:e.key=.str x t->bV v e.val->KC es D->KC (e::es) ((x,v)::D)
def KTab(K:Ah)(a:Ul)(D:List (Uq×V)):Prop:=
 (a==Gb)=bb/\∃o es b,K.lookup a=b3 o/\o.ExactDict/\o.data=.dict es b/\KC es.toList D
def KC.rows{es:List Mg}{D:List (Uq×V)}(h:KC es D):KTD.Rows bV es D:=by
 induction h with
 |nil=>exact .nil
 |cons h1 h2 _ a=>exact .cons h1 h2 a
def GV{A:Cc}{E:Uk->Af->Prop}{s:Af}{K:Ah}{prog:Av}{w:Uu}{a:Ul}{D:List (Uq×V)}{k:Uq}{tk:Vf}{Q:Option Uk->Af->Prop}(n:K.In s.heap)(T:KTab K a D)(h1:∀d v,Fx k D=b3 d->bV d v->Q (b3 v) {s with toks:=s.toks+1})(h2:Fx k D=b4->Q b4 {s with toks:=s.toks+1}):Uo (Ur prog w) A (dictGet a (.str k tk)) Q E s:=by
 obtain⟨_,o,es,p,g,hc,hd,c⟩:=T;have g:=n _ _ g;have c:=c.rows;unfold dictGet;try with_reducible refine Bt ?_
 refine Ac (wpAny_pyHash_str (Ac (KTD.kt_dictFind_strs (s:={s with toks:=s.toks+1}) g hd (by obtain⟨l⟩:=es;simpa using c.exact) ?_)));have f:Q (findBy (λk v=>v.isStr k) es k) {s with toks:=s.toks+1}:=by
  have m:findBy (λk v=>v.isStr k) es k=(es.toList.find? λe=>e.key.isStr k).map (·.val):=by obtain⟨l⟩:=es;simp[findBy]
  rw[m];cases b:Fx k D with
  |some d=>obtain⟨v,j,h⟩:=c.find_some b;rw[j];exact h1 d v b h
  |none=>rw[c.find_none b];exact h2 b
 rw[findBy_of_findIdx?]at f;cases hi:es.findIdx? λe=>e.key.isStr k with
 |none=>rw[hi]at f;exact Aj f
 |some i=>rw[hi]at f;exact Ac (wpAny_dictEntries (s:={s with toks:=s.toks+1}) g hd (Aj f))
def fY:CK X (λx y H Q=>∃a k D v,x=.ref a/\y=.str k/\KTab X.K a D/\Fx k D=b3 v/\Q v H):=by
 intro value c aa s σ H x y v u Q I j i h m;obtain⟨a,k,D,d,rfl,rfl,T,hk,q⟩:=h;cases j;obtain⟨t,rfl⟩:=i;have b:s.TypeIs (.ref a) "dict":=by obtain⟨_,o,es,p,n,hc,_⟩:=T;exact⟨o,I.kIn _ _ n,hc.1⟩
 have main:Uo (Ur X.prog X.w) X.A (Le (.ref a) (.str k t)) (EP X aa σ Q) X.xe s:=by
  unfold Le;try with_reducible refine Bt ?_
  refine Ac (Ig b (by decide) ?_);refine Ac (Cw (name:=Be "__getitem__") b Kr
   (Et Kr b PySem.F.entry_dict_getitem ?_ (PySem.F.args_dict_getitem_2 _ _)))
  show Uo _ _ (dictGet a (.str k t)>>=_) _ _ s;exact Ac (GV I.kIn T (λd' g f l=>Aj ⟨g,rfl,Aj (by rw[hk]at f;cases f;exact⟨d,H,I.tok _,l,q⟩)⟩) λe=>by rw[hk]at e;cases e)
 exact Tc b PySem.F.slot_dict_getitem.lookup main m
end
section
variable{prog:Av}{w:Uu}{A:Cc}{E:Uk->Af->Prop}{s:Af}
theorem KW{it t:Ul}{items:Array Uk}(g:t≠it):∀(n i:Nat) (s:Af) (Q:List Uk->Af->Prop),s.heap.IsListIter it t i->s.heap.IsList t items->i+n<=items.size->(∀h',h'.IsListIter it t (i+n)->Fq it s.heap h'->Q ((items.toList.drop i).take n) {s with heap:=h'})->Uo (Ur prog w) A (draw (.ref it) n) Q E s
 |0,i,s,Q,e,_,_,j=>by show Uo _ _ (pure []) Q E s;exact Aj (by simpa using j s.heap e (Heap.SameBut.refl ..))
 |n+1,i,s,Q,e,l,m,j=>by
  have h:i<items.size:=by lia
  show Uo _ _ (pyNext (.ref it)>>=_) Q E s;refine Ac (Ma e l (x:=items[i]) (by simp[h]) λk c a=>?_);refine Ac (Bt (KW g n (i+1) _ _ c (l.extBut a.extBut g) (by lia) λf b d=>Aj ?_));have hd:items.toList.drop i=items[i]::items.toList.drop (i+1):=by simp[Fy,h]
  have:=j f (by rw[show i+(n+1)=i+1+n by lia];exact b) (a.trans d)
  rw[hd,List.take_succ_cons]at this;exact this
def QG{t:Ul}{items:Array Uk}{Q:List Uk->Af->Prop}(p:A.handled=b4)(k:s.heap.IsList t items)(q:∀h',Jt s.heap.objs.size s.heap h'->Q items.toList {s with heap:=h'}):Uo (Ur prog w) A (Jn (.ref t) items.size b4) Q E s:=by
 have j:t≠s.heap.objs.size:=by obtain⟨o,l,_⟩:=k;exact Bb (Aq l)
 unfold Jn;refine Ac ?_
 ·unfold notIterableAtAll
  refine Ac (wpAny_specialOf k.typeIs PySem.F.slot_list_iter.lookup ?_);refine Aj ?_;simp only[De,if_false];refine Ac (Bt (Gy k ?_));have i:(s.heap.push {cls:=.type "list_iterator",data:=.fields #[.ref t,.int 0 0]}).IsList t items:=by obtain⟨o,l,r⟩:=k;exact⟨o,Ae _ l,r⟩
  refine Ac (Bt (KW j items.size 0 _ _ ⟨_,As _ rfl,rfl,rfl⟩ i (by lia) λh c a=>?_));have n:List.take items.size (List.drop 0 items.toList)=items.toList:=by rw[Ni];exact Cn (by simp)
  rw[n];rw[if_neg (by simp)];have d:h.IsList t items:=i.extBut a.extBut j;refine Ac (Bt (Mi p c d (by simp) λg f=>?_));simp only[Option.isSome_none,De,if_false];refine Aj (q g λb o m e=>f b o m (a.extBut b o m (Ae _ e)))
def QM{env:Env}{a:List Us}{x1}{pos:Pos}{t:Ul}{items:Array Uk}{Q:Unit->Af->Prop}(e:A.handled=b4)(c:s.heap.IsList t items)(d:(Ut a env).length=items.size)(b:(Ut a env).findIdx? (·.1)=b4)(h:∀h',Jt s.heap.objs.size s.heap h'->Uo (Ur prog w) A (Vc ((Ut a env).map (·.2)) items.toList) Q E {s with heap:=h'}):Uo (Ur prog w) A (assign (.Tuple a x1 pos) env (.ref t)) Q E s:=by rw[assign_Tuple];refine Ac (Gh ?_);unfold unpack;rw[d,b];exact Ac (Bt (QG e c h))
end
section
variable{X:Cx}{pos:Pos}
def gLst(K:Ah)(n:Nat)(t:TGs):TG:=λv σ H Q=>∃a xs,v=.ref a/\X2 K H a xs/\xs.length=n/\t xs σ H Q
def qU{es:List Us}{k:Nat}{t:TGs}{n:Nat}(hc:X.calm=ba)(h:CL X es t)(j:(Ut es X.env).length=n:=by rfl)(c:(Ut es X.env).findIdx? (·.1)=b4:=by rfl):PG X (.Tuple es k pos) (gLst X.K n t):=by intro aa s σ H v u Q I r hw;obtain⟨a,xs,l,i,hl,hw⟩:=hw;subst l;cases r;obtain⟨its,d,g,hz⟩:=I.list i;refine QM (I.ok.hd hc) g.isList (by simp[j,<-hl,d.length]) c λh' f=>?_;have m:cF X aa σ H {s with heap:=h'}:=I.kept (t':=s.toks) λb o e=>f b o (Bb (Aq e)) e;exact h aa _ σ H xs _ Q m (by simpa using d) hw
end
section
variable{X:Cx}{K:Ah}
def oR(h:X.K=K:=by rfl):Z6 X (.type "list") (λxs H Q=>∃p ys,xs=[.ref p]/\(X2 K H p ys∨WL K H p ys)/\∀l,H l=b4->Q (.ref l) (upd H l (.lst ys))):=by subst h;exact JC
def jX(h:X.K=K:=by rfl):Z6 X (.type "tuple") (λxs H Q=>∃p ys,xs=[.ref p]/\((X2 K H p ys/\∀l,H l=b4->Q (.ref l) (upd H l (.tup ys)))∨(WL K H p ys/\Q (.ref p) H))):=by subst h;exact MI
def A0(h:X.K=K:=by rfl):CK X (rIxL K):=by subst h;exact C8
def kEqD(a:X.A.units+64<cLine)(h:X.K=K:=by rfl):W7 X (Ct .Eq) (rEqD K):=by subst h;exact ql a
def OY(a:X.A.units+64<cLine)(h:X.K=K:=by rfl):W7 X (Ct .NotEq) (rNeD K):=by subst h;exact dX a
def Wa(h:X.K=K){es:List Us}{k:Nat}{t:TGs}{n:Nat}{pos:Pos}(hc:X.calm=ba)(c:CL X es t)(b:(Ut es X.env).length=n:=by rfl)(a:(Ut es X.env).findIdx? (·.1)=b4:=by rfl):PG X (.Tuple es k pos) (gTup K n t):=by subst h;exact Xl hc c b a
def gR(h:X.K=K){es:List Us}{k:Nat}{t:TGs}{n:Nat}{pos:Pos}(hc:X.calm=ba)(c:CL X es t)(b:(Ut es X.env).length=n:=by rfl)(a:(Ut es X.env).findIdx? (·.1)=b4:=by rfl):PG X (.Tuple es k pos) (gLst K n t):=by subst h;exact qU hc c b a
def Yz(h:X.K=K){tg l:Us}{tl:TE}(hl:PE X l tl):PI X tg l (Yr K tl):=by subst h;exact kW hl
def Xb(h:X.K=K){tg l:Us}{tl:TE}(hl:PE X l tl):PI X tg l (iTup K tl):=by subst h;exact gQ hl
def kBm(h:X.K=K:=by rfl){o e:Us}{es:List Us}{to:TE}{t:TA}{name:Uq}{ao ae:Pos}{T id:String}{r:V->List V->Hp->VK->Prop}(pa:PlainAttrs T)(slot:Slot T name id)(a:Qh (.builtin id)=pure (.type "method_descriptor"))(d:MtR X id r)(c:PE X o to)(f:PA X (e::es) t)(i:Gi o name X.env (eval o X.env)=eval o X.env:=by rfl)(g:((Fb ae (Um (e::es) X.env)).all (λx=> !x.1)&&(Lg ae (Hg [] X.env)).all (λx=>x.1.isSome)&&decide ((e::es).length+([]:List Hh).length+(if([]:List Hh).isEmpty then 0 else 1)<30))=ba:=by rfl)(j:(ao.endLine==ae.line)=ba:=by rfl)(b:Um (e::es) X.env=(bb,eval e X.env)::Um es X.env:=by rfl)(k:(Fb ae (Um es X.env)).any (·.1)=bb:=by rfl):PE X (.Call (.Attribute o name ao) (e::es) [] ae) (tBM K T r to t):=by subst h;exact mB pa slot a d c f i g j b k
end
def pW:Bm "len"=b3 (.builtin "len"):=by decide+kernel
def iB:Bm "min"=b3 (.builtin "min"):=by decide+kernel
def oP:Bm "max"=b3 (.builtin "max"):=by decide+kernel
def mW:Bm "sorted"=b3 (.builtin "sorted"):=by decide+kernel
def bU:Bm "isinstance"=b3 (.builtin "isinstance"):=by decide+kernel
def OD:Bm "list"=b3 (.type "list"):=by decide+kernel
def YV:Bm "tuple"=b3 (.type "tuple"):=by decide+kernel
def oX:Bm "range"=b3 (.type "range"):=by decide+kernel
def Zj:Bm "bool"=b3 (.type "bool"):=by decide+kernel
def lS:Bm "int"=b3 (.type "int"):=by decide+kernel
def Yb:Bm "str"=b3 (.type "str"):=by decide+kernel
structure Def(P:Av)(w:Uu)(K:Ah)(mg:Uq->Option Uk)(base:Uv)(x:Uq)(k:Nat)(ps:List Uq)(sp:Sp)(f:Ul):Prop where
 at_:mg x=b3 (.ref f)
 ok:∃fd,aA P w K mg base CX0 k f fd ps sp/\QJ K fd ps []
 kp:Jd K (.ref f)=ba
section
variable{X:Cx}{x:Uq}{k j:Nat}{ps:List Uq}{sp:Sp}{f:Ul}{p pos:Pos}{e:Us}{es:List Us}{t:TA}
def NN(D:Def X.prog X.w X.K X.mg X.base x k ps sp f)(c:YT j X.A)(hk:k<=j)(d:Gl X x)(h:PA X (e::es) t)(b:(x==("__debug__":Uq))=bb:=by decide)(g:Um (e::es) X.env=(bb,eval e X.env)::Um es X.env:=by rfl)(a:(Fb pos (Um es X.env)).any (·.1)=bb:=by rfl):PE X (.Call (.Name x p) (e::es) [] pos) (EC sp [] E0 t):=by obtain⟨fd,F,B⟩:=D.ok;exact eB F (c.mono hk) d D.at_ D.kp B .nil fF h b g a
end
def cP{H:Hp}{p:Ul}{o:HO}(a:H p=b4):bA H (upd H p o):=λb o' e=>by rw[bZ (ZD e a)];exact e
def HZ(ns:List Int):Fc (.list (ns.map Po))=ba:=by
 have h1:Go (.list (ns.map Po))=ba:=by simp only[Go,canLayAll_ints]
 have h2:Ir (.list (ns.map Po))<=64:=by simp only[Ir,depthAll_ints];decide
 unfold Fc;rw[h1,decide_eq_true h2];rfl
abbrev SE(X:Cx)(a:Us)(es:List Us):Prop:=Um (a::es) X.env=(bb,eval a X.env)::Um es X.env
abbrev ND(x:Uq):Prop:=(x==("__debug__":Uq))=bb
abbrev LO(X:Cx)(x:Uq):Prop:=X.fn x=ba∨X.env.scope.names.lookup x=b3 .local
inductive cU where
 |non|bl (b:Bool)|int (i:Int)|str (x:Uq)|ty (n:String)|fn (x:Uq)|tup (ds:List cU)|lst (ds:List cU)|dct (ks:List aR) (ds:List cU)|exn (x:Uq)|exr (x n:Uq) (d:cU)|nst (sh:List (Option Nat)) (ds:List cU)
def FzL(K:Ah)(H:Hp)(a:Ul)(xs:List V):Prop:=
 (∃o,H a=b3 (.frz o (.lst xs)))∨
  ∃(o:Uw) (its:Array Uk) (n:Nat),K.lookup a=b3 o/\o.cls=.type "list" /\o.dict=b4/\o.data=.seq its n/\its.size<=sizeLine/\bQ xs its.toList
def FzL.sq{K:Ah}{H:Hp}{a:Ul}{xs:List V}(h:FzL K H a xs):X2 K H a xs:=by
 rcases h with⟨o,h⟩|h
 ·exact .inl (.inr ⟨o,h⟩)
 ·exact .inr h
def FzM(K:Ah)(H:Hp)(M:Ul->Prop)(a:Ul)(xs:List V):Prop:=FzL K H a xs∨∃x b sub,H a=b3 (.own x)/\H x=b3 (.nst b sub)/\¬M x/\sub a=b3 xs
def FzM.sq{K:Ah}{H:Hp}{M:Ul->Prop}{a:Ul}{xs:List V}(h:FzM K H M a xs):X2 K H a xs:=by
 rcases h with h|⟨x,b,sub,h1,h2,_,z⟩
 ·exact h.sq
 ·exact .inl (.inl (.inr ⟨b,sub,xs,rfl,.inl ⟨x,h1,h2,z⟩⟩))
inductive RH(sub:Ul->Option (List V)):List V->List (Option Nat)->List V->Prop
 |nil:RH sub [] [] []
 |val {v:V}{xs vs:List V}{sh:List (Option Nat)}:(∀p,v=.ref p->sub p=b4)->RH sub xs sh vs->RH sub (v::xs) (b4::sh) (v::vs)
 |lst {p:Ul}{zs xs vs:List V}{sh:List (Option Nat)}:sub p=b3 zs->V.ref p∉xs->RH sub xs sh vs->RH sub (.ref p::xs) (b3 zs.length::sh) (zs++vs)
def T0(H:Hp)(a:Ul)(sh:List (Option Nat))(vs:List V):Prop:=∃xs sub,H a=b3 (.nst xs sub)/\(∀p zs,sub p=b3 zs->H p=b3 (.own a))/\RH sub xs sh vs
def CJ(h:Uv)(a C:Ul):Prop:=∃o vs,h.get? a=b3 o/\o.cls=.ref C/\o.data=.fields vs
def Wn(h:Uv)(a C D:Ul):Prop:=∃o vs,h.get? a=b3 o/\o.cls=.ref C/\o.data=.fields vs/\o.dict=b3 D
mutual
inductive bO(K:Ah)(N:Ul->Prop)(H:Hp):(Ul->Prop)->V->cU->Prop
 |non {M:Ul->Prop}:bO K N H M .non .non
 |bl {M:Ul->Prop}(b:Bool):bO K N H M (.bl b) (.bl b)
 |int {M:Ul->Prop}(i:Int):bO K N H M (.int i) (.int i)
 |str {M:Ul->Prop}(x:Uq):bO K N H M (.str x) (.str x)
 |ty {M:Ul->Prop}(n:String):bO K N H M (.ty n) (.ty n)
 |fn {M:Ul->Prop}{a:Ul}{x:Uq}:Gs K Up x=b3 (b3 (.ref a))->bO K N H M (.ref a) (.fn x)
 |tup {M:Ul->Prop}{a:Ul}{xs:List V}{ds:List cU}:WL K H a xs->b9 K N H xs ds->bO K N H M (.ref a) (.tup ds)
 |lst {M:Ul->Prop}{a:Ul}{xs:List V}{ds:List cU}:H a=b3 (.lst xs)->¬M a->b9 K N H xs ds->bO K N H M (.ref a) (.lst ds)
 |fzm {M:Ul->Prop}{a:Ul}{xs:List V}{ds:List cU}:FzM K H M a xs->b9 K N H xs ds->bO K N H M (.ref a) (.lst ds)
 |dct {M:Ul->Prop}{a:Ul}{kvs:List (aR×V)}{ds:List cU}:H a=b3 (.dK kvs)->¬M a->b9 K N H (kvs.map Es) ds->bO K N H M (.ref a) (.dct (kvs.map Dh) ds)
 |ktb {M:Ul->Prop}{a:Ul}{D:List (Uq×V)}{ds:List cU}:KTab K a D->b9 K N H (D.map Es) ds->bO K N H M (.ref a) (.dct (D.map λp=>.inr p.1) ds)
 |exn {M:Ul->Prop}{a C:Ul}{x:Uq}{φ:Uv->Prop}:Gs K Up x=b3 (b3 (.ref C))->H a=b3 (.ext φ)->(∀h,φ h->CJ h a C)->bO K N H M (.ref a) (.exn x)
 |exr {M:Ul->Prop}{a C D:Ul}{x n:Uq}{φ:Uv->Prop}{v:V}{d:cU}:Gs K Up x=b3 (b3 (.ref C))->H a=b3 (.ext φ)->(∀h,φ h->Wn h a C D)->H D=b3 (.xd [(n,v)])->bO K N H N v d->bO K N H M (.ref a) (.exr x n d)
 |nst {M:Ul->Prop}{a:Ul}{sh:List (Option Nat)}{vs:List V}{ds:List cU}:T0 H a sh vs->¬M a->b9 K N H vs ds->bO K N H M (.ref a) (.nst sh ds)
inductive b9(K:Ah)(N:Ul->Prop)(H:Hp):List V->List cU->Prop
 |nil:b9 K N H [] []
 |cons {v:V}{vs:List V}{d:cU}{ds:List cU}:bO K N H N v d->b9 K N H vs ds->b9 K N H (v::vs) (d::ds)
end
inductive RepL(K:Ah)(N:Ul->Prop)(H:Hp)(M:Ul->Prop)(ds:List cU):V->Prop
 |lst {a:Ul}{xs:List V}:H a=b3 (.lst xs)->¬M a->b9 K N H xs ds->RepL K N H M ds (.ref a)
 |fzm {a:Ul}{xs:List V}:FzM K H M a xs->b9 K N H xs ds->RepL K N H M ds (.ref a)
inductive RepT(K:Ah)(N:Ul->Prop)(H:Hp)(ds:List cU):V->Prop
 |tup {a:Ul}{xs:List V}:WL K H a xs->b9 K N H xs ds->RepT K N H ds (.ref a)
inductive RepD(K:Ah)(N:Ul->Prop)(H:Hp)(M:Ul->Prop)(ks:List aR)(ds:List cU):V->Prop
 |dct {a:Ul}{kvs:List (aR×V)}:H a=b3 (.dK kvs)->¬M a->b9 K N H (kvs.map Es) ds->ks=kvs.map Dh->RepD K N H M ks ds (.ref a)
 |ktb {a:Ul}{D:List (Uq×V)}:KTab K a D->b9 K N H (D.map Es) ds->ks=D.map (λp=>.inr p.1)->RepD K N H M ks ds (.ref a)
def RepI(K:Ah)(N:Ul->Prop)(H:Hp)(M:Ul->Prop)(v:V):cU->Prop
 |.non=>v=.non
 |.bl b=>v=.bl b
 |.int i=>v=.int i
 |.str x=>v=.str x
 |.ty n=>v=.ty n
 |.fn x=>∃a,v=.ref a/\Gs K Up x=b3 (b3 (.ref a))
 |.tup ds=>RepT K N H ds v
 |.lst ds=>RepL K N H M ds v
 |.dct ks ds=>RepD K N H M ks ds v
 |_=>True
section
variable{K:Ah}{N:Ul->Prop}{H:Hp}{M:Ul->Prop}{v:V}{d:cU}{ds:List cU}
def bO.inv(h:bO K N H M v d):RepI K N H M v d:=by
 cases h with
 |fn q=>exact⟨_,rfl,q⟩
 |tup q r=>exact .tup q r
 |lst q n r=>exact .lst q n r
 |fzm q r=>exact .fzm q r
 |dct q n r=>exact .dct q n r rfl
 |ktb q r=>exact .ktb q r rfl
 |nst _ _ _=>trivial
 |exn _ _ _=>trivial
 |exr _ _ _ _ _=>trivial
 |_=>rfl
def bO.onI{i:Int}(h:bO K N H M v (.int i)):v=.int i:=h.inv
def bO.onB{i:Bool}(h:bO K N H M v (.bl i)):v=.bl i:=h.inv
def bO.onS{i:Uq}(h:bO K N H M v (.str i)):v=.str i:=h.inv
def bO.onL(h:bO K N H M v (.lst ds)):RepL K N H M ds v:=h.inv
def bO.onT(h:bO K N H M v (.tup ds)):RepT K N H ds v:=h.inv
def bO.onD{ks:List aR}(h:bO K N H M v (.dct ks ds)):RepD K N H M ks ds v:=h.inv
end
def bO.fzl{K:Ah}{N:Ul->Prop}{H:Hp}{M:Ul->Prop}{a:Ul}{xs:List V}{ds:List cU}(q:FzL K H a xs)(r:b9 K N H xs ds):bO K N H M (.ref a) (.lst ds):=.fzm (.inl q) r
def Hard:HO->Prop
 |.tup _=>True
 |.frz _ _=>True
 |.ext _=>True
 |.xd _=>True
 |.own _=>True
 |_=>False
def Fr(P:Ul->Prop)(H H':Hp):Prop:=∀b o,H b=b3 o->(P b->Hard o)->H' b=b3 o
def Fr.refl(P:Ul->Prop)(H:Hp):Fr P H H:=λ_ _ h _=>h
def Fr.trans{P:Ul->Prop}{H H1 H2:Hp}(a:Fr P H H1)(b:Fr P H1 H2):Fr P H H2:=λc o h n=>b c o (a c o h n) n
def Fr.mono{P d:Ul->Prop}{H H':Hp}(a:Fr P H H')(h:∀b,P b->d b):Fr d H H':=λc o e n=>a c o e λz=>n (h c z)
def bA.fr{P:Ul->Prop}{H H':Hp}(a:bA H H'):Fr P H H':=λc o h _=>a c o h
section
variable{K:Ah}{N N' M M' P:Ul->Prop}{H H':Hp}
def Fr.tup(f:Fr P H H'){a:Ul}{xs:List V}(h:WL K H a xs):WL K H' a xs:=by
 rcases h with((h|⟨_,_,_,z,_⟩)|⟨o,h⟩)|h
 ·exact .inl (.inl (.inl (f _ _ h λ_=>trivial)))
 ·cases z
 ·exact .inl (.inr ⟨o,f _ _ h λ_=>trivial⟩)
 ·exact .inr h
def Fr.fzl(f:Fr P H H'){a:Ul}{xs:List V}(h:FzL K H a xs):FzL K H' a xs:=by
 rcases h with⟨o,h⟩|h
 ·exact .inl ⟨o,f _ _ h λ_=>trivial⟩
 ·exact .inr h
def Fr.fzm(f:Fr P H H'){M:Ul->Prop}{a:Ul}{xs:List V}(h:FzM K H M a xs)(c:∀a,P a->M a):FzM K H' M a xs:=by
 rcases h with h|⟨x,b,sub,h1,h2,n,z⟩
 ·exact .inl (f.fzl h)
 ·exact .inr ⟨x,b,sub,f _ _ h1 λ_=>trivial,f _ _ h2 λz=>absurd (c _ z) n,n,z⟩
def T0.fr{a:Ul}{sh:List (Option Nat)}{vs:List V}(h:T0 H a sh vs)(f:Fr P H H')(c:¬P a):T0 H' a sh vs:=let ⟨xs,sub,e,o,z⟩:=h;⟨xs,sub,f _ _ e λw=>absurd w c,λp zs b=>f _ _ (o p zs b) λ_=>trivial,z⟩
def T0.same{a:Ul}{sh:List (Option Nat)}{vs:List V}(h:T0 H a sh vs)(f:bA H H'):T0 H' a sh vs:=let ⟨xs,sub,e,o,z⟩:=h;⟨xs,sub,f _ _ e,λp zs b=>f _ _ (o p zs b),z⟩
def T0.there{a:Ul}{sh:List (Option Nat)}{vs:List V}(h:T0 H a sh vs):∃o,H a=b3 o/\¬Hard o:=let ⟨_,_,e,_⟩:=h;⟨_,e,λz=>z⟩
def bO.fr(f:Fr P H H')(e:∀a,P a->N a){M:Ul->Prop}{v:V}{d:cU}(c:∀a,P a->M a)(h:bO K N H M v d):bO K N H' M v d:=
 bO.rec (motive_1:=λM v d _=>(∀a,P a->M a)->bO K N H' M v d) (motive_2:=λvs ds _=>b9 K N H' vs ds) (λ_=>.non) (λb _=>.bl b) (λi _=>.int i) (λx _=>.str x) (λn _=>.ty n) (λq _=>.fn q) (λq _ r _=>.tup (f.tup q) r)
  (λq n _ r c=>.lst (f _ _ q λz=>absurd (c _ z) n) n r) (λq _ r c=>.fzm (f.fzm q c) r) (λq n _ r c=>.dct (f _ _ q λz=>absurd (c _ z) n) n r) (λq _ r _=>.ktb q r) (λp q r _=>.exn p (f _ _ q λ_=>trivial) r)
  (λp q r s _ t _=>.exr p (f _ _ q λ_=>trivial) r (f _ _ s λ_=>trivial) (t e)) (λq n _ r c=>.nst (q.fr f λz=>n (c _ z)) n r) .nil (λ_ _ a b=>.cons (a e) b) h c
def b9.map{c:Ah}{N':Ul->Prop}{H':Hp}(g:∀{v d},bO K N H N v d->bO c N' H' N' v d):∀{vs:List V}{ds:List cU},b9 K N H vs ds->b9 c N' H' vs ds:=by
 intro vs;induction vs with
 |nil=>intro ds h;cases h;exact .nil
 |cons v vs e=>intro ds h;cases h with|cons a b=>exact .cons (g a) (e b)
def b9.fr(f:Fr P H H')(b:∀a,P a->N a){vs:List V}{ds:List cU}(h:b9 K N H vs ds):b9 K N H' vs ds:=h.map λr=>r.fr f b b
def bO.mono(e:∀a,N' a->N a){M M':Ul->Prop}{v:V}{d:cU}(c:∀a,M' a->M a)(h:bO K N H M v d):bO K N' H M' v d:=
 bO.rec (motive_1:=λM v d _=>∀M',(∀a,M' a->M a)->bO K N' H M' v d) (motive_2:=λvs ds _=>b9 K N' H vs ds) (λ_ _=>.non) (λb _ _=>.bl b) (λi _ _=>.int i) (λx _ _=>.str x) (λn _ _=>.ty n) (λq _ _=>.fn q) (λq _ r _ _=>.tup q r)
  (λq n _ r _ c=>.lst q (λz=>n (c _ z)) r) (λq _ r _ c=>.fzm (q.imp id λ⟨x,f,sub,h1,h2,n,z⟩=>⟨x,f,sub,h1,h2,λw=>n (c _ w),z⟩) r) (λq n _ r _ c=>.dct q (λz=>n (c _ z)) r) (λq _ r _ _=>.ktb q r) (λp q r _ _=>.exn p q r) (λp q r s _ t _ _=>.exr p q r s (t _ e)) (λq n _ r _ c=>.nst q (λz=>n (c _ z)) r) .nil (λ_ _ a b=>.cons (a _ e) b) h M' c
def b9.mono(b:∀a,N' a->N a){vs:List V}{ds:List cU}(h:b9 K N H vs ds):b9 K N' H vs ds:=h.map λr=>r.mono b b
def bO.same(f:bA H H'){v:V}{d:cU}(h:bO K N H M v d):bO K N H' M v d:=h.fr f.fr (λ_ z=>z.elim) (P:=λ_=>False) λ_ z=>z.elim
def b9.same(f:bA H H'){vs:List V}{ds:List cU}(h:b9 K N H vs ds):b9 K N H' vs ds:=h.fr f.fr (P:=λ_=>False) λ_ z=>z.elim
theorem b9.length:∀{vs:List V}{ds:List cU},b9 K N H vs ds->vs.length=ds.length
 |_,_,.nil=>rfl
 |_,_,.cons _ t=>congrArg (· +1) (b9.length t)
theorem b9.append:∀{vs a:List V}{ds es:List cU},b9 K N H vs ds->b9 K N H a es->b9 K N H (vs++a) (ds++es)
 |_,_,_,_,.nil,s=>s
 |_,_,_,_,.cons h t,s=>.cons h (b9.append t s)
theorem b9.get:∀{vs:List V}{ds:List cU}{i:Nat}{d:cU},b9 K N H vs ds->ds[i]?=b3 d->∃v,vs[i]?=b3 v/\bO K N H N v d
 |_,_,_,_,.nil,e=>by simp at e
 |_,_,0,_,.cons r _,e=>by simp at e;subst e;exact⟨_,rfl,r⟩
 |_,_,i+1,x,.cons _ t,e=>by obtain⟨u,h1,h2⟩:=b9.get (i:=i) (d:=x) t (by simpa using e);exact⟨u,by simpa using h1,h2⟩
theorem b9.take:∀{vs:List V}{ds:List cU}(n:Nat),b9 K N H vs ds->b9 K N H (vs.take n) (ds.take n)
 |_,_,0,_=>.nil
 |_,_,_+1,.nil=>.nil
 |_,_,n+1,.cons r t=>.cons r (b9.take n t)
theorem b9.drop:∀{vs:List V}{ds:List cU}(n:Nat),b9 K N H vs ds->b9 K N H (vs.drop n) (ds.drop n)
 |_,_,0,r=>r
 |_,_,_+1,.nil=>.nil
 |_,_,n+1,.cons _ t=>b9.drop n t
def b9.snoc{vs:List V}{ds:List cU}{v:V}{d:cU}(r:b9 K N H vs ds)(h:bO K N H N v d):b9 K N H (vs++[v]) (ds++[d]):=r.append (.cons h .nil)
end
mutual
def cU.isD:cU->Bool
 |.non=>ba
 |.bl _=>ba
 |.int _=>ba
 |.str _=>ba
 |.ty _=>bb
 |.fn _=>bb
 |.tup ds=>GO ds
 |.lst ds=>GO ds
 |.dct _ _=>bb
 |.exn _=>bb
 |.exr _ _ _=>bb
 |.nst _ _=>bb
def GO:List cU->Bool
 |[]=>ba
 |d::ds=>d.isD&&GO ds
end
mutual
def cU.pd:cU->Nh
 |.non=>.none
 |.bl b=>.bool b
 |.int i=>.int i
 |.str x=>.str x
 |.ty _=>.none
 |.fn _=>.none
 |.tup ds=>.tuple (pds ds)
 |.lst ds=>.list (pds ds)
 |.dct _ _=>.none
 |.exn _=>.none
 |.exr _ _ _=>.none
 |.nst _ _=>.none
def pds:List cU->List Nh
 |[]=>[]
 |d::ds=>d.pd::pds ds
end
mutual
def cU.hard:cU->Bool
 |.tup ds=>U0 ds
 |.lst _=>bb
 |.dct _ _=>bb
 |.exr _ _ _=>bb
 |.nst _ _=>bb
 |_=>ba
def U0:List cU->Bool
 |[]=>ba
 |d::ds=>d.hard&&U0 ds
end
section
variable{K:Ah}{N:Ul->Prop}{H:Hp}
def bO.dp{M:Ul->Prop}{v:V}{d:cU}(h:bO K N H M v d)(e:d.isD=ba):Dp K H v d.pd:=
 bO.rec (motive_1:=λM v d _=>d.isD=ba->Dp K H v d.pd) (motive_2:=λvs ds _=>GO ds=ba->MR K H vs (pds ds)) (λ_=>.non) (λb _=>.bl b) (λi _=>.int i) (λx _=>.str x) (λ_ h=>nomatch h) (λ_ h=>nomatch h) (λq _ r h=>.tup q (r h))
  (λq _ _ r h=>.lst (X2.of q) (r h)) (λq _ r h=>.lst q.sq (r h)) (λ_ _ _ _ h=>nomatch h) (λ_ _ _ h=>nomatch h) (λ_ _ _ h=>nomatch h) (λ_ _ _ _ _ _ h=>nomatch h) (λ_ _ _ _ h=>nomatch h) (λ_=>.nil) (λ_ _ a b e=>.cons (a (Du.mp e).1) (b (Du.mp e).2)) h e
def bO.hard{N':Ul->Prop}{M M':Ul->Prop}{v:V}{d:cU}(h:bO K N H M v d)(e:d.hard=ba):bO K N' H M' v d:=
 bO.rec (motive_1:=λM v d _=>∀M',d.hard=ba->bO K N' H M' v d) (motive_2:=λvs ds _=>U0 ds=ba->b9 K N' H vs ds) (λ_ _=>.non) (λb _ _=>.bl b) (λi _ _=>.int i) (λx _ _=>.str x) (λn _ _=>.ty n) (λq _ _=>.fn q) (λq _ r _ h=>.tup q (r h))
  (λ_ _ _ _ _ h=>nomatch h) (λ_ _ _ _ h=>nomatch h) (λ_ _ _ _ _ h=>nomatch h) (λ_ _ _ _ h=>nomatch h) (λp q r _ _=>.exn p q r) (λ_ _ _ _ _ _ _ h=>nomatch h) (λ_ _ _ _ _ h=>nomatch h) (λ_=>.nil) (λ_ _ a b e=>.cons (a _ (Du.mp e).1) (b (Du.mp e).2)) h M' e
def b9.hard{N':Ul->Prop}:∀{vs:List V}{ds:List cU},b9 K N H vs ds->U0 ds=ba->b9 K N' H vs ds:=by
 intro vs;induction vs with
 |nil=>intro ds h _;cases h;exact .nil
 |cons v vs c=>intro ds h e;cases h with|cons a b=>exact .cons (a.hard (Du.mp e).1) (c b (Du.mp e).2)
end
inductive Sl where
 |no|va (d:cU)|ow (d:cU)
abbrev Ev:=List Sl
structure Bs where
 Z:Ul->Prop
 P:Ul->Prop
 H0:Hp
 mu:Nat->Option Ul
 kp:List (V×cU)
def Nn(B:Bs)(O:Nat->Option Ul):Ul->Prop:=λa=>B.Z a∨∃i,O i=b3 a
def OA(O:Nat->Option Ul):Ul->Prop:=λa=>∃i,O i=b3 a
inductive SJ(K:Ah)(N:Ul->Prop)(H:Hp)(a:Ul):cU->Prop
 |lst {xs:List V}{ds:List cU}:H a=b3 (.lst xs)->b9 K N H xs ds->SJ K N H a (.lst ds)
 |dct {kvs:List (aR×V)}{ds:List cU}:H a=b3 (.dK kvs)->b9 K N H (kvs.map Es) ds->SJ K N H a (.dct (kvs.map Dh) ds)
 |nst {sh:List (Option Nat)}{vs:List V}{ds:List cU}:T0 H a sh vs->b9 K N H vs ds->SJ K N H a (.nst sh ds)
theorem SJ.fr{K:Ah}{N P:Ul->Prop}{H H':Hp}{a:Ul}{d:cU}(f:Fr P H H')(c:∀a,P a->N a)(b:¬P a):SJ K N H a d->SJ K N H' a d
 |.lst q r=>.lst (f _ _ q λz=>absurd z b) (r.fr f c)
 |.dct q r=>.dct (f _ _ q λz=>absurd z b) (r.fr f c)
 |.nst q r=>.nst (q.fr f b) (r.fr f c)
theorem SJ.mono{K:Ah}{N N':Ul->Prop}{H:Hp}{a:Ul}{d:cU}(h:∀b,N' b->N b):SJ K N H a d->SJ K N' H a d
 |.lst q r=>.lst q (r.mono h)
 |.dct q r=>.dct q (r.mono h)
 |.nst q r=>.nst q (r.mono h)
def SJ.soft{K:Ah}{N:Ul->Prop}{H:Hp}{a:Ul}{d:cU}(h:SJ K N H a d):∃o,H a=b3 o/\¬Hard o:=by
 cases h with
 |lst q _=>exact⟨_,q,λz=>z⟩
 |dct q _=>exact⟨_,q,λz=>z⟩
 |nst q _=>exact q.there
def SJ.rep{K:Ah}{N M:Ul->Prop}{H:Hp}{a:Ul}{d:cU}(h:SJ K N H a d)(b:¬M a):bO K N H M (.ref a) d:=by
 cases h with
 |lst q r=>exact .lst q b r
 |dct q r=>exact .dct q b r
 |nst q r=>exact .nst q b r
structure aU(K:Ah)(ml:List Nat)(B:Bs)(O:Nat->Option Ul)(H:Hp)(σ:St)(δ:Ev):Prop where
 len:σ.length=δ.length
 va:∀(i:Nat) (d:cU),δ[i]?=b3 (Sl.va d)->∃v,σ[i]?=b3 (b3 v)/\bO K (Nn B O) H (Nn B O) v d
 ow:∀(i:Nat) (d:cU),δ[i]?=b3 (Sl.ow d)->∃a,O i=b3 a/\σ[i]?=b3 (b3 (.ref a))/\SJ K (Nn B O) H a d
 dom:∀(i:Nat) a,O i=b3 a->∃d,δ[i]?=b3 (Sl.ow d)
 inj:∀i j a,O i=b3 a->O j=b3 a->i=j
 old:∀i a,O i=b3 a->¬B.Z a/\(B.P a∨B.H0 a=b4)
 zin:∀a,B.Z a->∃o,H a=b3 o
 frm:Fr B.P B.H0 H
 par:(∀i a,B.mu i=b3 a->i∈ml)/\∀i∈ml,O i=B.mu i
 pin:∀a,B.P a->∃o,H a=b3 o
 kep:∀p∈B.kp,bO K (Nn B O) H (Nn B O) p.1 p.2
section
variable{K:Ah}{ml:List Nat}{B:Bs}{O:Nat->Option Ul}{H H':Hp}{σ:St}{δ δ':Ev}
def aU.nin(S:aU K ml B O H σ δ){a:Ul}(h:Nn B O a):∃o,H a=b3 o:=by
 rcases h with h|⟨i,h⟩
 ·exact S.zin a h
 ·obtain⟨d,e⟩:=S.dom i a h
  obtain⟨c,b,_,w⟩:=S.ow i d e;rw[h]at b;cases b;obtain⟨o,q,_⟩:=w.soft;exact⟨o,q⟩
def aU.new(S:aU K ml B O H σ δ){a:Ul}(h:H a=b4):¬Nn B O a:=λz=>by obtain⟨o,q⟩:=S.nin z;rw[h]at q;cases q
def aU.same(S:aU K ml B O H σ δ)(f:bA H H'):aU K ml B O H' σ δ where
 len:=S.len
 va:=λi d e=>let ⟨v,a,b⟩:=S.va i d e;⟨v,a,b.same f⟩
 ow:=λi d e=>let ⟨a,b,c,w⟩:=S.ow i d e;⟨a,b,c,w.fr (P:=λ_=>False) f.fr (λ_ z=>z.elim) λz=>z⟩
 dom:=S.dom
 inj:=S.inj
 old:=S.old
 zin:=λa h=>let ⟨o,q⟩:=S.zin a h;⟨o,f _ _ q⟩
 frm:=S.frm.trans f.fr
 par:=S.par
 pin:=λa h=>let ⟨o,q⟩:=S.pin a h;⟨o,f _ _ q⟩
 kep:=λp h=>(S.kep p h).same f
def aU.fresh(S:aU K ml B O H σ δ){a:Ul}(h:H a=b4):B.H0 a=b4:=by
 cases q:B.H0 a with
 |none=>rfl
 |some o=>
  by_cases b:B.P a
  ·obtain⟨o',e⟩:=S.pin a b
   rw[h]at e;cases e
  ·have := S.frm a o q λz => absurd z b
   rw[h]at this;cases this
def Bs.add(B:Bs)(p:Ul):Bs:={B with Z:=λa=>B.Z a∨a=p}
def SD{p:Ul}:∀a,Nn B O a->Nn (B.add p) O a:=λa h=>by
 rcases h with h|h
 ·exact .inl (.inl h)
 ·exact .inr h
def bO.away{p:Ul}(j:H p=b4)(N N':Ul->Prop)(f:∀a,N' a->N a∨a=p){M M':Ul->Prop}{v:V}{d:cU}(c:∀a,M' a->M a∨a=p)(h:bO K N H M v d):bO K N' H M' v d:=
 have no:∀{a:Ul}{o:HO}{M M':Ul->Prop},H a=b3 o->¬M a->(∀a,M' a->M a∨a=p)->¬M' a:=λq n c z=>(c _ z).elim n λe=>by rw[e,j]at q;cases q
 bO.rec (motive_1:=λM v d _=>∀M',(∀a,M' a->M a∨a=p)->bO K N' H M' v d) (motive_2:=λvs ds _=>b9 K N' H vs ds) (λ_ _=>.non) (λb _ _=>.bl b) (λi _ _=>.int i) (λx _ _=>.str x) (λn _ _=>.ty n) (λq _ _=>.fn q) (λq _ r _ _=>.tup q r)
  (λq n _ r _ c=>.lst q (no q n c) r) (λq _ r _ c=>.fzm (q.imp id λ⟨x,g,sub,h1,h2,n,z⟩=>⟨x,g,sub,h1,h2,no h2 n c,z⟩) r) (λq n _ r _ c=>.dct q (no q n c) r) (λq _ r _ _=>.ktb q r) (λp q r _ _=>.exn p q r) (λp q r s _ t _ _=>.exr p q r s (t _ f)) (λq n _ r _ c=>.nst q (let ⟨_,e,_⟩:=q.there;no e n c) r) .nil (λ_ _ a b=>.cons (a _ f) b) h M' c
def b9.away{p:Ul}(c:H p=b4)(N N':Ul->Prop)(b:∀a,N' a->N a∨a=p){vs:List V}{ds:List cU}(h:b9 K N H vs ds):b9 K N' H vs ds:=h.map λr=>r.away c N N' b b
def W4{p:Ul}:∀a,Nn (B.add p) O a->Nn B O a∨a=p:=λa h=>by
 rcases h with(h|h)|h
 ·exact .inl (.inl h)
 ·exact .inr h
 ·exact .inl (.inr h)
def aU.laid(S:aU K ml B O H σ δ){p:Ul}{o:HO}(f:H p=b4):aU K ml (B.add p) O (upd H p o) σ δ where
 len:=S.len
 va:=λi d e=>let ⟨v,a,b⟩:=S.va i d e;⟨v,a,(b.away f _ _ W4 W4).same (cP f)⟩
 ow:=λi d e=>by
  obtain⟨a,b,c,w⟩:=S.ow i d e;refine⟨a,b,c,?_⟩;have g:∀o,H a=b3 o->upd H p o=upd H p o:=λ_ _=>rfl;cases w with
  |lst q r=>exact .lst (cP f _ _ q) ((r.away f _ _ W4).same (cP f))
  |dct q r=>exact .dct (cP f _ _ q) ((r.away f _ _ W4).same (cP f))
  |nst q r=>exact .nst (q.same (cP f)) ((r.away f _ _ W4).same (cP f))
 dom:=S.dom
 inj:=S.inj
 old:=λi a h=>by
  refine⟨λz=>?_,(S.old i a h).2⟩;rcases z with z|z
  ·exact(S.old i a h).1 z
  ·obtain⟨o,q⟩:=S.nin (.inr ⟨i,h⟩)
   rw[z,f]at q;cases q
 zin:=λa h=>by
  rcases h with h|h
  ·obtain⟨o,q⟩:=S.zin a h
   exact⟨o,cP f _ _ q⟩
  ·exact⟨_,by rw[h];exact cA⟩
 frm:=S.frm.trans (cP f).fr
 par:=S.par
 pin:=λa h=>let ⟨o,q⟩:=S.pin a h;⟨o,cP f _ _ q⟩
 kep:=λp h=>((S.kep p h).away f _ _ W4 W4).same (cP f)
def PF{i:Nat}{o:Option Ul}:∀a,Nn B (λj=>if j=i then b4 else O j) a->Nn B O a:=λa h=>by
 rcases h with h|⟨j,h⟩
 ·exact .inl h
 ·refine .inr ⟨j,?_⟩
  by_cases b:j=i
  ·simp[b]at h
  ·simpa[b]using h
def TW{α:Type}{l:List α}{i j:Nat}{x y:α}(h:(l.set i x)[j]?=b3 y):(j=i/\y=x/\i<l.length)∨(j≠i/\l[j]?=b3 y):=by
 by_cases a:j=i
 ·subst a
  rw[List.getElem?_set_self']at h;obtain⟨z,q,h⟩:=Ap.mp h;cases h;exact .inl ⟨rfl,rfl,(Ag.mp q).1⟩
 ·rw[Bz (Di a)]at h
  exact .inr ⟨a,h⟩
def aU.setVa(S:aU K ml B O H σ δ){i:Nat}{v:V}{d:cU}(m:i∉ml)(h:bO K (Nn B O) H (Nn B O) v d):aU K ml B (λj=>if j=i then b4 else O j) H (σ.set i (b3 v)) (δ.set i (.va d)) where
 len:=by rw[Cd,Cd,S.len]
 va:=λj e q=>by
  rcases TW q with⟨rfl,z,hl⟩|⟨b,q⟩
  ·cases z
   exact⟨v,by rw[Dd (by rw[S.len];exact hl)],h.mono (PF (o:=b4)) (PF (o:=b4))⟩
  ·obtain⟨u,c,r⟩:=S.va j e q
   exact⟨u,by rw[Bz (Di b)];exact c,r.mono (PF (o:=b4)) (PF (o:=b4))⟩
 ow:=λj e q=>by
  rcases TW q with⟨rfl,z,hl⟩|⟨b,q⟩
  ·cases z
  ·obtain⟨a,c,f,w⟩:=S.ow j e q
   exact⟨a,by simpa[b]using c,by rw[Bz (Di b)];exact f,w.mono (PF (o:=b4))⟩
 dom:=λj a e=>by
  by_cases b:j=i
  ·simp[b]at e
  ·obtain ⟨d,q⟩ := S.dom j a (by simpa [b]using e)
   exact⟨d,by rw[Bz (Di b)];exact q⟩
 inj:=λj k a c f=>by
  by_cases b:j=i
  ·simp[b]at c
  ·by_cases hk:k=i
   ·simp[hk]at f
   ·exact S.inj j k a (by simpa[b]using c) (by simpa[hk]using f)
 old:=λj a e=>by
  by_cases b:j=i
  ·simp[b]at e
  ·exact S.old j a (by simpa[b]using e)
 zin:=S.zin
 frm:=S.frm
 par:=⟨S.par.1,λj b=>by have g:j≠i:=λz=>m (z▸b);have h2:O j=B.mu j:=S.par.2 j b;simpa[g]using h2⟩
 pin:=S.pin
 kep:=λp l=>(S.kep p l).mono (PF (o:=b4)) (PF (o:=b4))
def P7{i:Nat}{p:Ul}:∀a,Nn B (λj=>if j=i then b3 p else O j) a->Nn (B.add p) O a:=λa h=>by
 rcases h with h|⟨j,h⟩
 ·exact .inl (.inl h)
 ·by_cases b:j=i
  ·simp[b]at h
   exact .inl (.inr h.symm)
  ·exact .inr ⟨j,by simpa[b]using h⟩
def aU.setOw{p:Ul}(S:aU K ml (B.add p) O H σ δ){i:Nat}{d:cU}(m:i∉ml)(hl:i<δ.length)(hz:¬B.Z p)(n:B.H0 p=b4)(h:SJ K (Nn (B.add p) O) H p d):
  aU K ml B (λj=>if j=i then b3 p else O j) H (σ.set i (b3 (.ref p))) (δ.set i (.ow d)) where
 len:=by rw[Cd,Cd,S.len]
 va:=λj e q=>by
  rcases TW q with⟨rfl,z,_⟩|⟨b,q⟩
  ·cases z
  ·obtain⟨u,c,r⟩:=S.va j e q
   exact⟨u,by rw[Bz (Di b)];exact c,r.mono P7 P7⟩
 ow:=λj e q=>by
  rcases TW q with⟨rfl,z,hl⟩|⟨b,q⟩
  ·cases z
   exact⟨p,by simp,by rw[Dd (by rw[S.len];exact hl)],h.mono P7⟩
  ·obtain⟨a,c,f,w⟩:=S.ow j e q
   exact⟨a,by simpa[b]using c,by rw[Bz (Di b)];exact f,w.mono P7⟩
 dom:=λj a e=>by
  by_cases b:j=i
  ·subst b
   exact⟨d,by rw[Dd hl]⟩
  ·obtain ⟨d,q⟩ := S.dom j a (by simpa [b]using e)
   exact⟨d,by rw[Bz (Di b)];exact q⟩
 inj:=λj k a c f=>by
  by_cases b:j=i
  ·by_cases hk:k=i
   ·rw[b,hk]
   ·simp[b]at c
    simp[hk]at f;exact absurd (.inr c.symm) (S.old k a f).1
  ·by_cases hk:k=i
   ·simp[hk]at f
    simp[b]at c;exact absurd (.inr f.symm) (S.old j a c).1
   ·exact S.inj j k a (by simpa[b]using c) (by simpa[hk]using f)
 old:=λj a e=>by
  by_cases b:j=i
  ·simp[b]at e
   subst e;exact⟨hz,.inr n⟩
  ·have := S.old j a (by simpa [b]using e)
   exact⟨λz=>this.1 (.inl z),this.2⟩
 zin:=λa h=>S.zin a (.inl h)
 frm:=S.frm
 par:=⟨S.par.1,λj b=>by have g:j≠i:=λz=>m (z▸b);have h2:O j=B.mu j:=S.par.2 j b;simpa[g]using h2⟩
 pin:=S.pin
 kep:=λp l=>(S.kep p l).mono P7 P7
def aU.wrote(S:aU K ml B O H σ δ){i:Nat}{a:Ul}{d:cU}{o:HO}(e:O i=b3 a)(D:¬Hard o)(h:SJ K (Nn B O) (upd H a o) a d):aU K ml B O (upd H a o) σ (δ.set i (.ow d)):=by
 have x:Fr (λb=>b=a) H (upd H a o):=λb u q n=>by
  by_cases f:b=a
  ·subst f
   obtain⟨d',s⟩:=S.dom i b e;obtain⟨m,c,_,w⟩:=S.ow i d' s;rw[e]at c;cases c;obtain⟨A,q1,t⟩:=w.soft;rw[q]at q1;cases q1;exact absurd (n rfl) t
  ·rw[bZ f]
   exact q
 have l:∀b,b=a->Nn B O b:=λb z=>.inr ⟨i,z▸e⟩;have k:∀b,(∃u,H b=b3 u)->∃u,upd H a o b=b3 u:=λb q0=>by
  obtain⟨u,q⟩:=q0;by_cases f:b=a
  ·exact⟨o,by rw[f];exact cA⟩
  ·exact⟨u,by rw[bZ f];exact q⟩
 refine⟨by rw[Cd,S.len],λj d' q=>?_,λj d' q=>?_,λj b q=>?_,S.inj,S.old,λb h=>k b (S.zin b h),?_,S.par,λb h=>k b (S.pin b h),λp C=>(S.kep p C).fr x l l⟩
 ·rcases TW q with⟨_,z,_⟩|⟨g,q⟩
  ·cases z
  ·obtain⟨v,c,r⟩:=S.va j d' q
   exact⟨v,c,r.fr x l l⟩
 ·rcases TW q with⟨rfl,z,hl⟩|⟨g,q⟩
  ·cases z
   obtain⟨d0,q0⟩:=S.dom j a e;obtain⟨m,c,y,_⟩:=S.ow j d0 q0;rw[e]at c;cases c;exact⟨a,e,y,h⟩
  ·obtain⟨m,c,y,w⟩:=S.ow j d' q
   exact⟨m,c,y,w.fr x l λz=>g (S.inj j i a (z▸c) e)⟩
 ·by_cases g:j=i
  ·subst g
   obtain⟨d0,q0⟩:=S.dom j b q;exact⟨d,by rw[Dd (Ag.mp q0).1]⟩
  ·obtain⟨d0,q0⟩:=S.dom j b q
   exact⟨d0,by rw[Bz (Di g)];exact q0⟩
 ·intro b u q n
  have h1:=S.frm b u q n;by_cases f:b=a
  ·subst f
   rcases(S.old i b e).2 with z|z
   ·obtain⟨d',s⟩:=S.dom i b e
    obtain⟨m,c,_,w⟩:=S.ow i d' s;rw[e]at c;cases c;obtain⟨A,q1,t⟩:=w.soft;rw[h1]at q1;cases q1;exact absurd (n z) t
   ·rw[q]at z
    cases z
  ·rw[bZ f]
   exact h1
def aU.keepV(S:aU K ml B O H σ δ){ps:List (V×cU)}(h:∀p∈ps,bO K (Nn B O) H (Nn B O) p.1 p.2):aU K ml {B with kp:=ps++B.kp} O H σ δ:=
 ⟨S.len,S.va,S.ow,S.dom,S.inj,S.old,S.zin,S.frm,S.par,S.pin,λp a=>(By.mp a).elim (h p) (S.kep p)⟩
def aU.unkeep{ps:List (V×cU)}(S:aU K ml {B with kp:=ps++B.kp} O H σ δ):aU K ml B O H σ δ:=
 ⟨S.len,S.va,S.ow,S.dom,S.inj,S.old,S.zin,S.frm,S.par,S.pin,λp a=>S.kep p (Br _ a)⟩
end
def rz(B:Bs):Ul->Prop:=λa=>B.Z a∨∃i,B.mu i=b3 a
def av(B:Bs)(O:Nat->Option Ul)(b:Bool):Ul->Prop:=if b then Nn B O else λa=>Nn B O a/\rz B a
def at_(B:Bs)(O:Nat->Option Ul)(b:Bool):Ul->Prop:=if b then Nn B O else λ_=>False
def Xn{B:Bs}{O:Nat->Option Ul}{b:Bool}:∀a,at_ B O b a->av B O b a:=λa h=>by
 cases b with
 |true=>exact h
 |false=>exact h.elim
def gF{B:Bs}{O:Nat->Option Ul}{b c:Bool}(h:b=ba->c=ba):∀a,at_ B O b a->at_ B O c a:=λa z=>by
 cases b with
 |true=>rw[h rfl];exact z
 |false=>exact z.elim
def aU.rzn{K:Ah}{ml:List Nat}{B:Bs}{O:Nat->Option Ul}{H:Hp}{σ:St}{δ:Ev}(S:aU K ml B O H σ δ):∀a,rz B a->Nn B O a:=λa h=>by
 rcases h with h|⟨i,h⟩
 ·exact .inl h
 ·exact .inr ⟨i,(S.par.2 i (S.par.1 i a h)).trans h⟩
def aU.rza{K:Ah}{ml:List Nat}{B:Bs}{O:Nat->Option Ul}{H:Hp}{σ:St}{δ:Ev}(S:aU K ml B O H σ δ){b:Bool}:∀a,rz B a->av B O b a:=λa h=>by
 cases b with
 |true=>exact S.rzn a h
 |false=>exact⟨S.rzn a h,h⟩
def OB{B:Bs}{O:Nat->Option Ul}{b c:Bool}(h:b=ba->c=ba):∀a,av B O b a->av B O c a:=λa z=>by
 cases b with
 |true=>rw[h rfl];exact z
 |false=>cases c with
  |true=>exact z.1
  |false=>exact z
structure Res(K:Ah)(ml:List Nat)(B:Bs)(O:Nat->Option Ul)(H:Hp)(σ:St)(pu bt bi:Bool)(H':Hp)(δ':Ev)(v:V)(d:cU):Prop where
 sta:aU K ml B O H' σ δ'
 frm:Fr (OA O) H H'
 pur:pu=ba->bA H H'
 rep:bO K (av B O bi) H' (at_ B O bt) v d
abbrev VF:=Ev->Option (cU×Ev)
inductive TVi(K:Ah)(ml:List Nat)(pu bt bi:Bool)(f:VF)(σ:St)(H:Hp)(Q:VK):Prop
 |mk (B:_) (O:_) (δ:_) (d:_) (δ':_) (h0:aU K ml B O H σ δ) (h1:f δ=b3 (d,δ')) (h2:∀v H',Res K ml B O H σ pu bt bi H' δ' v d->Q v H'):TVi K ml pu bt bi f σ H Q
def TV(K:Ah)(ml:List Nat)(pu bt bi:Bool)(f:VF):TE:=λσ H Q=>TVi K ml pu bt bi f σ H Q
def PE.imp{X:Cx}{e:Us}{t u:TE}(h:PE X e t)(k:∀σ H Q,u σ H Q->t σ H Q):PE X e u:=λaa s σ H Q I w=>h aa s σ H Q I (k σ H Q w)
def PT.imp{X:Cx}{e:Us}{t u:TT}(h:PT X e t)(k:∀σ H Q,u σ H Q->t σ H Q):PT X e u:=λaa s σ H Q I w=>h aa s σ H Q I (k σ H Q w)
def PW.imp{X:Cx}{e:Us}{t u:TT}(h:PW X e t)(k:∀σ H Q,u σ H Q->t σ H Q):PW X e u:=λa aa s σ H Q I w=>h a aa s σ H Q I (k σ H Q w)
def PA.imp{X:Cx}{e:List Us}{t u:TA}(h:PA X e t)(k:∀σ H Q,u σ H Q->t σ H Q):PA X e u:=λpos aa s σ H Q I w=>h pos aa s σ H Q I (k σ H Q w)
def PS.imp{X:Cx}{e:Ux}{t u:TS}(h:PS X e t)(k:∀D σ H,u D σ H->t D σ H):PS X e u:=λaa s σ H D I w=>h aa s σ H D I (k D σ H w)
def WN.imp{X:Cx}{e:List Ux}{t u:TS}(h:WN X e t)(k:∀D σ H,u D σ H->t D σ H):WN X e u:=λaa s σ H D I w=>h aa s σ H D I (k D σ H w)
section
variable{X:Cx}{K:Ah}{ml:List Nat}{e a b c:Us}{pa ta ia pb tb ib pc tc ic:Bool}{fa fb fc:VF}{r:R2}{o:cU->cU->Option cU}{B:Bs}{O:Nat->Option Ul}{H H1 H':Hp}{σ:St}{δ δ':Ev}{v:V}{d:cU}
def fC(d:cU):VF:=λδ=>b3 (d,δ)
def Res.refl{pu bt bi:Bool}(S:aU K ml B O H σ δ)(h:bO K (av B O bi) H (at_ B O bt) v d):Res K ml B O H σ pu bt bi H δ v d:=⟨S,Fr.refl _ _,λ_=>bA.refl _,h⟩
def CC(h:PE X e (tC v))(b:∀N H M,bO K N H M v d):PE X e (TV K ml ba ba ba (fC d)):=h.imp λσ H Q a=>by obtain⟨B,O,δ,d',δ',S,q,k⟩:=a;cases q;exact k v H (Res.refl S (b _ _ _))
def cT{i j pos}:PE X (.Constant (.int i) j pos) (TV K ml ba ba ba (fC (.int i))):=CC XX λ_ _ _=>.int i
def ZT{i j pos}:PE X (.Constant (.bool i) j pos) (TV K ml ba ba ba (fC (.bl i))):=CC kM λ_ _ _=>.bl i
def YN{j pos}:PE X (.Constant .none j pos) (TV K ml ba ba ba (fC .non)):=CC pM λ_ _ _=>.non
def cG{i j pos}:PE X (.Constant (.str i) j pos) (TV K ml ba ba ba (fC (.str i))):=CC Zc λ_ _ _=>.str i
noncomputable def fV(i:Nat):VF:=λδ=>match δ[i]? with
 |some (.va d)=>b3 (d,δ)
 |_=>b4
noncomputable def fO(i:Nat):VF:=λδ=>match δ[i]? with
 |some (.va d)=>b3 (d,δ)
 |some (.ow d)=>b3 (d,δ)
 |_=>b4
def qW{i:Nat}(h:PE X e (V8 i)):PE X e (TV K ml ba ba ba (fV i)):=h.imp λσ H Q a=>by
 obtain⟨B,O,δ,d',δ',S,q,k⟩:=a;unfold fV at q;split at q
 ·rename_i d hd
  cases q;obtain⟨v,b,r⟩:=S.va i _ hd;exact⟨v,b,k v H (Res.refl S r)⟩
 ·cases q
def fJ{i:Nat}(h:PE X e (V8 i)):PE X e (TV K ml ba bb ba (fO i)):=h.imp λσ H Q b=>by
 obtain⟨B,O,δ,d',δ',S,q,k⟩:=b;unfold fO at q;split at q
 ·rename_i d hd
  cases q;obtain⟨v,c,r⟩:=S.va i _ hd;exact⟨v,c,k v H (Res.refl S (r.mono (λ_ z=>z) λa z=>z.elim))⟩
 ·rename_i d hd
  cases q;obtain⟨a,c,f,w⟩:=S.ow i _ hd;exact⟨.ref a,f,k _ H (Res.refl S (w.rep λz=>z))⟩
 ·cases q
def Res.live{H2:Hp}{c:V}{e:cU}(R2:Res K ml B O H1 σ pb tb ib H2 δ' c e)(b:(pb || (ta&&ia))=ba)(h:bO K (av B O ia) H1 (at_ B O ta) v d):bO K (av B O ia) H2 (at_ B O ta) v d:=by
 cases pb with
 |true=>exact h.same (R2.pur rfl)
 |false=>
  have b:(ta&&ia)=ba:=by simpa using b
  obtain⟨h1,h2⟩:=(Ad _ _).mp b;subst h1 h2;exact h.fr R2.frm (λa z=>.inr z) λa z=>.inr z
noncomputable def f2(o:cU->cU->Option cU)(fa fb:VF):VF:=λδ=>(fa δ).bind λp=>(fb p.2).bind λq=>(o p.1 q.1).map λc=>(c,q.2)
def RP{δ2:Ev}(h:f2 o fa fb δ=b3 (d,δ2)):∃x δ1 y,fa δ=b3 (x,δ1)/\fb δ1=b3 (y,δ2)/\o x y=b3 d:=by
 unfold f2 at h;cases h1:fa δ with
 |none=>rw[h1]at h;cases h
 |some p=>
  rw[h1]at h;cases h2:fb p.2 with
  |none=>simp[h2]at h
  |some q=>
   simp only[Ai,h2]at h;obtain⟨c,a,h⟩:=Ap.mp h;cases h;exact⟨p.1,p.2,q.1,rfl,h2,a⟩
def QI(K:Ah)(r:R2)(o:cU->cU->Option cU):Prop:=∀(H:Hp) (N N' M M':Ul->Prop) (x y:V) (d e c:cU) (Q:VK),bO K N H M x d->bO K N' H M' y e->o d e=b3 c->(∀v,(∀H' N M,bO K N H' M v c)->Q v H)->r x y H Q
def OpC(K:Ah)(r:R2)(o:cU->cU->Option cU):Prop:=∀(H:Hp) (N M M':Ul->Prop) (x y:V) (d e c:cU) (Q:VK),bO K N H M x d->bO K N H M' y e->o d e=b3 c->
 (∀v H',bA H H'->(∀M,(∀a,M a->∃o,H a=b3 o)->bO K N H' M v c)->Q v H')->r x y H Q
def OpI(K:Ah)(r:R2)(o:cU->cU->Option cU):Prop:=∀(H:Hp) (N N' M M':Ul->Prop) (x y:V) (d e c:cU) (Q:VK),bO K N H M x d->bO K N' H M' y e->o d e=b3 c->(∀v,bO K N H N v c->Q v H)->r x y H Q
def F2(j:QI K r o)(i:(pb || (ta&&ia))=ba){Q:VK}(h:TV K ml (pa&&pb) ba ba (f2 o fa fb) σ H Q):tOp r (TV K ml pa ta ia fa) (TV K ml pb tb ib fb) σ H Q:=by
 obtain⟨B,O,δ,d,δ2,S,q,k⟩:=h;obtain⟨x,δ1,y,h1,h2,l⟩:=RP q;refine⟨B,O,δ,x,δ1,S,h1,λf H1 a=>⟨B,O,δ1,y,δ2,a.sta,h2,λe H2 R2=>?_⟩⟩;exact j H2 _ _ _ _ f e x y d Q (R2.live i a.rep) R2.rep l λv g=>k v H2 ⟨R2.sta,a.frm.trans R2.frm,λz=>by obtain⟨c,b⟩:=(Ad _ _).mp z;exact(a.pur c).trans (R2.pur b),g _ _ _⟩
def dO(m:OpC K r o)(l:(pb || (ta&&ia))=ba){Q:VK}(h:TV K ml (pa&&pb) ba (ia&&ib) (f2 o fa fb) σ H Q):tOp r (TV K ml pa ta ia fa) (TV K ml pb tb ib fb) σ H Q:=by obtain⟨B,O,δ,d,δ2,S,q,k⟩:=h;obtain⟨x,δ1,y,h1,h2,n⟩:=RP q;refine⟨B,O,δ,x,δ1,S,h1,λi H1 b=>⟨B,O,δ1,y,δ2,b.sta,h2,λg H2 R2=>?_⟩⟩;have s:∀a,av B O (ia&&ib) a->av B O ia a:=OB λz=>((Ad _ _).mp z).1;have p:∀a,av B O (ia&&ib) a->av B O ib a:=OB λz=>((Ad _ _).mp z).2;refine m H2 (av B O (ia&&ib)) _ _ i g x y d Q ((R2.live l b.rep).mono s λ_ z=>z) (R2.rep.mono p λ_ z=>z) n λv t c j=>k v t ⟨R2.sta.same c,(b.frm.trans R2.frm).trans c.fr,λz=>?_,j _ λa z=>R2.sta.nin z⟩;obtain⟨f,e⟩:=(Ad _ _).mp z;exact((b.pur f).trans (R2.pur e)).trans c
def nF(j:OpI K r o)(i:(pb || (ta&&ia))=ba){Q:VK}(h:TV K ml (pa&&pb) ia ia (f2 o fa fb) σ H Q):tOp r (TV K ml pa ta ia fa) (TV K ml pb tb ib fb) σ H Q:=by
 obtain⟨B,O,δ,d,δ2,S,q,k⟩:=h;obtain⟨x,δ1,y,h1,h2,l⟩:=RP q;refine⟨B,O,δ,x,δ1,S,h1,λf H1 a=>⟨B,O,δ1,y,δ2,a.sta,h2,λe H2 R2=>?_⟩⟩;exact j H2 _ _ _ _ f e x y d Q (R2.live i a.rep) R2.rep l λv g=>k v H2 ⟨R2.sta,a.frm.trans R2.frm,λz=>by obtain⟨c,b⟩:=(Ad _ _).mp z;exact(a.pur c).trans (R2.pur b),g.mono (λ_ z=>z) Xn⟩
def ZH{op:Operator}{pos:Pos}(e:W7 X (Fs op) r)(c:QI K r o)(g:PE X a (TV K ml pa ta ia fa))(f:PE X b (TV K ml pb tb ib fb))(d:(pb || (ta&&ia))=ba:=by rfl):PE X (.BinOp a op b pos) (TV K ml (pa&&pb) ba ba (f2 o fa fb)):=
 (Xx e g f).imp λ_ _ _ h=>F2 c d h
def bL{op:Operator}{pos:Pos}(e:W7 X (Fs op) r)(c:OpC K r o)(g:PE X a (TV K ml pa ta ia fa))(f:PE X b (TV K ml pb tb ib fb))(d:(pb || (ta&&ia))=ba:=by rfl):PE X (.BinOp a op b pos) (TV K ml (pa&&pb) ba (ia&&ib) (f2 o fa fb)):=
 (Xx e g f).imp λ_ _ _ h=>dO c d h
def XY{op:CmpOp}{pos:Pos}(e:W7 X (Ct op) r)(c:QI K r o)(i:PE X a (TV K ml pa ta ia fa))(g:PE X b (TV K ml pb tb ib fb))(f:Hq op b=bb:=by exact UG _)(d:(pb || (ta&&ia))=ba:=by rfl):PE X (.Compare a [op] [b] pos) (TV K ml (pa&&pb) ba ba (f2 o fa fb)):=
 (lX e i g f).imp λ_ _ _ h=>F2 c d h
def eV{pos:Pos}(f:CK X r)(d:OpI K r o)(i:PE X a (TV K ml pa ta ia fa))(g:PE X b (TV K ml pb tb ib fb))(c:W0 b)(e:(pb || (ta&&ia))=ba:=by rfl):PE X (.Subscript a b pos) (TV K ml (pa&&pb) ia ia (f2 o fa fb)):=
 (NO f i g c).imp λ_ _ _ h=>nF d e h
noncomputable def oI(C:Int->Int->Bool)(g:Int->Int->cU):cU->cU->Option cU
 |.int i,.int j=>if C i j=ba then b3 (g i j)else b4
 |_,_=>b4
def Ys{C:Int->Int->Bool}{g:Int->Int->cU}{d e c:cU}(h:oI C g d e=b3 c):∃i j,d=.int i/\e=.int j/\C i j=ba/\c=g i j:=by
 unfold oI at h;split at h
 ·split at h
  ·rename_i hc
   cases h;exact⟨_,_,rfl,rfl,hc,rfl⟩
  ·cases h
 ·cases h
def DH{C:Int->Int->Prop}{a:Int->Int->Bool}{g:Int->Int->V}{g':Int->Int->cU}(m:∀i j,a i j=ba->C i j)(l:∀i j N H M,bO K N H M (g i j) (g' i j)):QI K (rI C g) (oI a g'):=by intro H N N' M M' x y d e c Q f b h k;obtain⟨i,j,rfl,rfl,hc,rfl⟩:=Ys h;cases f.onI;cases b.onI;exact⟨_,_,rfl,rfl,m _ _ hc,k _ λ_ _ _=>l ..⟩
def NL{g:Int->Int->V}{g':Int->Int->cU}(f:∀i j N H M,bO K N H M (g i j) (g' i j)):QI K (FN g) (oI (λ_ _=>ba) g'):=by intro H N N' M M' x y d e c Q b a h k;obtain⟨i,j,rfl,rfl,hc,rfl⟩:=Ys h;cases b.onI;cases a.onI;exact⟨_,_,rfl,rfl,k _ λ_ _ _=>f ..⟩
noncomputable def cMul(i j:Int):Bool:=(decide (-18446744073709551616<i)&&decide (i<18446744073709551616)) || (decide (-18446744073709551616<j)&&decide (j<18446744073709551616))
noncomputable def cDiv(i j:Int):Bool:=decide (0<j)&&decide (j<1073741824)
def cPow(i j:Int):Bool:=decide (0<=j)&&decide (j<=1000000)&&decide (i.natAbs<18446744073709551616)
abbrev Q1:=oI (λ_ _=>ba) λi j=>.int (i-j)
abbrev oMul:=oI cMul λi j=>.int (i*j)
abbrev G9:=oI cDiv λi j=>.int (i/j)
abbrev JR:=oI (λ_ j=>decide (0<j)) λi j=>.int (i % j)
abbrev oPow:=oI cPow λi j=>.int (i ^ j.toNat)
abbrev oLt:=oI (λ_ _=>ba) λi j=>.bl (decide (i<j))
abbrev oLe:=oI (λ_ _=>ba) λi j=>.bl (decide (i<=j))
abbrev oGt:=oI (λ_ _=>ba) λi j=>.bl (decide (j<i))
abbrev oGe:=oI (λ_ _=>ba) λi j=>.bl (decide (j<=i))
def UO:QI K (FN λi j=>.int (i-j)) Q1:=NL λi j _ _ _=>.int _
def eL:QI K (rI CMul λi j=>.int (i*j)) oMul:=DH (λi j h=>by
 have p:(2:Int) ^ 64=18446744073709551616:=by decide
 unfold CMul;rw[p];simpa[cMul]using h) λi j _ _ _=>.int _
def FT:QI K (rI CDiv λi j=>.int (i/j)) G9:=DH (λi j h=>by show 0<j/\j<1073741824;simpa[cDiv]using h) λi j _ _ _=>.int _
def PK:QI K (rI (λ_ j=>0<j) λi j=>.int (i % j)) JR:=DH (λi j h=>by simpa using h) λi j _ _ _=>.int _
def iP:QI K (rI CPow λi j=>.int (i ^ j.toNat)) oPow:=DH (λi j h=>by
 have p:(2:Nat) ^ 64=18446744073709551616:=by decide
 unfold CPow;rw[p];simpa[cPow,and_assoc]using h) λi j _ _ _=>.int _
def s_lt:QI K (FN λi j=>.bl (decide (i<j))) oLt:=NL λi j _ _ _=>.bl _
def s_le:QI K (FN λi j=>.bl (decide (i<=j))) oLe:=NL λi j _ _ _=>.bl _
def s_gt:QI K (FN λi j=>.bl (decide (j<i))) oGt:=NL λi j _ _ _=>.bl _
def s_ge:QI K (FN λi j=>.bl (decide (j<=i))) oGe:=NL λi j _ _ _=>.bl _
def LJ(d:cU):Bool:=d.isD&&Fc d.pd
def eqD(d e:cU):Bool:=Ji d.pd e.pd
def WD(d e:cU):Option cU:=if(LJ d&&LJ e)=ba then b3 (.bl (eqD d e))else b4
def RK(d e:cU):Option cU:=if(LJ d&&LJ e)=ba then b3 (.bl (!eqD d e))else b4
def s_eq:QI K (rEqD K) WD:=by
 intro H N N' M M' x y d e c Q f b h k;unfold WD at h;split at h
 ·rename_i a
  cases h;simp only[LJ,Ad]at a;exact⟨d.pd,e.pd,f.dp a.1.1,b.dp a.2.1,a.1.2,a.2.2,k _ λ_ _ _=>.bl _⟩
 ·cases h
def O8:QI K (rNeD K) RK:=by
 intro H N N' M M' x y d e c Q f b h k;unfold RK at h;split at h
 ·rename_i a
  cases h;simp only[LJ,Ad]at a;exact⟨d.pd,e.pd,f.dp a.1.1,b.dp a.2.1,a.1.2,a.2.2,k _ λ_ _ _=>.bl _⟩
 ·cases h
noncomputable def isN:cU->Bool
 |.non=>ba
 |_=>bb
def MN:cU->cU->Option cU
 |d,.non=>b3 (.bl (isN d))
 |_,_=>b4
def PH:cU->cU->Option cU
 |d,.non=>b3 (.bl (!isN d))
 |_,_=>b4
def DY{N M:Ul->Prop}(h:bO K N H M v d):decide (v=V.non)=isN d:=by
 cases h<;>simp[isN]
def Vk:QI K (λx y H Q=>y=.non/\Q (.bl (decide (x=.non))) H) MN:=by
  intro H N N' M M' x y d e c Q b a h k;cases a<;>first
    | (cases h
       refine⟨rfl,?_⟩;rw[DY b];exact k _ λ_ _ _=>.bl _)
    |(simp[MN]at h)
def iY:QI K (λx y H Q=>y=.non/\Q (.bl (!decide (x=.non))) H) PH:=by
  intro H N N' M M' x y d e c Q b a h k;cases a<;>first
    | (cases h
       refine⟨rfl,?_⟩;rw[DY b];exact k _ λ_ _ _=>.bl _)
    |(simp[PH]at h)
noncomputable def XB:cU->Option (List cU)
 |.tup ds=>b3 ds
 |.lst ds=>b3 ds
 |_=>b4
def bO.seq{N M:Ul->Prop}{ds:List cU}(h:bO K N H M v d)(e:XB d=b3 ds):∃a xs,v=.ref a/\(X2 K H a xs∨WL K H a xs)/\b9 K N H xs ds:=by
 cases h<;>first
  |(cases e;rename_i q r;exact⟨_,_,rfl,.inr q,r⟩)
  |(cases e;rename_i q n r;exact⟨_,_,rfl,.inl (X2.of q),r⟩)
  |(cases e;rename_i q r;exact⟨_,_,rfl,.inl q.sq,r⟩)
  |cases e
def rj{N:Ul->Prop}{xs:List V}{ds:List cU}{i:Int}(r:b9 K N H xs ds)(h:T2 ds i=b3 d):∃v,T2 xs i=b3 v/\bO K N H N v d:=by
 unfold T2 at h⊢;rw[r.length];cases hi:AZ ds.length i with
 |none=>rw[hi]at h;cases h
 |some j=>
  rw[hi]at h;exact r.get h
end
section
variable{X:Cx}{K:Ah}{ml:List Nat}{e a b c:Us}{es:List Us}{pa ta ia pb tb ib pc tc ic pu bt bi ps bs:Bool}{fa fb fc:VF}{r r':R2}{o o':cU->cU->Option cU}{B:Bs}{O:Nat->Option Ul}{H H1 H':Hp}{σ:St}{δ δ':Ev}{v:V}{d:cU}{p:Ul}{pos:Pos}
def aU.unadd(S:aU K ml (B.add p) O H σ δ):aU K ml B O H σ δ where
 len:=S.len
 va:=λi d e=>let ⟨v,a,b⟩:=S.va i d e;⟨v,a,b.mono SD SD⟩
 ow:=λi d e=>let ⟨a,b,c,w⟩:=S.ow i d e;⟨a,b,c,w.mono SD⟩
 dom:=S.dom
 inj:=S.inj
 old:=λi a h=>⟨λz=>(S.old i a h).1 (.inl z),(S.old i a h).2⟩
 zin:=λa h=>S.zin a (.inl h)
 frm:=S.frm
 par:=S.par
 pin:=S.pin
 kep:=λp h=>(S.kep p h).mono SD SD
structure ResN(K:Ah)(ml:List Nat)(B:Bs)(O:Nat->Option Ul)(H:Hp)(σ:St)(pu:Bool)(H':Hp)(δ':Ev)(p:Ul)(d:cU):Prop where
 sta:aU K ml (B.add p) O H' σ δ'
 frm:Fr (OA O) H H'
 pur:pu=ba->bA H H'
 own:SJ K (Nn (B.add p) O) H' p d
 nz:¬Nn B O p
 h0:B.H0 p=b4
inductive TNi(K:Ah)(ml:List Nat)(pu:Bool)(f:VF)(σ:St)(H:Hp)(Q:VK):Prop
 |mk (B:_) (O:_) (δ:_) (d:_) (δ':_) (h0:aU K ml B O H σ δ) (h1:f δ=b3 (d,δ')) (h2:∀p H',ResN K ml B O H σ pu H' δ' p d->Q (.ref p) H'):TNi K ml pu f σ H Q
def TN(K:Ah)(ml:List Nat)(pu:Bool)(f:VF):TE:=λσ H Q=>TNi K ml pu f σ H Q
def bX{f:VF}(h:PE X e (TN K ml pu f)):PE X e (TV K ml pu ba ba f):=h.imp λσ H Q ⟨B,O,δ,d,δ',S,q,k⟩=>
 ⟨B,O,δ,d,δ',S,q,λp H' R=>k _ H' ⟨R.sta.unadd,R.frm,R.pur,(R.own.mono SD).rep R.nz⟩⟩
def mkN{xs:List V}{ds:List cU}(S:aU K ml B O H1 σ δ')(f:Fr (OA O) H H1)(s:pu=ba->bA H H1)(a:H1 p=b4)(r:b9 K (Nn B O) H1 xs ds):ResN K ml B O H σ pu (upd H1 p (.lst xs)) δ' p (.lst ds):=
 ⟨S.laid a,f.trans (cP a).fr,λz=>(s z).trans (cP a),.lst cA ((r.away a _ _ W4).same (cP a)),S.new a,S.fresh a⟩
def mkD(S:aU K ml B O H1 σ δ')(f:Fr (OA O) H H1)(s:pu=ba->bA H H1)(a:H1 p=b4):ResN K ml B O H σ pu (upd H1 p (.dK [])) δ' p (.dct [] []):=
 ⟨S.laid a,f.trans (cP a).fr,λz=>(s z).trans (cP a),.dct (kvs:=[]) cA .nil,S.new a,S.fresh a⟩
def iJ:PE X (.Dict [] [] pos) (TN K ml ba (fC (.dct [] []))):=HG.imp λσ H Q a=>by obtain⟨B,O,δ,d,δ',S,q,k⟩:=a;cases q;exact λp b=>k p _ (mkD S (Fr.refl _ _) (λ_=>bA.refl _) b)
abbrev RJ:=Ev->Option (List cU×Ev)
structure ResA(K:Ah)(ml:List Nat)(B:Bs)(O:Nat->Option Ul)(H:Hp)(σ:St)(pu b:Bool)(H':Hp)(δ':Ev)(vs:List V)(ds:List cU):Prop where
 sta:aU K ml B O H' σ δ'
 frm:Fr (OA O) H H'
 pur:pu=ba->bA H H'
 rep:b9 K (av B O b) H' vs ds
inductive TAVi(K:Ah)(ml:List Nat)(pu b:Bool)(f:RJ)(σ:St)(H:Hp)(Q:List V->Hp->Prop):Prop
 |mk (B:_) (O:_) (δ:_) (d:_) (δ':_) (h0:aU K ml B O H σ δ) (h1:f δ=b3 (d,δ')) (h2:∀vs H',ResA K ml B O H σ pu b H' δ' vs d->Q vs H'):TAVi K ml pu b f σ H Q
def TAV(K:Ah)(ml:List Nat)(pu b:Bool)(f:RJ):TA:=λσ H Q=>TAVi K ml pu b f σ H Q
def cK:RJ:=λδ=>b3 ([],δ)
noncomputable def cV(fa:VF)(fs:RJ):RJ:=λδ=>(fa δ).bind λp=>(fs p.2).map λq=>(p.1::q.1,q.2)
def AS{fs:RJ}{ds:List cU}(h:cV fa fs δ=b3 (ds,δ')):∃x δ1 xs,fa δ=b3 (x,δ1)/\fs δ1=b3 (xs,δ')/\ds=x::xs:=by
 unfold cV at h;cases h1:fa δ with
 |none=>rw[h1]at h;cases h
 |some p=>
  rw[h1]at h;cases h2:fs p.2 with
  |none=>simp[h2]at h
  |some q=>
   simp only[Ai,h2]at h;cases h;exact⟨p.1,p.2,q.1,rfl,h2,rfl⟩
def cR:PA X [] (TAV K ml ba ba cK):=Z9.imp λσ H Q a=>by obtain⟨B,O,δ,d,δ',S,q,k⟩:=a;cases q;exact k [] H ⟨S,Fr.refl _ _,λ_=>bA.refl _,.nil⟩
def cW{fs:RJ}(o:PE X a (TV K ml pa ta ia fa))(n:PA X es (TAV K ml ps bs fs))(e:SE X a es:=by rfl)(hl:(ps || (ta&&ia))=ba:=by rfl)(m:ta=ba:=by rfl):
  PA X (a::es) (TAV K ml (pa&&ps) (ta&&ia&&bs) (cV fa fs)):=(bW o n e).imp λσ H Q f=>by
 obtain⟨B,O,δ,d,δ2,S,q,k⟩:=f;obtain⟨x,δ1,xs,h1,h2,rfl⟩:=AS q;refine⟨B,O,δ,x,δ1,S,h1,λl H1 b=>⟨B,O,δ1,xs,δ2,b.sta,h2,λvs H2 R2=>k _ H2 ⟨R2.sta,b.frm.trans R2.frm,λz=>?_,?_⟩⟩⟩
 ·obtain⟨j,i⟩:=(Ad _ _).mp z
  exact(b.pur j).trans (R2.pur i)
 ·have g : ∀ c,((ta && ia && bs) = ba -> c = ba) -> ∀ a,av B O (ta && ia && bs) a -> av B O c a := λc h => OB h
  have s:=g ta λz=>by simp only[Ad]at z;exact z.1.1
  have r:=g ia λz=>by simp only[Ad]at z;exact z.1.2
  have p:=g bs λz=>by simp only[Ad]at z;exact z.2
  refine .cons ?_ (R2.rep.mono p);have h:bO K (av B O ia) H2 (at_ B O ta) l x:=by
   cases ps with
   |true=>exact b.rep.same (R2.pur rfl)
   |false=>
    have e:(ta&&ia)=ba:=by simpa using hl
    obtain⟨h1,h2⟩:=(Ad _ _).mp e;subst h1 h2;exact b.rep.fr R2.frm (λa z=>.inr z) λa z=>.inr z
  subst m;exact h.mono r s
def aU.lone(S:aU K ml B O H σ δ){i:Nat}{x:cU}(e:i∉ml)(h:fO i δ=b3 (x,δ')):δ'=δ/\∃v,σ[i]?=b3 (b3 v)/\bO K (av B O bb) H (av B O bb) v x:=by
 unfold fO at h;split at h
 ·rename_i d hd
  cases h;obtain⟨v,b,r⟩:=S.va i _ hd;exact⟨rfl,v,b,r.mono (λa z=>z.1) λa z=>z.1⟩
 ·rename_i d hd
  cases h;obtain⟨a,b,f,w⟩:=S.ow i _ hd;refine⟨rfl,.ref a,f,(w.mono λa z=>z.1).rep λz=>?_⟩;rcases z.2 with z|⟨j,z⟩
  ·exact(S.old i a b).1 z
  ·have c:=S.par.1 j a z
   have:i=j:=S.inj i j a b ((S.par.2 j c).trans z)
   exact e (this▸c)
 ·cases h
noncomputable def cC(fs:RJ):VF:=λδ=>(fs δ).bind λp=>if p.1.length<=16777216 then b3 (.tup p.1,p.2)else b4
noncomputable def aZ(fs:RJ):VF:=λδ=>(fs δ).bind λp=>if p.1.length<=16777216 then b3 (.lst p.1,p.2)else b4
def M5{fs:RJ}{g:List cU->cU}(h:((fs δ).bind λp=>if p.1.length<=16777216 then b3 (g p.1,p.2)else b4)=b3 (d,δ')):∃ds,fs δ=b3 (ds,δ')/\ds.length<=16777216/\d=g ds:=by
 cases h1:fs δ with
 |none=>rw[h1]at h;cases h
 |some p=>
  rw[h1]at h;have h:(if p.1.length<=16777216 then b3 (g p.1,p.2)else b4)=b3 (d,δ'):=h;split at h
  ·cases h
   exact⟨p.1,rfl,by assumption,rfl⟩
  ·cases h
def cJ{x1}{fs:RJ}(h:PA X es (TAV K ml pu bs fs)):PE X (.Tuple es x1 pos) (TV K ml pu ba bs (cC fs)):=(FH h).imp λσ H Q b=>by obtain⟨B,O,δ,d,δ',S,q,k⟩:=b;obtain⟨ds,h1,hl,rfl⟩:=M5 (g:=cU.tup) q;refine⟨B,O,δ,ds,δ',S,h1,λvs H1 R=>⟨by rw[R.rep.length,Cf];exact hl,λp a=>k _ _ ⟨R.sta.same (cP a),R.frm.trans (cP a).fr,λz=>(R.pur z).trans (cP a),.tup (WL.of cA) (R.rep.same (cP a))⟩⟩⟩
def nO{fs:RJ}(h:PA X es (TAV K ml pu bs fs)):PE X (.List es pos) (TV K ml pu ba bs (aZ fs)):=(JW h).imp λσ H Q b=>by obtain⟨B,O,δ,d,δ',S,q,k⟩:=b;obtain⟨ds,h1,hl,rfl⟩:=M5 (g:=cU.lst) q;refine⟨B,O,δ,ds,δ',S,h1,λvs H1 R=>⟨by rw[R.rep.length,Cf];exact hl,λp a=>k _ _ ⟨R.sta.same (cP a),R.frm.trans (cP a).fr,λz=>(R.pur z).trans (cP a),.lst cA (R.sta.new a) (R.rep.same (cP a))⟩⟩⟩
def bR{fs:RJ}(h:PA X es (TAV K ml pu ba fs)):PE X (.List es pos) (TN K ml pu (aZ fs)):=(JW h).imp λσ H Q a=>by obtain⟨B,O,δ,d,δ',S,q,k⟩:=a;obtain⟨ds,h1,hl,rfl⟩:=M5 (g:=cU.lst) q;exact⟨B,O,δ,ds,δ',S,h1,λvs H1 R=>⟨by rw[R.rep.length,Cf];exact hl,λp b=>k p _ (mkN R.sta R.frm R.pur b R.rep)⟩⟩
abbrev VB:=Ev->Option (Bool×Ev)
structure ResB(K:Ah)(ml:List Nat)(B:Bs)(O:Nat->Option Ul)(H:Hp)(σ:St)(pu:Bool)(H':Hp)(δ':Ev):Prop where
 sta:aU K ml B O H' σ δ'
 frm:Fr (OA O) H H'
 pur:pu=ba->bA H H'
inductive TBi(K:Ah)(ml:List Nat)(pu:Bool)(f:VB)(σ:St)(H:Hp)(Q:Bool->Hp->Prop):Prop
 |mk (B:_) (O:_) (δ:_) (k:_) (δ':_) (h0:aU K ml B O H σ δ) (h1:f δ=b3 (k,δ')) (h2:∀H',ResB K ml B O H σ pu H' δ'->Q k H'):TBi K ml pu f σ H Q
def TB(K:Ah)(ml:List Nat)(pu:Bool)(f:VB):TT:=λσ H Q=>TBi K ml pu f σ H Q
noncomputable def fB(f:VF):VB:=λδ=>(f δ).bind λp=>match p.1 with
 |.bl k=>b3 (k,p.2)
 |_=>b4
def nA{f:VF}{k:Bool}(h:fB f δ=b3 (k,δ')):f δ=b3 (.bl k,δ'):=by
 unfold fB at h;cases h1:f δ with
 |none=>rw[h1]at h;cases h
 |some p=>
  obtain⟨x,δ1⟩:=p;rw[h1]at h;cases x<;>first
   |(cases h;rfl)
   |cases h
def J8{f:VF}{t:TE}(a:∀σ H Q,TV K ml pu bt bi f σ H Q->t σ H Q){Q:Bool->Hp->Prop}(h:TB K ml pu (fB f) σ H Q):t σ H λx H'=>∃k,x=.bl k/\Q k H':=by obtain⟨B,O,δ,k,δ',S,q,w⟩:=h;refine a σ H _ ⟨B,O,δ,.bl k,δ',S,nA q,λv H' R=>⟨k,?_,w H' ⟨R.sta,R.frm,R.pur⟩⟩⟩;exact R.rep.onB
def bS{op:CmpOp}(e:W7 X (Ct op) r)(c:QI K r o)(i:PE X a (TV K ml pa ta ia fa))(g:PE X b (TV K ml pb tb ib fb))(f:Hq op b=bb:=by exact UG _)(d:(pb || (ta&&ia))=ba:=by rfl):PT X (.Compare a [op] [b] pos) (TB K ml (pa&&pb) (fB (f2 o fa fb))):=
 (fQ e i g f).imp λ_ _ _ h=>J8 (λ_ _ _=>F2 c d) h
def Y3{f:VF}(h:PE X e (TV K ml pu bt bi f))(b:∀a,isTrue e X.env a=(do let v<-a;Tb e.pos;Ko [v] (truthy v)):=by intro _;rfl):PT X e (TB K ml pu (fB f)):=
 (kQ h b).imp λ_ _ _ h=>J8 (λ_ _ _ z=>z) h
noncomputable def T4(x y:VB):VB:=λδ=>(x δ).bind λp=>if p.1=ba then y p.2 else b3 (bb,p.2)
noncomputable def OC(x y:VB):VB:=λδ=>(x δ).bind λp=>if p.1=ba then b3 (ba,p.2)else y p.2
noncomputable def SR(x:VB):VB:=λδ=>(x δ).map λp=>(!p.1,p.2)
def ResB.refl(S:aU K ml B O H σ δ):ResB K ml B O H σ pu H δ:=⟨S,Fr.refl _ _,λ_=>bA.refl _⟩
def qm{x y:VB}{Q:Bool->Hp->Prop}(h:TB K ml (pa&&pb) (T4 x y) σ H Q):tAnd (TB K ml pa x) (TB K ml pb y) σ H Q:=by
 obtain⟨B,O,δ,k,δ',S,q,w⟩:=h;unfold T4 at q;obtain⟨⟨b,δ1⟩,h1,q⟩:=Aa.mp q;refine⟨B,O,δ,b,δ1,S,h1,λH1 a=>?_⟩;cases b with
 |true=>
  have q:y δ1=b3 (k,δ'):=q;exact ML ⟨B,O,δ1,k,δ',a.sta,q,λH2 R2=>w H2 ⟨R2.sta,a.frm.trans R2.frm,λz=>by obtain⟨d,c⟩:=(Ad _ _).mp z;exact(a.pur d).trans (R2.pur c)⟩⟩
 |false=>
  have q:b3 (bb,δ1)=b3 (k,δ'):=q;cases q;exact MK (w H1 ⟨a.sta,a.frm,λz=>a.pur ((Ad _ _).mp z).1⟩)
def oM{x y:VB}{Q:Bool->Hp->Prop}(h:TB K ml (pa&&pb) (OC x y) σ H Q):tOr (TB K ml pa x) (TB K ml pb y) σ H Q:=by
 obtain⟨B,O,δ,k,δ',S,q,w⟩:=h;unfold OC at q;obtain⟨⟨b,δ1⟩,h1,q⟩:=Aa.mp q;refine⟨B,O,δ,b,δ1,S,h1,λH1 a=>?_⟩;cases b with
 |false=>
  have q:y δ1=b3 (k,δ'):=q;exact MK ⟨B,O,δ1,k,δ',a.sta,q,λH2 R2=>w H2 ⟨R2.sta,a.frm.trans R2.frm,λz=>by obtain⟨d,c⟩:=(Ad _ _).mp z;exact(a.pur d).trans (R2.pur c)⟩⟩
 |true=>
  have q:b3 (ba,δ1)=b3 (k,δ'):=q;cases q;exact ML (w H1 ⟨a.sta,a.frm,λz=>a.pur ((Ad _ _).mp z).1⟩)
def X0{x:VB}(h:PT X a (TB K ml pu x)):PT X (.UnaryOp .Not a pos) (TB K ml pu (SR x)):=(iI h).imp λσ H Q b=>by obtain⟨B,O,δ,k,δ',S,q,w⟩:=b;unfold SR at q;obtain⟨p,h1,q⟩:=Ap.mp q;cases q;exact⟨B,O,δ,p.1,p.2,S,h1,w⟩
def OT{x:VB}(h:PT X a (TB K ml pu x)):PW X (.BoolOp .And [a] pos) (TB K ml pu x):=lE h
def YO{x:VB}(h:PT X a (TB K ml pu x)):PW X (.BoolOp .Or [a] pos) (TB K ml pu x):=eY h
def QH{x y:VB}(d:PT X a (TB K ml pa x))(c:PW X (.BoolOp .And (b::es) pos) (TB K ml pb y)):PW X (.BoolOp .And (a::b::es) pos) (TB K ml (pa&&pb) (T4 x y)):=(mP d c).imp λ_ _ _ h=>qm h
def WX{x y:VB}(d:PT X a (TB K ml pa x))(c:PW X (.BoolOp .Or (b::es) pos) (TB K ml pb y)):PW X (.BoolOp .Or (a::b::es) pos) (TB K ml (pa&&pb) (OC x y)):=(mD d c).imp λ_ _ _ h=>oM h
def VU{x:VB}(h:PW X e (TB K ml pu x)):PT X e (TB K ml pu x):=h.pt
noncomputable def RQ(x y:VF):VF:=λδ=>(x δ).bind λp=>match p.1 with
 |.bl ba=>y p.2
 |.bl bb=>b3 (.bl bb,p.2)
 |_=>b4
def VQ{op}{f:VF}(h:PE X a (TV K ml pu bt bi f)):PE X (.BoolOp op [a] pos) (TV K ml pu bt bi f):=iU h
def WW(m:PE X a (TV K ml pa ta ia fa))(l:PE X (.BoolOp .And (b::es) pos) (TV K ml pb tb ib fb)):PE X (.BoolOp .And (a::b::es) pos) (TV K ml (pa&&pb) tb ib (RQ fa fb)):=(gJ m l).imp λσ H Q f=>by
 obtain⟨B,O,δ,d,δ',S,q,k⟩:=f;unfold RQ at q;obtain⟨⟨x,δ1⟩,h1,q⟩:=Aa.mp q;refine⟨B,O,δ,x,δ1,S,h1,λj H1 c=>?_⟩;cases x with
 |bl e=>
  have n:j=.bl e:=c.rep.onB;refine⟨e,n,?_⟩;cases e with
  |true=>
   exact ML ⟨B,O,δ1,d,δ',c.sta,q,λi H2 R2=>k i H2 ⟨R2.sta,c.frm.trans R2.frm,λz=>by obtain⟨h,g⟩:=(Ad _ _).mp z;exact(c.pur h).trans (R2.pur g),R2.rep⟩⟩
  |false=>
   cases q;exact MK (k _ H1 ⟨c.sta,c.frm,λz=>c.pur ((Ad _ _).mp z).1,.bl _⟩)
 |_=>cases q
def fIf(t:VB)(x y:VF):VF:=λδ=>(t δ).bind λp=>if p.1=ba then x p.2 else y p.2
def MA{t:VB}(m:PT X c (TB K ml pc t))(o:PE X a (TV K ml pa ta ia fa))(n:PE X b (TV K ml pb tb ib fb)):PE X (.IfExp c a b pos) (TV K ml (pc&&pa&&pb) (ta&&tb) (ia&&ib) (fIf t fa fb)):=(HH m o n).imp λσ H Q g=>by
 obtain⟨B,O,δ,d,δ',S,q,k⟩:=g;unfold fIf at q;obtain⟨⟨i,δ1⟩,h1,q⟩:=Aa.mp q;refine⟨B,O,δ,i,δ1,S,h1,λH1 e=>?_⟩;have l:∀c,((ta&&tb)=ba->c=ba)->∀a,at_ B O (ta&&tb) a->at_ B O c a:=λc h=>gF h;have j:∀c,((ia&&ib)=ba->c=ba)->∀a,av B O (ia&&ib) a->av B O c a:=λc h=>OB h;cases i with
 |true=>
  exact ML ⟨B,O,δ1,d,δ',e.sta,q,λf H2 R2=>k f H2 ⟨R2.sta,e.frm.trans R2.frm,λz=>by simp only[Ad]at z;exact(e.pur z.1.1).trans (R2.pur z.1.2),R2.rep.mono (j _ λz=>((Ad _ _).mp z).1) (l _ λz=>((Ad _ _).mp z).1)⟩⟩
 |false=>
  exact MK ⟨B,O,δ1,d,δ',e.sta,q,λf H2 R2=>k f H2 ⟨R2.sta,e.frm.trans R2.frm,λz=>by simp only[Ad]at z;exact(e.pur z.1.1).trans (R2.pur z.2),R2.rep.mono (j _ λz=>((Ad _ _).mp z).2) (l _ λz=>((Ad _ _).mp z).2)⟩⟩
noncomputable def f3(o o':cU->cU->Option cU)(fa fb fc:VF):VF:=λδ=>(fa δ).bind λp=>(fb p.2).bind λq=>(o p.1 q.1).bind λz=>match z with
 |.bl ba=>(fc q.2).bind λs=>(o' q.1 s.1).map λu=>(u,s.2)
 |.bl bb=>b3 (.bl bb,q.2)
 |_=>b4
def IH(A:QI K r o)(l:QI K r' o')(w:(pb || (ta&&ia))=ba)(j:(pc || (tb&&ib))=ba){Q:VK}(h:TV K ml (pa&&pb&&pc) ba ba (f3 o o' fa fb fc) σ H Q):FZ r r' (TV K ml pa ta ia fa) (TV K ml pb tb ib fb) (TV K ml pc tc ic fc) σ H Q:=by
 obtain⟨B,O,δ,d,b,S,q,k⟩:=h;unfold f3 at q;obtain⟨⟨x,δ1⟩,h1,q⟩:=Aa.mp q;cases h2:fb δ1 with
 |none=>simp[h2]at q
 |some p2=>
  obtain⟨y,δ2⟩:=p2;simp only[Ai,h2]at q;refine⟨B,O,δ,x,δ1,S,h1,λt H1 a=>⟨B,O,δ1,y,δ2,a.sta,h2,λm H2 R2=>?_⟩⟩;obtain⟨z,E,q⟩:=Aa.mp q;refine A H2 _ _ _ _ t m x y z _ (R2.live w a.rep) R2.rep E λv c=>?_;have c:=c (λ_=>b4) (λ_=>True) λ_=>True;cases z with
  |bl i=>
   have F:v=.bl i:=c.onB;refine⟨i,F,?_⟩;cases i with
   |false=>
    cases q;exact MK (k _ H2 ⟨R2.sta,a.frm.trans R2.frm,λz=>by simp only[Ad]at z;exact(a.pur z.1.1).trans (R2.pur z.1.2),.bl _⟩)
   |true=>
    have q:((fc δ2).bind λs=>(o' y s.1).map λu=>(u,s.2))=b3 (d,b):=q;obtain⟨⟨g,f⟩,D,q⟩:=Aa.mp q;have q:((o' y g).map λu=>(u,f))=b3 (d,b):=q;obtain⟨u,C,q⟩:=Ap.mp q;cases q;refine ML ⟨B,O,δ2,g,_,R2.sta,D,λp n e=>?_⟩;exact l n _ _ _ _ m p y g d Q (e.live j R2.rep) e.rep C λv c=>k v n ⟨e.sta,(a.frm.trans R2.frm).trans e.frm,λz=>by simp only[Ad]at z;exact((a.pur z.1.1).trans (R2.pur z.1.2)).trans (e.pur z.2),c _ _ _⟩
  |_=>cases q
def nY{op d:CmpOp}(k:W7 X (Ct op) r)(g:W7 X (Ct d) r')(i:QI K r o)(e:QI K r' o')(n:PE X a (TV K ml pa ta ia fa))(m:PE X b (TV K ml pb tb ib fb))(hc:PE X c (TV K ml pc tc ic fc))(l:Rn [op,d] [b,c]=bb:=by with_unfolding_all rfl)(j:(pb || (ta&&ia))=ba:=by rfl)(f:(pc || (tb&&ib))=ba:=by rfl):PE X (.Compare a [op,d] [b,c] pos) (TV K ml (pa&&pb&&pc) ba ba (f3 o o' fa fb fc)):=
 (oV k g n m hc l).imp λ_ _ _ h=>IH i e j f h
def IM{op d:CmpOp}(k:W7 X (Ct op) r)(g:W7 X (Ct d) r')(i:QI K r o)(e:QI K r' o')(n:PE X a (TV K ml pa ta ia fa))(m:PE X b (TV K ml pb tb ib fb))(hc:PE X c (TV K ml pc tc ic fc))(l:Rn [op,d] [b,c]=bb:=by with_unfolding_all rfl)(j:(pb || (ta&&ia))=ba:=by rfl)(f:(pc || (tb&&ib))=ba:=by rfl):PT X (.Compare a [op,d] [b,c] pos) (TB K ml (pa&&pb&&pc) (fB (f3 o o' fa fb fc))):=
 (gX k g n m hc l).imp λ_ _ _ h=>J8 (λ_ _ _=>IH i e j f) h
end
section
variable{X:Cx}{K:Ah}{ml:List Nat}{e a b c:Us}{es:List Us}{pa ta ia pb tb ib pc tc ic pu bt bi ps bs:Bool}{fa fb fc:VF}{B:Bs}{O:Nat->Option Ul}{H H1 H':Hp}{σ:St}{δ δ':Ev}{v:V}{d:cU}{p:Ul}{pos:Pos}
noncomputable def f1(o:cU->Option cU)(fa:VF):VF:=λδ=>(fa δ).bind λp=>(o p.1).map λc=>(c,p.2)
def M4{o:cU->Option cU}(h:f1 o fa δ=b3 (d,δ')):∃x,fa δ=b3 (x,δ')/\o x=b3 d:=by
 unfold f1 at h;cases h1:fa δ with
 |none=>rw[h1]at h;cases h
 |some p=>
  rw[h1]at h;have h:((o p.1).map λc=>(c,p.2))=b3 (d,δ'):=h;obtain⟨c,a,h⟩:=Ap.mp h;cases h;exact⟨p.1,rfl,a⟩
abbrev RC:=List V->Hp->VK->Prop
def CalS(K:Ah)(r:RC)(o:cU->Option cU):Prop:=∀(H:Hp) (N M:Ul->Prop) (x:V) (d c:cU) (Q:VK),bO K N H M x d->o d=b3 c->(∀v,(∀H' N M,bO K N H' M v c)->Q v H)->r [x] H Q
def CalC(K:Ah)(r:RC)(o:cU->Option cU):Prop:=∀(H:Hp) (N M:Ul->Prop) (x:V) (d c:cU) (Q:VK),bO K N H M x d->o d=b3 c->
 (∀v H',bA H H'->(∀M,(∀a,M a->∃o,H a=b3 o)->bO K N H' M v c)->Q v H')->r [x] H Q
def CalN(K:Ah)(r:RC)(o:cU->Option cU):Prop:=∀(H:Hp) (N M:Ul->Prop) (x:V) (d c:cU) (Q:VK),bO K N H M x d->o d=b3 c->
 (∀p xs ds,H p=b4->b9 K N H xs ds->c=.lst ds->Q (.ref p) (upd H p (.lst xs)))->r [x] H Q
def MQ(K:Ah)(r:RC)(o:cU->cU->Option cU):Prop:=∀(H:Hp) (N N' M M':Ul->Prop) (x y:V) (d e c:cU) (Q:VK),bO K N H M x d->bO K N' H M' y e->o d e=b3 c->(∀v,(∀H' N M,bO K N H' M v c)->Q v H)->r [x,y] H Q
def CA{r:RC}{o:cU->Option cU}(e:CalS K r o){Q:VK}(h:TV K ml pa ba ba (f1 o fa) σ H Q):tCB r (LY (TV K ml pa ta ia fa) tNil) σ H Q:=by obtain⟨B,O,δ,d,δ',S,q,k⟩:=h;obtain⟨x,h1,h2⟩:=M4 q;exact⟨B,O,δ,x,δ',S,h1,λb H1 a=>e H1 _ _ b x d Q a.rep h2 λv c=>k v H1 ⟨a.sta,a.frm,a.pur,c _ _ _⟩⟩
def B9{r:RC}{o:cU->Option cU}(g:CalC K r o){Q:VK}(h:TV K ml pa ba ia (f1 o fa) σ H Q):tCB r (LY (TV K ml pa ta ia fa) tNil) σ H Q:=by obtain⟨B,O,δ,d,δ',S,q,k⟩:=h;obtain⟨x,h1,h2⟩:=M4 q;exact⟨B,O,δ,x,δ',S,h1,λe H1 b=>g H1 _ _ e x d Q b.rep h2 λv H2 c f=>k v H2 ⟨b.sta.same c,b.frm.trans c.fr,λz=>(b.pur z).trans c,f _ λa z=>b.sta.nin z⟩⟩
def L6{r:RC}{o:cU->Option cU}(f:CalN K r o){Q:VK}(h:TN K ml pa (f1 o fa) σ H Q):tCB r (LY (TV K ml pa ta ba fa) tNil) σ H Q:=by obtain⟨B,O,δ,d,δ',S,q,k⟩:=h;obtain⟨x,h1,h2⟩:=M4 q;refine⟨B,O,δ,x,δ',S,h1,λb H1 a=>f H1 _ _ b x d Q a.rep h2 λp xs ds e c g=>?_⟩;subst g;exact k p _ (mkN a.sta a.frm a.pur e c)
def CB{r:RC}{o:cU->cU->Option cU}(j:MQ K r o)(i:(pb || (ta&&ia))=ba){Q:VK}(h:TV K ml (pa&&pb) ba ba (f2 o fa fb) σ H Q):tCB r (LY (TV K ml pa ta ia fa) (LY (TV K ml pb tb ib fb) tNil)) σ H Q:=by
 obtain⟨B,O,δ,d,δ2,S,q,k⟩:=h;obtain⟨x,δ1,y,h1,h2,l⟩:=RP q;refine⟨B,O,δ,x,δ1,S,h1,λf H1 a=>⟨B,O,δ1,y,δ2,a.sta,h2,λe H2 R2=>?_⟩⟩;exact j H2 _ _ _ _ f e x y d Q (R2.live i a.rep) R2.rep l λv g=>k v H2 ⟨R2.sta,a.frm.trans R2.frm,λz=>by obtain⟨c,b⟩:=(Ad _ _).mp z;exact(a.pur c).trans (R2.pur b),g _ _ _⟩
section
variable{x:Uq}{p':Pos}{id T:String}{r:RC}
def Vl{o:cU->Option cU}(hc:Z6 X (.builtin id) r)(e:CalS K r o)(i:Gl X x)(g:X.mg x=b4)(d:Bm x=b3 (.builtin id))(j:PE X a (TV K ml pa ta ia fa))(f:x≠ "__name__":=by decide)(b:ND x:=by decide)(c:SE X a []:=by rfl):PE X (.Call (.Name x p') [a] [] pos) (TV K ml pa ba ba (f1 o fa)):=
 (NM hc i g d (bW j Z9 c) f b c).imp λ_ _ _ h=>CA e h
def X1{o:cU->cU->Option cU}(hc:Z6 X (.builtin id) r)(j:MQ K r o)(m:Gl X x)(l:X.mg x=b4)(g:Bm x=b3 (.builtin id))(p:PE X a (TV K ml pa ta ia fa))(n:PE X b (TV K ml pb tb ib fb))(k:x≠ "__name__":=by decide)(e:ND x:=by decide)(f:SE X a [b]:=by rfl)(d:SE X b []:=by rfl)(c:(Fb pos (Um [b] X.env)).any (·.1)=bb:=by rfl)(i:(pb || (ta&&ia))=ba:=by rfl):PE X (.Call (.Name x p') [a,b] [] pos) (TV K ml (pa&&pb) ba ba (f2 o fa fb)):=
 (NM hc m l g (bW p (bW n Z9 d) f) k e f c).imp λ_ _ _ h=>CB j i h
def L9{o:cU->Option cU}(hc:Z6 X (.type T) r)(e:CalC K r o)(i:Gl X x)(g:X.mg x=b4)(d:Bm x=b3 (.type T))(j:PE X a (TV K ml pa ta ia fa))(f:x≠ "__name__":=by decide)(b:ND x:=by decide)(c:SE X a []:=by rfl):PE X (.Call (.Name x p') [a] [] pos) (TV K ml pa ba ia (f1 o fa)):=
 (V5 hc i g d (bW j Z9 c) f b c).imp λ_ _ _ h=>B9 e h
def Yl{o:cU->Option cU}(hc:Z6 X (.type T) r)(e:CalN K r o)(i:Gl X x)(g:X.mg x=b4)(d:Bm x=b3 (.type T))(j:PE X a (TV K ml pa ta ba fa))(f:x≠ "__name__":=by decide)(b:ND x:=by decide)(c:SE X a []:=by rfl):PE X (.Call (.Name x p') [a] [] pos) (TN K ml pa (f1 o fa)):=
 (V5 hc i g d (bW j Z9 c) f b c).imp λ_ _ _ h=>L6 e h
def gL{o:cU->Option cU}(hc:Z6 X (.builtin id) r)(e:CalN K r o)(i:Gl X x)(g:X.mg x=b4)(d:Bm x=b3 (.builtin id))(j:PE X a (TV K ml pa ta ba fa))(f:x≠ "__name__":=by decide)(b:ND x:=by decide)(c:SE X a []:=by rfl):PE X (.Call (.Name x p') [a] [] pos) (TN K ml pa (f1 o fa)):=
 (NM hc i g d (bW j Z9 c) f b c).imp λ_ _ _ h=>L6 e h
end
noncomputable def Y1:cU->Option cU
 |.tup ds=>b3 (.int ds.length)
 |.lst ds=>b3 (.int ds.length)
 |.str z=>if z.length<=16777216 then b3 (.int z.length)else b4
 |_=>b4
def rLen(K:Ah):RC:=λxs H Q=>(∃p ys,xs=[.ref p]/\(X2 K H p ys∨WL K H p ys)/\Q (.int ys.length) H)∨∃z,xs=[.str z]/\z.length<=sizeLine/\Q (.int z.length) H
def Zi(h:X.K=K:=by rfl):Z6 X (.builtin "len") (rLen K):=by subst h;exact JA.or JB
def dJ:CalS K (rLen K) Y1:=by
  intro H N M x d c Q b h k;cases d<;>first
    | (rename_i ds
       obtain⟨a,xs,rfl,sq,r⟩:=b.seq rfl;cases h;refine .inl ⟨a,xs,rfl,sq,?_⟩;rw[r.length];exact k _ λ_ _ _=>.int _)
    | (cases b.onS
       simp only[Y1]at h;split at h
       · cases h
         exact .inr ⟨_,rfl,by rw[Cf];assumption,k _ λ_ _ _=>.int _⟩
       · cases h)
    |cases h
def HA(d:cU):Option cU:=(XB d).map cU.lst
def VD(d:cU):Option cU:=(XB d).map cU.tup
def Wp(K:Ah):RC:=λxs H Q=>∃p ys,xs=[.ref p]/\(X2 K H p ys∨WL K H p ys)/\∀l,H l=b4->Q (.ref l) (upd H l (.lst ys))
def DU(K:Ah):RC:=λxs H Q=>∃p ys,xs=[.ref p]/\((X2 K H p ys/\∀l,H l=b4->Q (.ref l) (upd H l (.tup ys)))∨(WL K H p ys/\Q (.ref p) H))
def Wv(h:X.K=K:=by rfl):Z6 X (.type "list") (Wp K):=oR h
def TL(h:X.K=K:=by rfl):Z6 X (.type "tuple") (DU K):=jX h
def HX{d:cU}{g:List cU->cU}{c:cU}(h:(XB d).map g=b3 c):∃ds,XB d=b3 ds/\c=g ds:=by
 cases h1:XB d with
 |none=>rw[h1]at h;cases h
 |some ds=>rw[h1]at h;cases h;exact⟨ds,rfl,rfl⟩
def R9:CalN K (Wp K) HA:=by intro H N M x d c Q b h k;obtain⟨ds,h1,rfl⟩:=HX h;obtain⟨a,xs,rfl,sq,r⟩:=b.seq h1;exact⟨a,xs,rfl,sq,λl hl=>k l xs ds hl r rfl⟩
def TF:CalC K (DU K) VD:=by
 intro H N M x d c Q b h k;obtain⟨ds,h1,rfl⟩:=HX h;obtain⟨a,xs,rfl,sq,r⟩:=b.seq h1;rcases sq with sq|sq
 ·exact⟨a,xs,rfl,.inl ⟨sq,λl hl=>k _ _ (cP hl) λM e=>.tup (WL.of cA) (r.same (cP hl))⟩⟩
 ·exact⟨a,xs,rfl,.inr ⟨sq,k _ _ (bA.refl _) λM e=>.tup sq r⟩⟩
noncomputable def o2I(g:Int->Int->Int):cU->cU->Option cU
 |.int i,.int j=>b3 (.int (g i j))
 |_,_=>b4
def Yy{g:Int->Int->Int}:MQ K (λxs H Q=>∃i j,xs=[.int i,.int j]/\Q (.int (g i j)) H) (o2I g):=by
 intro H N N' M M' x y d e c Q b a h k;unfold o2I at h;split at h
 ·cases h
  cases b.onI;cases a.onI;exact⟨_,_,rfl,k _ λ_ _ _=>.int _⟩
 ·cases h
abbrev oMax:=o2I λi j=>if j>i then j else i
abbrev oMin:=o2I λi j=>if j<i then j else i
def lN:MQ K (λxs H Q=>∃i j,xs=[.int i,.int j]/\Q (.int (if j>i then j else i)) H) oMax:=Yy
def pB:MQ K (λxs H Q=>∃i j,xs=[.int i,.int j]/\Q (.int (if j<i then j else i)) H) oMin:=Yy
noncomputable def tyD:cU->Option String
 |.non=>b3 "NoneType"
 |.bl _=>b3 "bool"
 |.int _=>b3 "int"
 |.str _=>b3 "str"
 |.tup _=>b3 "tuple"
 |.lst _=>b3 "list"
 |_=>b4
noncomputable def P2(t n:String):Option Bool:=if((Kt t)==(Kt n))=ba then b3 ba else if W.kitMeta n=ba then(PySem.fastBuiltinMro t).map (·.contains (.type n))else b4
def pT{t n:String}{k:Bool}(h:P2 t n=b3 k):Hd K (.type t) (.type n)=b3 k:=h
def SU:cU->cU->Option cU
 |d,.ty n=>(tyD d).bind λt=>(P2 t n).map cU.bl
 |_,_=>b4
def rIsi(K:Ah):RC:=λxs H Q=>∃x n d N M t k,xs=[x,.ty n]/\bO K N H M x d/\tyD d=b3 t/\P2 t n=b3 k/\Q (.bl k) H
def AB:Z6 X (.builtin "isinstance") (rIsi X.K):=by
 intro aa s σ H xs l Q I r h;obtain⟨x,n,d,N,M,t,k,rfl,j,b,hk,q⟩:=h;obtain⟨u,c,rfl,f,g⟩:=IJ r;cases (show c=Kt n from g);have e:=pT (K:=X.K) hk;have a:∀tk,EP X aa σ Q (.bool k) {s with toks:=tk}:=λtk=>⟨.bl k,H,I.tok tk,rfl,q⟩;cases j with
 |non=>cases b;exact TK I f (.non) e a
 |bl y=>cases b;exact TK I f (.bl y) e a
 |int i=>cases b;exact TK I f (.int i) e a
 |str y=>cases b;exact TK I f (.str y) e a
 |ty n=>cases b
 |fn _=>cases b
 |dct _ _ _=>cases b
 |nst _ _ _=>cases b
 |ktb _ _=>cases b
 |exn _ _ _=>cases b
 |exr _ _ _ _ _=>cases b
 |tup q _=>
  cases b;cases f;obtain⟨its,_,⟨o,h1,h2,_⟩,_⟩:=I.tuple q;exact Fl W.kitx_tuple I.kIn ⟨o,h1,h2⟩ e (λz=>nomatch z) a
 |lst q _ _=>
  cases b;cases f;obtain⟨its,_,⟨o,n,h1,h2,_⟩,_⟩:=I.list (X2.of q);exact Fl Np I.kIn ⟨o,h1,h2⟩ e (λz=>nomatch z) a
 |fzm q _=>
  cases b;cases f;obtain⟨its,_,⟨o,n,h1,h2,_⟩,_⟩:=I.list q.sq;exact Fl Np I.kIn ⟨o,h1,h2⟩ e (λz=>nomatch z) a
def kIsi(h:X.K=K:=by rfl):Z6 X (.builtin "isinstance") (rIsi K):=by subst h;exact AB
def kJ:MQ K (rIsi K) SU:=by
  intro H N N' M M' x y d e c Q f b h k;cases b<;>first
    | (simp only [SU]at h
       cases h1:tyD d with
       |none=>rw[h1]at h;cases h
       |some t=>
         rw[h1]at h;rename_i n;have h:(P2 t n).map cU.bl=b3 c:=h;obtain⟨a,h2,h⟩:=Ap.mp h;cases h;exact⟨x,n,d,N,M,t,a,rfl,f,h1,h2,k _ λ_ _ _=>.bl _⟩)
    |cases h
def JS:cU->Option cU
 |.int i=>b3 (.int (-i))
 |_=>b4
def UR(f:PE X a (TV K ml pa ta ia fa)):PE X (.UnaryOp .USub a pos) (TV K ml pa ba ba (f1 JS fa)):=(eZ iO f).imp λσ H Q c=>by
 obtain⟨B,O,δ,d,δ',S,q,k⟩:=c;obtain⟨x,h1,h2⟩:=M4 q;refine⟨B,O,δ,x,δ',S,h1,λe H1 b=>?_⟩;cases x with
 |int i=>
  cases h2;have g:e=.int i:=b.rep.onI;exact⟨i,g,k _ H1 ⟨b.sta,b.frm,b.pur,.int _⟩⟩
 |_=>cases h2
abbrev VP:=Ev->Option (Option Int×Ev)
inductive TPOi(K:Ah)(ml:List Nat)(pu:Bool)(f:VP)(σ:St)(H:Hp)(Q:Option Int->Hp->Prop):Prop
 |mk (B:_) (O:_) (δ:_) (k:_) (δ':_) (h0:aU K ml B O H σ δ) (h1:f δ=b3 (k,δ')) (h2:∀H',ResB K ml B O H σ pu H' δ'->Q k H'):TPOi K ml pu f σ H Q
def TPO(K:Ah)(ml:List Nat)(pu:Bool)(f:VP):TO:=λσ H Q=>TPOi K ml pu f σ H Q
def pNo:VP:=λδ=>b3 (b4,δ)
noncomputable def DJ(f:VF):VP:=λδ=>(f δ).bind λp=>match p.1 with
 |.int i=>b3 (b3 i,p.2)
 |_=>b4
def PO.imp{e:Option Us}{t u:TO}(h:PO X e t)(k:∀σ H Q,u σ H Q->t σ H Q):PO X e u:=λaa s σ H Q I w=>h aa s σ H Q I (k σ H Q w)
def RD:PO X b4 (TPO K ml ba pNo):=zEC.imp λσ H Q a=>by obtain⟨B,O,δ,d,δ',S,q,k⟩:=a;cases q;exact k H (ResB.refl S)
def RE(h:PE X a (TV K ml pa ta ia fa)):PO X (b3 a) (TPO K ml pa (DJ fa)):=(pD h).imp λσ H Q c=>by
 obtain⟨B,O,δ,d,δ',S,q,k⟩:=c;unfold DJ at q;obtain⟨⟨x,δ1⟩,h1,q⟩:=Aa.mp q;refine⟨B,O,δ,x,δ1,S,h1,λe H1 b=>?_⟩;cases x with
 |int i=>
  have f:e=.int i:=b.rep.onI;cases q;exact⟨i,f,k H1 ⟨b.sta,b.frm,b.pur⟩⟩
 |_=>cases q
def V0(ds:List cU)(lo hi:Option Int):List cU:=(ds.drop (HT.sIx ds.length 0 lo)).take (HT.sIx ds.length ds.length hi-HT.sIx ds.length 0 lo)
def OG{N:Ul->Prop}{xs:List V}{ds:List cU}(r:b9 K N H xs ds)(lo hi:Option Int):b9 K N H (GH xs lo hi) (V0 ds lo hi):=by unfold GH V0;rw[r.length];exact(r.drop _).take _
noncomputable def oSl(d:cU)(lo hi:Option Int):Option cU:=match d with
 |.lst ds=>b3 (.lst (V0 ds lo hi))
 |.tup ds=>b3 (.tup (V0 ds lo hi))
 |_=>b4
def CW(fa:VF)(a b:VP):VF:=λδ=>(fa δ).bind λp=>(a p.2).bind λl=>(b l.2).bind λu=>(oSl p.1 l.1 u.1).map λc=>(c,u.2)
def B6{prog:Av}{w:Uu}{A:Cc}{E:Uk->Af->Prop}{s:Af}{t b:Ul}{items:Array Uk}{f e:Uk}{lo hi:Option Int}{Q:Uk->Af->Prop}(a:IsTup s.heap t items)(g:s.heap.IsSliceOf b f e .none)(i:IsPart f lo)(pu:IsPart e hi)(h1:HT.sIx items.size 0 lo=0)(h2:HT.sIx items.size items.size hi=items.size)(h:Q (.ref t) s):Uo (Ur prog w) A (Le (.ref t) (.ref b)) Q E s:=by
 obtain⟨os,c,d,j⟩:=id g;have k:s.TypeIs (.ref b) "slice":=⟨os,c,d⟩;unfold Le;try with_reducible refine Bt ?_
 first|refine Ac (Aj ?_)|skip
 refine Ac (Ig a.typeIs (by decide) ?_);refine Ac (Cw (name:=Be "__getitem__") a.typeIs Ex
  (Et Ex a.typeIs PyProof.Rows.entry_tuple_getitem ?_ (PyProof.Rows.args_tuple_getitem _ _)))
 show Uo _ _ (Kf (.ref t)>>=_) _ _ s;refine Ac (PyProof.Rows.tupleItemsOf_ a ?_);refine Ac (Kl k ?_);rw[if_pos (by decide)];refine Ac (HT.V7 g i pu ?_);rw[h1,h2];show Uo _ _ (if((((0:Nat):Int)==0&&(1:Int)==1&&(items.size-0)==items.size)=ba)then _ else _) _ _ s;rw[if_pos (by simp)];refine Ac (m:=Sc _) (Ac (Kl a.typeIs (Aj ?_)));rw[if_pos (by decide)];exact Ac (Ib (Aj ⟨_,rfl,Aj h⟩))
def rSlW(K:Ah):V->Option Int->Option Int->Hp->VK->Prop:=λx lo hi H Q=>∃a xs,x=.ref a/\WL K H a xs/\(HT.sIx xs.length 0 lo=0/\HT.sIx xs.length xs.length hi=xs.length)/\Q (.ref a) H
def iM:SlR X (rSlW X.K):=by
 intro aa s σ H x v j i lo hi k Q I d g e pu h;obtain⟨a,xs,rfl,f,hw,q⟩:=h;cases d;obtain⟨its,r,b,hz⟩:=I.tuple f;have c:its.toArray.size=xs.length:=by rw[Ak];exact r.length.symm
 refine⟨"tuple",_,PyProof.Rows.slot_tuple_getitem.lookup,b.typeIs,?_⟩;exact B6 b g e pu (by rw[c];exact hw.1) (by rw[c];exact hw.2) ⟨.ref a,H,I,rfl,q⟩
def rSl(K:Ah):V->Option Int->Option Int->Hp->VK->Prop:=λx lo hi H Q=>(rSlT K x lo hi H Q∨rSlL K x lo hi H Q)∨rSlW K x lo hi H Q
def kSl(h:X.K=K:=by rfl):SlR X (rSl K):=by subst h;exact(zHF.or r6).or iM
def lC{b e:VP}(h:CW fa b e δ=b3 (d,δ')):∃x δ1 l δ2 u,fa δ=b3 (x,δ1)/\b δ1=b3 (l,δ2)/\e δ2=b3 (u,δ')/\oSl x l u=b3 d:=by
 unfold CW at h;cases h1:fa δ with
 |none=>rw[h1]at h;cases h
 |some p=>
  rw[h1]at h;cases h2:b p.2 with
  |none=>simp[h2]at h
  |some q=>
   simp only[Ai,h2]at h;cases a:e q.2 with
   |none=>simp[a]at h
   |some s=>
    simp only[Ai,a]at h;obtain⟨c,f,h⟩:=Ap.mp h;cases h;exact⟨p.1,p.2,q.1,q.2,s.1,rfl,h2,a,f⟩
def RB{lo hi:Option Us}{p2:Pos}{v w:VP}(F:X.K=K)(E:PE X a (TV K ml pa ta ia fa))(hl:PO X lo (TPO K ml pb v))(D:PO X hi (TPO K ml pc w))(C:(pb&&pc || (ta&&ia))=ba:=by rfl):
  PE X (.Subscript a (.Slice lo hi b4 p2) pos) (TV K ml (pa&&pb&&pc) ba ia (CW fa v w)):=(gK (kSl F) E hl D).imp λσ H Q s=>by
 obtain⟨B,O,δ,d,i,S,q,k⟩:=s;obtain⟨x,δ1,l,δ2,u,h1,h2,G,t⟩:=lC q;refine⟨B,O,δ,x,δ1,S,h1,λA H1 h=>⟨B,O,δ1,l,δ2,h.sta,h2,λH2 R2=>⟨B,O,δ2,u,i,R2.sta,G,λy c=>?_⟩⟩⟩;have o:bO K (av B O ia) y (at_ B O ta) A x:=by
  rcases(Hu _ _).mp C with z|z
  ·obtain⟨m,j⟩:=(Ad _ _).mp z
   exact(h.rep.same (R2.pur m)).same (c.pur j)
  ·obtain⟨m,j⟩:=(Ad _ _).mp z
   subst m j;exact(h.rep.fr R2.frm (λa z=>.inr z) λa z=>.inr z).fr c.frm (λa z=>.inr z) λa z=>.inr z
 have g:(pa&&pb&&pc)=ba->bA H y:=λz=>by simp only[Ad]at z;exact((h.pur z.1.1).trans (R2.pur z.1.2)).trans (c.pur z.2)
 have f:=(h.frm.trans R2.frm).trans c.frm;cases x with
 |lst ds=>
  cases t;obtain⟨a,xs,rfl,sq,r⟩:=o.seq rfl;rcases sq with sq|sq
  ·exact .inl (.inr ⟨a,xs,rfl,sq,λp b=>k _ _ ⟨c.sta.same (cP b),f.trans (cP b).fr,λz=>(g z).trans (cP b),.lst cA (c.sta.new b) ((OG r l u).same (cP b))⟩⟩)
  ·cases o.onL with
   |lst q n r'=>exact .inl (.inr ⟨a,_,rfl,X2.of q,λp b=>k _ _ ⟨c.sta.same (cP b),f.trans (cP b).fr,λz=>(g z).trans (cP b),.lst cA (c.sta.new b) ((OG r' l u).same (cP b))⟩⟩)
   |fzm q r'=>exact .inl (.inr ⟨a,_,rfl,q.sq,λp b=>k _ _ ⟨c.sta.same (cP b),f.trans (cP b).fr,λz=>(g z).trans (cP b),.lst cA (c.sta.new b) ((OG r' l u).same (cP b))⟩⟩)
 |tup ds=>
  cases t;cases o.onT with
  |tup q r'=>
   by_cases hw:HT.sIx ds.length 0 l=0/\HT.sIx ds.length ds.length u=ds.length
   ·refine .inr ⟨_,_,rfl,q,by rw [r'.length];exact hw,k _ _ ⟨c.sta,f,g,?_⟩⟩
    have e:V0 ds l u=ds:=by unfold V0;rw[hw.1,hw.2];simp
    rw[e];exact .tup q r'
   ·exact .inl (.inl ⟨_,_,rfl,q,by rw[r'.length];exact hw,λp b=>k _ _ ⟨c.sta.same (cP b),f.trans (cP b).fr,λz=>(g z).trans (cP b),.tup (WL.of cA) ((OG r' l u).same (cP b))⟩⟩)
 |_=>cases t
end
inductive Ou where
 |nx (δ:Ev)|rt (d:cU) (δ:Ev)|bk (δ:Ev)|ct (δ:Ev)
abbrev VS:=Ev->Option Ou
def Post(K:Ah)(ml:List Nat)(B:Bs)(D:MS):Ou->Prop
 |.nx δ'=>∀a H' b,aU K ml B b H' a δ'->D.nx a H'
 |.rt d δ'=>∀v a H' b,aU K ml B b H' a δ'->bO K (rz B) H' (rz B) v d->D.rt v H'
 |.bk δ'=>∀a H' b,aU K ml B b H' a δ'->D.bk a H'
 |.ct δ'=>∀a H' b,aU K ml B b H' a δ'->D.ct a H'
inductive TSti(K:Ah)(ml:List Nat)(g:VS)(D:MS)(σ:St)(H:Hp):Prop
 |mk (B:_) (O:_) (δ:_) (o:_) (h0:aU K ml B O H σ δ) (h1:g δ=b3 o) (h2:Post K ml B D o):TSti K ml g D σ H
def WH(K:Ah)(ml:List Nat)(g:VS):TS:=λD σ H=>TSti K ml g D σ H
section
variable{X:Cx}{K:Ah}{ml:List Nat}{e a b c:Us}{es:List Us}{pa ta ia pb tb ib pc tc ic pu bt bi ps bs:Bool}{fa fb fc f:VF}{B B':Bs}{O:Nat->Option Ul}{H H1 H':Hp}{σ:St}{δ δ':Ev}{v:V}{d:cU}{p:Ul}{pos:Pos}{st:Ux}{rest:List Ux}{g g':VS}
def Z5:VS:=λδ=>b3 (.nx δ)
def cD(g g':VS):VS:=λδ=>(g δ).bind λo=>match o with
 |.nx δ'=>g' δ'
 |o=>b3 o
def bY:WN X [] (WH K ml Z5):=DP.imp λD σ H a=>by obtain⟨B,O,δ,o,S,q,k⟩:=a;cases q;exact k σ H O S
def cS(h1:PS X st (WH K ml g))(h2:WN X rest (WH K ml g')):WN X (st::rest) (WH K ml (cD g g')):=(Q4 h1 h2).imp λD σ H a=>by
 obtain⟨B,O,δ,o,S,q,k⟩:=a;unfold cD at q;obtain⟨z,h1,q⟩:=Aa.mp q;refine⟨B,O,δ,z,S,h1,?_⟩;cases z with
 |nx δ1=>exact λb H' e c=>⟨B,e,δ1,o,c,q,k⟩
 |rt d δ1=>cases q;exact k
 |bk δ1=>cases q;exact k
 |ct δ1=>cases q;exact k
def cN(h1:PS X st (WH K ml g)):WN X [st] (WH K ml g):=(Q4 h1 DP).imp λD σ H ⟨B,O,δ,o,S,q,k⟩=>⟨B,O,δ,o,S,q,by cases o<;>exact k⟩
noncomputable def bI(f:VF):VS:=λδ=>(f δ).map λp=>.rt p.1 p.2
def cE(h:PE X e (TV K ml pu bt bi f))(b:bt=ba:=by rfl):PS X (.Return (b3 e) pos) (WH K ml (bI f)):=(FM h).imp λD σ H a=>by obtain⟨B,O,δ,o,S,q,k⟩:=a;unfold bI at q;obtain⟨p,h1,q⟩:=Ap.mp q;cases q;subst b;exact⟨B,O,δ,p.1,p.2,S,h1,λv H' R=>k v σ H' O R.sta (R.rep.mono R.sta.rza R.sta.rzn)⟩
def nC{i:Nat}(h:PE X e (V8 i))(b:i∉ml:=by decide):PS X (.Return (b3 e) pos) (WH K ml (bI (fO i))):=(FM h).imp λD σ H a=>by obtain⟨B,O,δ,o,S,q,k⟩:=a;unfold bI at q;obtain⟨⟨x,δ1⟩,h1,q⟩:=Ap.mp q;cases q;obtain⟨rfl,v,c,r⟩:=S.lone b h1;exact⟨v,c,k v σ H O S (r.mono S.rza S.rza)⟩
def XJ(t:VB)(g g':VS):VS:=λδ=>(t δ).bind λp=>if p.1=ba then g p.2 else g' p.2
def bC{x y:List Ux}{t:VB}(e:PT X c (TB K ml pc t))(h:WN X x (WH K ml g))(f:WN X y (WH K ml g')):PS X (.If c x y pos) (WH K ml (XJ t g g')):=(Wu e h f).imp λD σ H a=>by
 obtain⟨B,O,δ,o,S,q,k⟩:=a;unfold XJ at q;obtain⟨⟨b,δ1⟩,h1,q⟩:=Aa.mp q;refine⟨B,O,δ,b,δ1,S,h1,λH1 d=>?_⟩;cases b with
 |true=>exact ML ⟨B,O,δ1,o,d.sta,q,k⟩
 |false=>exact MK ⟨B,O,δ1,o,d.sta,q,k⟩
abbrev VX:=Ev->Option (Sl×Ev)
inductive St1(K:Ah)(B:Bs)(O:Nat->Option Ul)(H:Hp):Bs->V->Sl->Prop
 |va {v:V}{d:cU}:St1 K B O H {B with kp:=[(v,d)]++B.kp} v (.va d)
 |ol {p:Ul}{xs:List V}{ds:List cU}:H p=b3 (.lst xs)->xs.length=ds.length->¬Nn B O p->B.H0 p=b4->St1 K B O H {B.add p with kp:=xs.zip ds++B.kp} (.ref p) (.ow (.lst ds))
 |od {p:Ul}{kvs:List (aR×V)}{ds:List cU}:H p=b3 (.dK kvs)->kvs.length=ds.length->¬Nn B O p->B.H0 p=b4->St1 K B O H {B.add p with kp:=(kvs.map Es).zip ds++B.kp} (.ref p) (.ow (.dct (kvs.map Dh) ds))
 |of {p:Ul}{sh:List (Option Nat)}{vs:List V}{ds:List cU}:T0 H p sh vs->vs.length=ds.length->¬Nn B O p->B.H0 p=b4->St1 K B O H {B.add p with kp:=vs.zip ds++B.kp} (.ref p) (.ow (.nst sh ds))
def St1.fr{s:Sl}(h:St1 K B O H B' v s)(f:Fr (OA O) H H'):St1 K B O H' B' v s:=by
 cases h with
 |va=>exact .va
 |ol q l n z=>exact .ol (f _ _ q λw=>absurd (.inr w) n) l n z
 |od q l n z=>exact .od (f _ _ q λw=>absurd (.inr w) n) l n z
 |of q l n z=>exact .of (q.fr f λw=>n (.inr w)) l n z
inductive TXi(K:Ah)(ml:List Nat)(f:VX)(σ:St)(H:Hp)(Q:VK):Prop
 |mk (B:_) (O:_) (δ:_) (s:_) (δ':_) (h0:aU K ml B O H σ δ) (h1:f δ=b3 (s,δ')) (h2:∀v H' B',aU K ml B' O H' σ δ'->St1 K B O H' B' v s->Fr (OA O) H H'->Q v H'):TXi K ml f σ H Q
def TX(K:Ah)(ml:List Nat)(f:VX):TE:=λσ H Q=>TXi K ml f σ H Q
noncomputable def xV(f:VF):VX:=λδ=>(f δ).map λp=>(.va p.1,p.2)
noncomputable def xO(f:VF):VX:=λδ=>(f δ).map λp=>(.ow p.1,p.2)
def bB(h:PE X e (TV K ml pu ba ba f)):PE X e (TX K ml (xV f)):=h.imp λσ H Q a=>by
 obtain⟨B,O,δ,o,δ',S,q,k⟩:=a;unfold xV at q;obtain⟨p,h1,q⟩:=Ap.mp q;cases q;exact⟨B,O,δ,p.1,p.2,S,h1,λv H' R=>k v H' _ (R.sta.keepV (ps:=[(v,p.1)]) λz hz=>by rw[At.mp hz];exact R.rep) .va R.frm⟩
theorem W5{N:Ul->Prop}:∀{xs:List V}{ds:List cU},b9 K N H xs ds->∀z∈xs.zip ds,bO K N H N z.1 z.2
 |_,_,.nil,z,hz=>nomatch hz
 |_,_,.cons h t,z,hz=>by
  rcases Am.mp hz with e|e
  ·rw[e];exact h
  ·exact W5 t z e
theorem VL{N:Ul->Prop}:∀{xs:List V}{ds:List cU},xs.length=ds.length->(∀z∈xs.zip ds,bO K N H N z.1 z.2)->b9 K N H xs ds
 |[],[],_,_=>.nil
 |x::xs,d::ds,hl,h=>.cons (h (x,d) (Au ..)) (VL (by simpa using hl) λz hz=>h z (An _ hz))
def U3(h:PE X e (TN K ml pu f)):PE X e (TX K ml (xO f)):=h.imp λσ H Q a=>by
 obtain⟨B,O,δ,o,δ',S,q,k⟩:=a;unfold xO at q;cases h1:f δ with
 |none=>rw[h1]at q;cases q
 |some p=>
  obtain⟨d,δ1⟩:=p;rw[h1]at q;cases q;refine⟨B,O,δ,d,δ1,S,h1,λp H' R=>?_⟩;have w:=R.own;cases w with
  |lst q r=>exact k _ H' _ (R.sta.keepV (W5 r)) (.ol q r.length R.nz R.h0) R.frm
  |dct q r=>exact k _ H' _ (R.sta.keepV (W5 r)) (.od q (by simpa using r.length) R.nz R.h0) R.frm
  |nst q r=>exact k _ H' _ (R.sta.keepV (W5 r)) (.of q r.length R.nz R.h0) R.frm
def St1.bind{c:Nat->Option Ul}{s:Sl}{i:Nat}(h:St1 K B O H' B' v s)(S:aU K ml B' c H' σ δ)(a:i∉ml)(hl:i<δ.length):∃b,aU K ml B b H' (σ.set i (b3 v)) (δ.set i s):=by
 cases h with
 |va=>
  refine⟨_,aU.unkeep (ps:=_) (S.setVa a (S.kep _ (Bq _ (At.mpr rfl))))⟩
 |ol q l n z=>
  refine⟨_,aU.setOw (aU.unkeep (B:=B.add _) S) a hl (λw=>n (.inl w)) z (.lst q (VL l λz hz=>S.kep z (Bq _ hz)))⟩
 |od q l n z=>
  refine⟨_,aU.setOw (aU.unkeep (B:=B.add _) S) a hl (λw=>n (.inl w)) z (.dct q (VL (by simpa using l) λz hz=>S.kep z (Bq _ hz)))⟩
 |of q l n z=>
  refine⟨_,aU.setOw (aU.unkeep (B:=B.add _) S) a hl (λw=>n (.inl w)) z (.nst q (VL l λz hz=>S.kep z (Bq _ hz)))⟩
noncomputable def aV(i:Nat)(x:VX):VS:=λδ=>(x δ).bind λp=>if i<p.2.length then b3 (.nx (p.2.set i p.1))else b4
def bM{i:Nat}{y:Uq}{x:VX}{ai:Pos}(j:X.N.Nodup)(h:PE X e (TX K ml x))(hi:X.N[i]?=b3 y:=by rfl)(c:Loc X.env.scope y:=by first|exact .inl rfl|exact .inr rfl)(f:i∉ml:=by decide)(d:Hm e (b3 (.Name y ai)) pos.line X.env=pure bb:=by rfl)
  (g:LO X y:=by first|exact .inl rfl|exact .inr rfl|assumption):PS X (.Assign [.Name y ai] e pos) (WH K ml (aV i x)):=(mE j hi c h d g).imp λD σ H a=>by
 obtain⟨B,O,δ,o,S,q,k⟩:=a;unfold aV at q;obtain⟨⟨s,δ1⟩,h1,q⟩:=Aa.mp q;have q:(if i<δ1.length then b3 (Ou.nx (δ1.set i s))else b4)=b3 o:=q;split at q
 ·rename_i hl
  cases q;refine⟨B,O,δ,s,δ1,S,h1,λv H' B' l h' n=>?_⟩;obtain⟨m,b⟩:=h'.bind l f hl;exact k _ _ _ b
 ·cases q
noncomputable def PJ(i j:Nat)(x y:VX):VS:=λδ=>(x δ).bind λp=>(y p.2).bind λq=>if i<q.2.length/\j<q.2.length then b3 (.nx ((q.2.set j q.1).set i p.1))else b4
def OS{i j:Nat}{y z:Uq}{fx m:VX}{e d pt:Pos}{kt k2 pt2}(hc:X.calm=ba)(I:X.N.Nodup)(hi:X.N[i]?=b3 y)(C:X.N[j]?=b3 z)(c:i≠j)(x:X.env.scope.names.lookup y=b3 .local)(w:X.env.scope.names.lookup z=b3 .local)(G:PE X a (TX K ml fx))(F:PE X b (TX K ml m))(hw:Ez [.Tuple [.Name y e,.Name z d] kt pt] (.Tuple [a,b] k2 pt2) X.env=pure (b3 [y,z]))(h:i∉ml:=by decide)(g:j∉ml:=by decide)(A:Ey [.Tuple [.Name y e,.Name z d] kt pt] (.Tuple [a,b] k2 pt2) pos.line X.env=pure bb:=by rfl)(E:SE X a [b]:=by rfl)(l:SE X b []:=by rfl):
  PS X (.Assign [.Tuple [.Name y e,.Name z d] kt pt] (.Tuple [a,b] k2 pt2) pos) (WH K ml (PJ i j fx m)):=(jN hc I hi C c x w (bW G (bW F Z9 l) E) hw A).imp λD σ H f=>by
 obtain⟨B,O,δ,o,S,q,k⟩:=f;unfold PJ at q;obtain⟨⟨s,δ1⟩,h1,q⟩:=Aa.mp q;cases h2:m δ1 with
 |none=>simp[h2]at q
 |some p2=>
  obtain⟨u,δ2⟩:=p2;simp only[Ai,h2]at q;split at q
  ·rename_i hl
   cases q;refine⟨B,O,δ,s,δ1,S,h1,λv H1 P M r f1=>⟨P,O,δ1,u,δ2,M,h2,λt H2 T L p f2=>⟨v,t,rfl,?_⟩⟩⟩;obtain⟨R,J⟩:=p.bind L g hl.2;obtain⟨Q,n⟩:=(r.fr f2).bind J h (by rw[Cd];exact hl.1);rw[Fa _ _ (Di c)]at n;exact k _ _ _ n
  ·cases q
abbrev VG:=cU->Ev->Option Ev
inductive TGVi(K:Ah)(ml:List Nat)(h:VG)(v:V)(σ:St)(H:Hp)(Q:St->Hp->Prop):Prop
 |mk (B:_) (O:_) (δ:_) (d:_) (δ':_) (h0:aU K ml B O H σ δ) (h1:bO K (Nn B O) H (Nn B O) v d) (h2:h d δ=b3 δ') (h3:∀σ' O',aU K ml B O' H σ' δ'->(∀i∈ml,σ'[i]?=σ[i]?)->Q σ' H):TGVi K ml h v σ H Q
def TGV(K:Ah)(ml:List Nat)(h:VG):TG:=λv σ H Q=>TGVi K ml h v σ H Q
def PG.imp{t u:TG}(h:PG X e t)(k:∀v σ H Q,u v σ H Q->t v σ H Q):PG X e u:=λaa s σ H v w Q I r z=>h aa s σ H v w Q I r (k v σ H Q z)
def CL.imp{t u:TGs}(h:CL X es t)(k:∀v σ H Q,u v σ H Q->t v σ H Q):CL X es u:=λaa s σ H v w Q I r z=>h aa s σ H v w Q I r (k v σ H Q z)
def PG.or{t u:TG}(h:PG X e t)(h':PG X e u):PG X e (λv σ H Q=>t v σ H Q∨u v σ H Q):=λaa s σ H v w Q I r z=>by
 rcases z with z|z
 ·exact h aa s σ H v w Q I r z
 ·exact h' aa s σ H v w Q I r z
def gN(i:Nat):VG:=λd δ=>b3 (δ.set i (.va d))
def bN{i:Nat}{x:Uq}(g:X.N.Nodup)(hi:X.N[i]?=b3 x:=by rfl)(c:Loc X.env.scope x:=by first|exact .inl rfl|exact .inr rfl)(b:i∉ml:=by decide)(f:LO X x:=by first|exact .inl rfl|exact .inr rfl|assumption):PG X (.Name x pos) (TGV K ml (gN i)):=
 (Q2 g hi c f).imp λv σ H Q a=>by obtain⟨B,O,δ,d,δ',S,r,q,k⟩:=a;cases q;exact k _ _ (S.setVa b r) λj e=>Bz λ(z:i=j)=>b (z▸e)
abbrev VGs:=List cU->Ev->Option Ev
inductive Vx(K:Ah)(ml:List Nat)(h:VGs)(vs:List V)(σ:St)(H:Hp)(Q:St->Hp->Prop):Prop
 |mk (B:_) (O:_) (δ:_) (ds:_) (δ':_) (h0:aU K ml B O H σ δ) (h1:b9 K (Nn B O) H vs ds) (h2:h ds δ=b3 δ') (h3:∀σ' O',aU K ml B O' H σ' δ'->(∀i∈ml,σ'[i]?=σ[i]?)->Q σ' H):Vx K ml h vs σ H Q
def TGVs(K:Ah)(ml:List Nat)(h:VGs):TGs:=λvs σ H Q=>Vx K ml h vs σ H Q
def V1:VGs:=λds δ=>match ds with
 |[]=>b3 δ
 |_=>b4
def aD(g:VG)(a:VGs):VGs:=λds δ=>match ds with
 |d::r=>(g d δ).bind λδ1=>a r δ1
 |[]=>b4
def VR:CL X [] (TGVs K ml V1):=JX.imp λvs σ H Q a=>by
 obtain⟨B,O,δ,ds,δ',S,r,q,k⟩:=a;cases r with
 |nil=>cases q;exact⟨rfl,k _ _ S λ_ _=>rfl⟩
 |cons _ _=>cases q
def Z4{g:VG}{c:VGs}(h1:PG X e (TGV K ml g))(h2:CL X es (TGVs K ml c))(n:(Ut (e::es) X.env).map (·.2)=assign e X.env::(Ut es X.env).map (·.2):=by rfl):CL X (e::es) (TGVs K ml (aD g c)):=
 (V6 h1 h2 n).imp λvs σ H Q b => by
  obtain⟨B,O,δ,ds,δ',S,r,q,k⟩:=b;cases r with
  |nil=>cases q
  | @cons v vs d ds h t=>
   have q:((g d δ).bind λδ1=>c ds δ1)=b3 δ':=q;obtain⟨δ1,h1,q⟩:=Aa.mp q;have p:=S.keepV (W5 t);exact⟨v,vs,rfl,_,O,δ,d,δ1,p,h,h1,λj u f m=>⟨B,u,δ1,ds,δ',f.unkeep,VL t.length λz hz=>f.kep z (Bq _ hz),q,λa s o l=>k a s o λi hi=>(l i hi).trans (m i hi)⟩⟩
def EZ(n:Nat)(a:VGs):VG:=λd δ=>(XB d).bind λds=>if ds.length=n then a ds δ else b4
def SG{e:VGs}{k n:Nat}(j:X.K=K)(hc:X.calm=ba)(h:CL X es (TGVs K ml e))(i:(Ut es X.env).length=n:=by rfl)(b:(Ut es X.env).findIdx? (·.1)=b4:=by rfl):PG X (.Tuple es k pos) (TGV K ml (EZ n e)):=
 ((Wa (K := K) j hc h i b).or (gR (K := K) j hc h i b)).imp λv σ H Q g => by
  obtain⟨B,O,δ,d,δ',S,r,q,k⟩:=g;unfold EZ at q;obtain⟨ds,h1,q⟩:=Aa.mp q;have q:(if ds.length=n then e ds δ else b4)=b3 δ':=q;split at q
  ·rename_i hl
   obtain⟨a,xs,rfl,sq,f⟩:=r.seq h1;have c:TGVs K ml e xs σ H Q:=⟨B,O,δ,ds,δ',S,f,q,k⟩;rcases sq with sq|sq
   ·exact .inr ⟨a,xs,rfl,sq,f.length.trans hl,c⟩
   ·exact .inl ⟨a,xs,rfl,sq,f.length.trans hl,c⟩
  ·cases q
noncomputable def BW(f:VF)(g:VG):VS:=λδ=>(f δ).bind λp=>(g p.1 p.2).map Ou.nx
def Yd{tg:Us}{gg:VG}(h:PE X e (TV K ml pu ba ba f))(g:PG X tg (TGV K ml gg))(c:Ey [tg] e pos.line X.env=pure bb:=by rfl)(hw:Ez [tg] e X.env=pure b4:=by rfl)
  (h1:(Ut [tg] X.env).map (·.2)=[assign tg X.env]:=by rfl):PS X (.Assign [tg] e pos) (WH K ml (BW f gg)):=(QB h g c hw h1).imp λD σ H b=>by
 obtain⟨B,O,δ,o,S,q,k⟩:=b;unfold BW at q;obtain⟨⟨d,δ1⟩,h1,q⟩:=Aa.mp q;have q:(gg d δ1).map Ou.nx=b3 o:=q;obtain⟨δ2,h2,q⟩:=Ap.mp q;cases q;exact⟨B,O,δ,d,δ1,S,h1,λv H' R=>⟨B,O,δ1,d,δ2,R.sta,R.rep,h2,λa j i _=>k a H' j i⟩⟩
def MuV(K:Ah)(r:V->List V->Hp->VK->Prop)(m:List cU->List cU->Option (List cU)):Prop:=∀(H:Hp) (N:Ul->Prop) (l:Ul) (xs vs:List V) (ds es b:List cU) (Q:VK),
 H l=b3 (.lst xs)->N l->b9 K N H xs ds->b9 K N H vs es->m ds es=b3 b->(∀v a,b9 K N H a b->Q v (upd H l (.lst a)))->r (.ref l) vs H Q
noncomputable def OZ(δ:Ev)(i:Nat):Option (List cU):=match δ[i]? with
 |some (.ow (.lst ds))=>b3 ds
 |_=>b4
def WT(i:Nat)(m:List cU->List cU->Option (List cU))(fs:RJ):VS:=λδ=>(OZ δ i).bind λ_=>(fs δ).bind λp=>(OZ p.2 i).bind λds=>(m ds p.1).map λa=>.nx (p.2.set i (.ow (.lst a)))
def LK{i:Nat}{ds:List cU}(h:OZ δ i=b3 ds):δ[i]?=b3 (.ow (.lst ds)):=by
 unfold OZ at h;split at h
 ·cases h;assumption
 ·cases h
def HP{N:Ul->Prop}{l:Ul}{o:HO}{xs:List V}{ds ys:List cU}{zs:List V}(d:H l=b3 (.lst zs))(e:N l)(h:b9 K N H xs ds):b9 K N (upd H l o) xs ds:=
 h.fr (P:=λb=>b=l) (λb u q n=>by
  by_cases c:b=l
  ·subst c
   rw[d]at q;cases q;exact absurd (n rfl) λz=>z
  ·rw[bZ c]
   exact q) λa z=>z▸e
def ZQ{i:Nat}{x:Uq}{name:Uq}{ao ae c:Pos}{id:String}{r:V->List V->Hp->VK->Prop}{m:List cU->List cU->Option (List cU)}{fs:RJ}(slot:Slot "list" name id)(g:Qh (.builtin id)=pure (.type "method_descriptor"))(I:MtR X id r)(n:MuV K r m)(G:PE X (.Name x c) (V8 i))(J:PA X (e::es) (TAV K ml pu ba fs))(T:Gi (.Name x c) name X.env (eval (.Name x c) X.env)=eval (.Name x c) X.env:=by rfl)(Q:((Fb ae (Um (e::es) X.env)).all (λx=> !x.1)&&(Lg ae (Hg [] X.env)).all (λx=>x.1.isSome)&&decide ((e::es).length+([]:List Hh).length+(if([]:List Hh).isEmpty then 0 else 1)<30))=ba:=by rfl)(U:(ao.endLine==ae.line)=ba:=by rfl)(F:SE X e es:=by rfl)(W:(Fb ae (Um es X.env)).any (·.1)=bb:=by rfl)(h:Hm (.Call (.Attribute (.Name x c) name ao) (e::es) [] ae) b4 pos.line X.env=pure bb:=by rfl)(L:X.K=K:=by rfl):PS X (.Expr (.Call (.Attribute (.Name x c) name ao) (e::es) [] ae) pos) (WH K ml (WT i m fs)):=
 (DO (kBm (K := K) L Gj slot g I G J T Q U F W) h).imp λD σ H j => by
  obtain⟨B,O,δ,o,S,q,k⟩:=j;unfold WT at q;obtain⟨P,M,q⟩:=Aa.mp q;have q:((fs δ).bind λp=>(OZ p.2 i).bind λds=>(m ds p.1).map λa=>Ou.nx (p.2.set i (.ow (.lst a))))=b3 o:=q;obtain⟨⟨b,δ1⟩,h1,q⟩:=Aa.mp q;have q:((OZ δ1 i).bind λds=>(m ds b).map λa=>Ou.nx (δ1.set i (.ow (.lst a))))=b3 o:=q;obtain⟨ds,h2,q⟩:=Aa.mp q;have q:((m ds b).map λa=>Ou.nx (δ1.set i (.ow (.lst a))))=b3 o:=q;cases t:m ds b with
  |none=>rw[t]at q;cases q
  |some a=>
   rw[t]at q;cases q;obtain⟨l,f,N,w⟩:=S.ow i _ (LK M);cases w with
   |lst s _=>
    refine⟨.ref l,N,.inl ⟨rfl,_,X2.of s⟩,B,O,δ,b,δ1,S,h1,λvs H1 R=>?_⟩;obtain⟨Y,u,_,A⟩:=R.sta.ow i _ (LK h2);rw[f]at u;cases u;cases A with
    |lst d E=>
     refine n H1 (Nn B O) l _ vs ds b a _ d (.inr ⟨i,f⟩) E R.rep t λv y C=>?_;exact k σ _ O (R.sta.wrote f (λz=>z) (.lst cA (HP (ys:=[]) d (.inr ⟨i,f⟩) C)))
noncomputable def SS:List cU->List cU->Option (List cU)
 |ds,[d]=>if ds.length<16777216 then b3 (ds++[d])else b4
 |_,_=>b4
def XW:MuV K DS SS:=by
 intro H N l xs vs ds es c Q hl e a b h k;cases b with
 |nil=>cases h
 | @cons v vs d es hd t=>
  cases t with
  |cons _ _=>cases h
  |nil=>
   simp only[SS]at h;split at h
   ·rename_i hz
    cases h;exact⟨l,xs,v,rfl,rfl,hl,by rw[a.length,Cf];exact hz,k _ _ (a.snoc hd)⟩
   ·cases h
end
section
variable{X:Cx}{K:Ah}{ml:List Nat}{e a b c:Us}{es:List Us}{pa ta ia pb tb ib pc tc ic pu bt bi ps bs:Bool}{fa fb fc f:VF}{B B':Bs}{O:Nat->Option Ul}{H H1 H':Hp}{σ:St}{δ δ':Ev}{v:V}{d:cU}{p:Ul}{pos:Pos}{st:Ux}{rest:List Ux}{g g':VS}
def X7(a:VS):Ou->Option Ou
 |.nx δ=>a δ
 |.ct δ=>a δ
 |.bk δ=>b3 (.nx δ)
 |.rt d δ=>b3 (.rt d δ)
noncomputable def aX(t:VB)(g:VS):Nat->VS
 |0=>λ_=>b4
 |n+1=>λδ=>(t δ).bind λp=>if p.1=ba then(g p.2).bind (X7 (aX t g n))else b3 (.nx p.2)
theorem US{t:VB}:∀{n:Nat}{δ:Ev}{o:Ou},aX t g n δ=b3 o->aX t g (n+1) δ=b3 o
 |0,_,_,h=>by cases h
 | n + 1,δ,o,h => by
  dsimp only[aX]at h;show((t δ).bind λp=>if p.1=ba then(g p.2).bind (X7 (aX t g (n+1)))else b3 (.nx p.2))=b3 o;cases h1:t δ with
  |none=>rw[h1]at h;cases h
  |some p=>
   rw[h1]at h;obtain⟨a,δ1⟩:=p;cases a with
   |false=>exact h
   |true=>
    have h:(g δ1).bind (X7 (aX t g n))=b3 o:=h;show(g δ1).bind (X7 (aX t g (n+1)))=b3 o;cases h2:g δ1 with
    |none=>rw[h2]at h;cases h
    |some z=>
     rw[h2]at h;cases z with
     |nx δ2=>exact US (n:=n) h
     |ct δ2=>exact US (n:=n) h
     |bk δ2=>exact h
     |rt d δ2=>exact h
theorem SH{t:VB}{n:Nat}{o:Ou}(h:aX t g n δ=b3 o):∀k,aX t g (n+k) δ=b3 o
 |0=>h
 |k+1=>US (SH h k)
def F6{t:VB}{n m:Nat}{o o':Ou}(h:aX t g n δ=b3 o)(h':aX t g m δ=b3 o'):o=o':=by have b:=SH h m;have a:=SH h' n;rw[Qj]at a;rw[b]at a;exact Bp a
open Classical in
noncomputable def UM(t:VB)(g:VS):VS:=λδ=>if h:∃o n,aX t g n δ=b3 o then b3 (Classical.choose h)else b4
def QC{t:VB}{n:Nat}{o:Ou}(h:aX t g n δ=b3 o):UM t g δ=b3 o:=by have a:∃o n,aX t g n δ=b3 o:=⟨o,n,h⟩;unfold UM;rw[dif_pos a];obtain⟨m,b⟩:=Mp a;rw[F6 b h]
def FS{t:VB}{o:Ou}(h:UM t g δ=b3 o):∃n,aX t g n δ=b3 o:=by
 unfold UM at h;split at h
 ·rename_i a
  cases h;exact Mp a
 ·cases h
def N7{body:List Ux}{t:VB}(l:Rm (Ur X.prog X.w) X.A X.env X.xe)(hc:PT X c (TB K ml pc t))(s:WN X body (WH K ml g)):PS X (.While c body [] pos) (WH K ml (UM t g)):=(Zk l hc s).imp λD σ H h=>by
 obtain⟨B,O,δ,o,S,q,k⟩:=h;obtain⟨n,p⟩:=FS q;refine⟨λm σ H=>∃O δ,aU K ml B O H σ δ/\aX t g m δ=b3 o,⟨n,O,δ,S,p⟩,?_⟩;rintro m σ H ⟨O,δ,S,b⟩;cases m with
 |zero=>cases b
 |succ m=>
  dsimp only[aX]at b;obtain⟨⟨i,δ1⟩,h1,b⟩:=Aa.mp b;refine⟨B,O,δ,i,δ1,S,h1,λH1 j=>?_⟩;cases i with
  |false=>
   have b:b3 (Ou.nx δ1)=b3 o:=b;cases b;exact MK (k σ H1 O j.sta)
  |true=>
   have b:(g δ1).bind (X7 (aX t g m))=b3 o:=b;obtain⟨z,h2,b⟩:=Aa.mp b;refine ML ⟨λa H'=>∃O δ,aU K ml B O H' a δ/\aX t g m δ=b3 o,λa H' w=>⟨m,Nat.lt_succ_self _,w⟩,B,O,δ1,z,j.sta,h2,?_⟩;cases z with
   |nx δ2=>exact λa H' f e=>⟨f,δ2,e,b⟩
   |ct δ2=>exact λa H' f e=>⟨f,δ2,e,b⟩
   |bk δ2=>cases b;exact λa H' f e=>k a H' f e
   |rt d δ2=>cases b;exact λv a H' f e r=>k v a H' f e r
def Walk(K:Ah)(J:It)(a:List (V×cU))(ds:List cU):Prop:=∀(N:Ul->Prop) (H:Hp),(∀p∈a,bO K N H N p.1 p.2)->
 (∀(i:Nat) (d:cU),ds[i]?=b3 d->J.go i H/\∀x H',J.yld i H x H'->bA H H'/\bO K N H' N x d)/\J.stop ds.length H
abbrev VI:=Ev->Option (List cU×Ev)
inductive TIVi(K:Ah)(ml:List Nat)(pu:Bool)(f:VI)(σ:St)(H:Hp)(R:It->Hp->Prop):Prop
 |mk (B:_) (O:_) (δ:_) (ds:_) (δ':_) (h0:aU K ml B O H σ δ) (h1:f δ=b3 (ds,δ')) (h2:∀J kps H',aU K ml {B with kp:=kps++B.kp} O H' σ δ'->Fr (OA O) H H'->(pu=ba->bA H H')->Walk K J kps ds->R J H'):TIVi K ml pu f σ H R
def TIV(K:Ah)(ml:List Nat)(pu:Bool)(f:VI):TI:=λσ H R=>TIVi K ml pu f σ H R
def PI.imp{tg:Us}{t u:TI}(h:PI X tg e t)(k:∀σ H R,u σ H R->t σ H R):PI X tg e u:=λaa s σ H R I w=>h aa s σ H R I (k σ H R w)
def PI.or{tg:Us}{t u:TI}(h:PI X tg e t)(h':PI X tg e u):PI X tg e (λσ H R=>t σ H R∨u σ H R):=λaa s σ H R I z=>by
 rcases z with z|z
 ·exact h aa s σ H R I z
 ·exact h' aa s σ H R I z
def UX(f:VF):VI:=λδ=>(f δ).bind λp=>(XB p.1).map λds=>(ds,p.2)
def nK{a:Ul}{ds:List cU}:Walk K (Itl K a) [(.ref a,.lst ds)] ds:=by
 intro N H h;have r:=h _ (At.mpr rfl);have b:∀xs,X2 K H a xs->b9 K N H xs ds->(∀(i:Nat) (d:cU),ds[i]?=b3 d->(Itl K a).go i H/\∀x H',(Itl K a).yld i H x H'->bA H H'/\bO K N H' N x d)/\(Itl K a).stop ds.length H:=λxs sq r=>by
  refine⟨λi d e=>?_,xs,sq,by rw[r.length];exact Ar _⟩;obtain⟨x,c,f⟩:=r.get e;refine⟨⟨xs,x,sq,c⟩,λy H' g=>?_⟩;obtain⟨k,j⟩:=g;subst k;have:=j xs sq
  rw[c]at this;cases this;exact⟨bA.refl _,f⟩
 cases r.onL with
 |lst q n r=>exact b _ (X2.of q) r
 |fzm q r=>exact b _ q.sq r
def iQ{a:Ul}{ds:List cU}:Walk K (Itt K a) [(.ref a,.tup ds)] ds:=by
 intro N H h;have r:=h _ (At.mpr rfl);cases r.onT with
 |tup sq r=>
  refine⟨λi d e=>?_,_,sq,by rw[r.length];exact Ar _⟩;obtain⟨x,b,c⟩:=r.get e;refine⟨⟨_,x,sq,b⟩,λy H' f=>?_⟩;obtain⟨j,g⟩:=f;subst j;have:=g _ sq
  rw[b]at this;cases this;exact⟨bA.refl _,c⟩
def VT{tg:Us}(i:X.K=K)(h:PE X e (TV K ml pu ba ba f)):PI X tg e (TIV K ml pu (UX f)):=((Yz (K:=K) i h).or (Xb (K:=K) i h)).imp λσ H R c=>by
 obtain⟨B,O,δ,ds,δ',S,q,k⟩:=c;unfold UX at q;obtain⟨⟨x,δ1⟩,h1,q⟩:=Aa.mp q;cases x with
 |lst g=>
  cases q;refine .inl ⟨B,O,δ,_,δ1,S,h1,λv H1 b=>?_⟩;obtain⟨a,xs,rfl,sq,r⟩:=b.rep.seq rfl;refine⟨a,rfl,?_,k _ [(.ref a,.lst ds)] H1 (b.sta.keepV λp d=>by rw[At.mp d];exact b.rep) b.frm b.pur nK⟩;have r:=b.rep;cases r.onL with
  |lst q _ _=>exact⟨_,X2.of q⟩
  |fzm q _=>exact⟨_,q.sq⟩
 |tup g=>
  cases q;refine .inr ⟨B,O,δ,_,δ1,S,h1,λv H1 b=>?_⟩;obtain⟨a,xs,rfl,sq,r⟩:=b.rep.seq rfl;refine⟨a,rfl,?_,k _ [(.ref a,.tup ds)] H1 (b.sta.keepV λp d=>by rw[At.mp d];exact b.rep) b.frm b.pur iQ⟩;have r:=b.rep;cases r.onT with
  |tup q _=>exact⟨_,q⟩
 |_=>cases q
def ZG(lo:Int)(n:Nat):List cU:=(Bf n).map λk:Nat=>.int (lo+k)
noncomputable def E1(f:VF):VI:=λδ=>(f δ).bind λp=>match p.1 with
 |.int j=>if -4611686018427387904<=j/\j<4611686018427387904 then b3 (ZG 0 j.toNat,p.2)else b4
 |_=>b4
noncomputable def iR2(f g:VF):VI:=λδ=>(f δ).bind λp=>(g p.2).bind λq=>match p.1,q.1 with
 |.int i,.int j=>if(-4611686018427387904<=i/\i<4611686018427387904)/\ -4611686018427387904<=j/\j<4611686018427387904 then b3 (ZG i (j-i).toNat,q.2)else b4
 |_,_=>b4
def pZ{lo:Int}{n i:Nat}{d:cU}(h:(ZG lo n)[i]?=b3 d):i<n/\d=.int (lo+i):=by
 unfold ZG at h;rw[Ds]at h;obtain⟨k,h1,h⟩:=Ap.mp h;cases h;have:=Ag.mp h1
 obtain⟨hl,e⟩:=this;rw[Ih]at hl;rw[List.getElem_range]at e;subst e;exact⟨hl,rfl⟩
def IN{lo:Int}{n:Nat}:Walk K (Itr lo n) [] (ZG lo n):=by intro N H _;refine⟨λi d e=>?_,by simp[Itr,ZG]⟩;obtain⟨hl,rfl⟩:=pZ e;refine⟨hl,λx H' a=>?_⟩;obtain⟨rfl,rfl⟩:=a;exact⟨bA.refl _,.int _⟩
def XZ{tg:Us}{p':Pos}(l:Gl X "range")(i:X.mg "range"=b4)(h:PE X a (TV K ml pa ta ia fa))(g:Um [a] X.env=[(bb,eval a X.env)]:=by rfl)(d:SE X a []:=by rfl):
  PI X tg (.Call (.Name "range" p') [a] [] pos) (TIV K ml pa (E1 fa)):=(BK l i (bW h Z9 d) g).imp λσ H R e=>by
 obtain⟨B,O,δ,ds,δ',S,q,k⟩:=e;unfold E1 at q;obtain⟨⟨x,δ1⟩,h1,q⟩:=Aa.mp q;cases x with
 |int j=>
  have q:(if -4611686018427387904<=j/\j<4611686018427387904 then b3 (ZG 0 j.toNat,δ1)else b4)=b3 (ds,δ'):=q;split at q
  ·rename_i f
   cases q;have b:(2:Int) ^ 62=4611686018427387904:=by decide
   refine⟨B,O,δ,_,_,S,h1,λv H1 c=>⟨j,?_,by rw[b];exact f.1,by rw[b];exact f.2,k _ [] H1 (c.sta.keepV λ_ z=>nomatch z) c.frm c.pur IN⟩⟩;rw[c.rep.onI]
  ·cases q
 |_=>cases q
def CD{tg:Us}{p':Pos}(t:Gl X "range")(s:X.mg "range"=b4)(h:PE X a (TV K ml pa ta ia fa))(h':PE X b (TV K ml pb tb ib fb))(r:Um [a,b] X.env=[(bb,eval a X.env),(bb,eval b X.env)]:=by rfl)(f:Um [b] X.env=[(bb,eval b X.env)]:=by rfl)(u:SE X a [b]:=by rfl)(l:SE X b []:=by rfl):
  PI X tg (.Call (.Name "range" p') [a,b] [] pos) (TIV K ml (pa&&pb) (iR2 fa fb)):=(BL t s (bW h (bW h' Z9 l) u) r f).imp λσ H R g=>by
 obtain⟨B,O,δ,ds,δ',S,q,k⟩:=g;unfold iR2 at q;obtain⟨⟨x,δ1⟩,h1,q⟩:=Aa.mp q;cases h2:fb δ1 with
 |none=>simp[h2]at q
 |some p2=>
  obtain⟨y,δ2⟩:=p2;simp only[Ai,h2]at q;cases x with
  |int i=>
   cases y with
   |int j=>
    have q:(if(-4611686018427387904<=i/\i<4611686018427387904)/\ -4611686018427387904<=j/\j<4611686018427387904 then b3 (ZG i (j-i).toNat,δ2)else b4)=b3 (ds,δ'):=q;split at q
    ·rename_i c
     cases q;have e:(2:Int) ^ 62=4611686018427387904:=by decide
     refine⟨B,O,δ,_,_,S,h1,λv H1 d=>⟨B,O,δ1,_,_,d.sta,h2,λw H2 R2=>⟨i,j,?_,by rw[e];exact⟨c.1.1,c.1.2,c.2.1,c.2.2⟩,k _ [] H2 (R2.sta.keepV λ_ z=>nomatch z) (d.frm.trans R2.frm) (λz=>by obtain⟨n,m⟩:=(Ad _ _).mp z;exact(d.pur n).trans (R2.pur m)) IN⟩⟩⟩
     have p:=d.rep;have o:=R2.rep;cases p.onI;cases o.onI;rfl
    ·cases q
   |_=>cases q
  |_=>cases q
noncomputable def WP(gg:VG)(s:VS):List cU->VS
 |[]=>λδ=>b3 (.nx δ)
 |d::r=>λδ=>(gg d δ).bind λδ1=>(s δ1).bind (X7 (WP gg s r))
def UL(fi:VI)(gg:VG)(s:VS):VS:=λδ=>(fi δ).bind λp=>WP gg s p.1 p.2
def WF{tg iter:Us}{body:List Ux}{fi:VI}{gg:VG}(s:Rm (Ur X.prog X.w) X.A X.env X.xe)(hc:X.calm=ba)(hi:PI X tg iter (TIV K ml pu fi))(L:PG X tg (TGV K ml gg))(M:WN X body (WH K ml g))
  (I:∀x,Uy iter X.env x=pure x:=by intro _;rfl):PS X (.For tg iter body [] pos) (WH K ml (UL fi gg g)):=(eO s hc hi L M I).imp λD σ H n=>by
 obtain⟨B,O,δ,o,S,q,k⟩:=n;unfold UL at q;obtain⟨⟨ds,δ1⟩,h1,q⟩:=Aa.mp q;have q:WP gg g ds δ1=b3 o:=q;refine⟨B,O,δ,ds,δ1,S,h1,λJ l H1 Q _ _ y=>?_⟩;refine⟨λi m σ H=>m=ds.length-i/\i<=ds.length/\∃O δ,aU K ml {B with kp:=l++B.kp} O H σ δ/\WP gg g (ds.drop i) δ=b3 o,⟨ds.length,rfl,Er _,O,δ1,Q,q⟩,?_⟩;rintro i m σ H ⟨rfl,hi,O,δ,S,b⟩;have w:=y (Nn B O) H λp s=>S.kep p (Bq _ s);by_cases f:i<ds.length
 ·obtain ⟨go,u⟩ := w.1 i ds[i] (by simp [f])
  rw[Fy f]at b;refine .inr ⟨go,λa H'=>∃O δ,aU K ml {B with kp:=l++B.kp} O H' a δ/\WP gg g (ds.drop (i+1)) δ=b3 o,λa H' C=>⟨ds.length-(i+1),by lia,rfl,f,C⟩,λx H' G=>?_⟩;obtain⟨E,F⟩:=u x H' G;have b:((gg ds[i] δ).bind λδ1=>(g δ1).bind (X7 (WP gg g (ds.drop (i+1)))))=b3 o:=b;obtain⟨δ2,h2,b⟩:=Aa.mp b;have b:(g δ2).bind (X7 (WP gg g (ds.drop (i+1))))=b3 o:=b;refine⟨_,O,δ,ds[i],δ2,S.same E,F,h2,λt R P _=>?_⟩;obtain⟨z,N,b⟩:=Aa.mp b;refine⟨_,R,δ2,z,P,N,?_⟩;cases z with
  |nx c=>exact λa H' j h=>⟨j,c,h,b⟩
  |ct c=>exact λa H' j h=>⟨j,c,h,b⟩
  |bk c=>cases b;exact λa H' j h=>k a H' j h.unkeep
  |rt d c=>cases b;exact λv a H' j h r=>k v a H' j h.unkeep r
 ·have e : i = ds.length := by lia
  subst e;rw[He]at b;cases b;exact .inl ⟨w.2,k σ H O S.unkeep⟩
end
section
variable{X:Cx}{K:Ah}{ml:List Nat}{e a b c:Us}{es:List Us}{pa ta ia pb tb ib pc tc ic pu bt bi ps bs:Bool}{fa fb fc f:VF}{B B':Bs}{O:Nat->Option Ul}{H H1 H':Hp}{σ:St}{δ δ':Ev}{v:V}{d:cU}{p:Ul}{pos:Pos}{st:Ux}{rest:List Ux}{g g':VS}
def aU.call{P:Ul->Prop}(S:aU K ml B O H σ δ)(hl:δ'.length=δ.length)(h:∀i:Nat,(δ'[i]?=δ[i]? /\∀a,O i=b3 a->¬P a)∨∃a d',O i=b3 a/\δ'[i]?=b3 (Sl.ow d')/\SJ K (Nn B O) H' a d')
  (f:Fr P H H') (j:∀a,P a->OA O a):aU K ml B O H' σ δ' where
 len:=by rw[hl,S.len]
 va:=λi d e=>by
  rcases h i with⟨g,_⟩|⟨a,d',_,g,_⟩
  ·rw[g]at e
   obtain⟨v,c,r⟩:=S.va i d e;exact⟨v,c,r.fr f (λa z=>.inr (j a z)) λa z=>.inr (j a z)⟩
  ·rw[g]at e
   cases e
 ow:=λi d e=>by
  rcases h i with⟨g,n⟩|⟨a,d',c,g,w⟩
  ·rw[g]at e
   obtain⟨a,c,k,w⟩:=S.ow i d e;exact⟨a,c,k,w.fr f (λa z=>.inr (j a z)) (n a c)⟩
  ·rw[g]at e
   cases e;obtain⟨d0,q0⟩:=S.dom i a c;obtain⟨s,k,m,_⟩:=S.ow i d0 q0;rw[c]at k;cases k;exact⟨a,c,m,w⟩
 dom:=λi a e=>by
  rcases h i with⟨g,n⟩|⟨a,d',c,g,w⟩
  ·obtain⟨d0,q0⟩:=S.dom i a e
   exact⟨d0,g.trans q0⟩
  ·exact⟨d',g⟩
 inj:=S.inj
 old:=S.old
 zin:=λa h'=>by
  obtain⟨o,q⟩:=S.zin a h';exact⟨o,f a o q λz=>by obtain⟨i,e⟩:=j a z;exact absurd h' (S.old i a e).1⟩
 frm:=λb o q n=>by
  have h1:=S.frm b o q n;refine f b o h1 λz=>?_;obtain⟨i,e⟩:=j b z;rcases(S.old i b e).2 with w|w
  ·exact n w
  ·rw[q]at w;cases w
 par:=S.par
 pin:=λa h'=>by
  obtain⟨o,q⟩:=S.pin a h';by_cases z:P a
  ·obtain⟨i,e⟩:=j a z
   rcases h i with⟨_,n⟩|⟨s,d',c,g,w⟩
   ·exact absurd z (n a e)
   ·rw[e]at c
    cases c;obtain⟨o,q,_⟩:=w.soft;exact⟨o,q⟩
  ·exact⟨o,f a o q λy=>absurd y z⟩
 kep:=λp l=>(S.kep p l).fr f (λa z=>.inr (j a z)) λa z=>.inr (j a z)
abbrev bP:=List cU->Option (cU×List cU)
def QL(ml:List Nat)(vs:List V):Ul->Prop:=λa=>∃i∈ml,vs[i]?=b3 (.ref a)
def Zp(Z:Ul->Prop)(ml:List Nat)(vs:List V):Ul->Prop:=λa=>Z a∨QL ml vs a
structure Vo(K:Ah)(ml:List Nat)(Z:Ul->Prop)(H:Hp)(vs:List V)(ds:List cU):Prop where
 len:vs.length=ds.length
 mem:∀i∈ml,i<ds.length
 va:∀(i:Nat) (d:cU),i∉ml->ds[i]?=b3 d->∃v,vs[i]?=b3 v/\bO K (Zp Z ml vs) H (Zp Z ml vs) v d
 ow:∀(i:Nat) (d:cU),i∈ml->ds[i]?=b3 d->∃a,vs[i]?=b3 (.ref a)/\SJ K (Zp Z ml vs) H a d/\¬Z a
 inj:∀(i j:Nat) (a:Ul),i∈ml->j∈ml->vs[i]?=b3 (.ref a)->vs[j]?=b3 (.ref a)->i=j
 zin:∀a,Z a->∃o,H a=b3 o
inductive spVi(K:Ah)(ml:List Nat)(n:Nat)(F:bP)(vs:List V)(H:Hp)(Q:VK):Prop
 |mk (Z:Ul->Prop) (ds:List cU) (r:cU) (os:List cU) (h0:ds.length=n) (h1:Vo K ml Z H vs ds) (h2:F ds=b3 (r,os)) (h3:∀v H',Fr (QL ml vs) H H'->(∀(k i:Nat) (a:Ul) (o:cU),ml[k]?=b3 i->vs[i]?=b3 (.ref a)->os[k]?=b3 o->SJ K (Zp Z ml vs) H' a o)->bO K (Zp Z ml vs) H' (Zp Z ml vs) v r->Q v H'):spVi K ml n F vs H Q
def spV(K:Ah)(ml:List Nat)(n:Nat)(F:bP):Sp:=λvs H Q _=>spVi K ml n F vs H Q
def a9(ml:List Nat)(n:Nat)(ds:List cU):Ev:=ds.mapIdx (λi d=>if i∈ml then Sl.ow d else Sl.va d)++Aw (n-ds.length) Sl.no
noncomputable def UK(ml:List Nat)(δ:Ev):Option (List cU):=ml.mapM λ(i:Nat)=>match(δ[i]? :Option Sl)with
 |some (Sl.ow d)=>b3 d
 |_=>b4
def Z2(n:Nat)(ml:List Nat)(g:VS):bP:=λds=>(g (a9 ml n ds)).bind λo=>match o with
 |.rt d δ=>(UK ml δ).map λos=>(d,os)
 |.nx δ=>(UK ml δ).map λos=>(.non,os)
 |_=>b4
theorem HE:∀{ml:List Nat}{δ:Ev}{os:List cU},UK ml δ=b3 os->∀(k i:Nat) (o:cU),ml[k]?=b3 i->os[k]?=b3 o->δ[i]?=b3 (.ow o)
 |[],_,_,h,k,i,o,a,b=>by simp at a
 | j :: ml,δ,os,h,k,i,o,a,b => by
  unfold UK at h;rw[Sf]at h;split at h
  ·rename_i d hd
   cases h2:(ml.mapM λ(i:Nat)=>match(δ[i]? :Option Sl)with
    |some (Sl.ow d)=>b3 d
    |_=>b4:Option (List cU))with
   |none=>rw[h2]at h;cases h
   |some c=>
    rw[h2]at h;cases h;cases k with
    |zero=>
     cases a;cases b;exact hd
    |succ k=>exact HE (ml:=ml) h2 k i o (by simpa using a) (by simpa using b)
  ·cases h
def LV{N:List Uq}{Z:Ul->Prop}{vs:List V}{ds:List cU}(A:Vo K ml Z H vs ds)(B:ds.length<=N.length):∃g:Nat->Option Ul,(∀i a,g i=b3 a↔i∈ml/\vs[i]?=b3 (.ref a))/\aU K ml ⟨Z,QL ml vs,H,g,[]⟩ g H (start N vs) (a9 ml N.length ds):=by
 classical
 let g:Nat->Option Ul:=λi=>if i∈ml then(match vs[i]? with
  |some (.ref a)=>b3 a
  |_=>b4)else b4
 have c:∀i a,g i=b3 a↔i∈ml/\vs[i]?=b3 (.ref a):=λi a=>by
  show(if i∈ml then(match vs[i]? with
   |some (.ref a)=>b3 a
   |_=>b4)else b4)=b3 a↔_
  by_cases hi:i∈ml
  ·rw[if_pos hi]
   constructor
   ·intro h
    split at h
    ·rename_i b x
     cases h;exact⟨hi,x⟩
    ·cases h
   ·rintro ⟨_,h⟩
    rw[h]
  ·rw[if_neg hi]
   exact⟨(λh=>nomatch h),λh=>absurd h.1 hi⟩
 have m:∀a,Nn ⟨Z,QL ml vs,H,g,[]⟩ g a->Zp Z ml vs a:=λa h=>by
  rcases h with h|⟨i,h⟩
  ·exact .inl h
  ·exact .inr ⟨i,(c i a).mp h⟩
 have t:∀(i:Nat) (s:Sl),(a9 ml N.length ds)[i]?=b3 s->(∃d,ds[i]?=b3 d/\s=if i∈ml then .ow d else .va d)∨s=.no:=λi s h=>by
  unfold a9 at h;by_cases hi:i<ds.length
  ·rw [Ao (by simpa using hi),Nb]at h
   cases q:ds[i]? with
   |none=>rw[q]at h;cases h
   |some d=>rw[q]at h;cases h;exact .inl ⟨d,rfl,rfl⟩
  ·rw [Bo (by simpa using hi),Dr]at h
   split at h
   ·cases h;exact .inr rfl
   ·cases h
 have k:∀(i:Nat) (v:V),vs[i]?=b3 v->(start N vs)[i]?=b3 (b3 v):=λi v h=>by unfold start;have hi:i<vs.length:=(Ag.mp h).1;rw[Ao (by simpa using hi),Ds,h];rfl
 refine⟨g,c,?_,λi d q=>?_,λi d q=>?_,λi a q=>?_,λi j a q1 q2=>?_,λi a q=>?_,A.zin,Fr.refl _ _,⟨λi a q=>((c i a).mp q).1,λi _=>rfl⟩,λa q=>?_,λp u=>nomatch u⟩
 ·unfold start a9
  have:=A.len
  simp;lia
 ·rcases t i _ q with⟨e,h1,h2⟩|h
  ·by_cases hi:i∈ml
   ·rw[if_pos hi]at h2;cases h2
   ·rw[if_neg hi]at h2
    cases h2;obtain⟨v,f,r⟩:=A.va i d hi h1;exact⟨v,k i v f,r.mono m m⟩
  ·cases h
 ·rcases t i _ q with⟨e,h1,h2⟩|h
  ·by_cases hi:i∈ml
   ·rw[if_pos hi]at h2
    cases h2;obtain⟨a,f,w,_⟩:=A.ow i d hi h1;exact⟨a,(c i a).mpr ⟨hi,f⟩,k i _ f,w.mono m⟩
   ·rw[if_neg hi]at h2;cases h2
  ·cases h
 ·obtain⟨hi,f⟩:=(c i a).mp q
  have hl:=A.mem i hi;refine⟨ds[i],?_⟩;unfold a9;rw[Ao (by simpa using hl),Nb];simp[hl,hi]
 ·exact A.inj i j a ((c i a).mp q1).1 ((c j a).mp q2).1 ((c i a).mp q1).2 ((c j a).mp q2).2
 ·obtain⟨hi,f⟩:=(c i a).mp q
  refine⟨λz=>?_,.inl ⟨i,hi,f⟩⟩;obtain⟨y,l,_,n⟩:=A.ow i (ds[i]'(A.mem i hi)) hi (by simp[A.mem i hi]);rw[f]at l;cases l;exact n z
 ·obtain⟨i,hi,f⟩:=q
  obtain⟨y,l,w,n⟩:=A.ow i (ds[i]'(A.mem i hi)) hi (by simp[A.mem i hi]);rw[f]at l;cases l;obtain⟨o,q,_⟩:=w.soft;exact⟨o,q⟩
def Xk{N ps:List Uq}{vs:List V}{Q:VK}{E:XK}(u:ps.length<=N.length)(h:spV K ml ps.length (Z2 N.length ml g) vs H Q E):WH K ml g {nx:=λ_ H'=>Q .non H',rt:=Q} (start N vs) H:=by
 obtain⟨Z,ds,r,os,D,AV,c,k⟩:=h;obtain⟨q,n,J⟩:=LV (N:=N) AV (by rw[D];exact u);unfold Z2 at c;obtain⟨o,h1,c⟩:=Aa.mp c;refine⟨_,q,_,o,J,h1,?_⟩;have s:∀(δ':Ev) (v:V) (f:St) (H':Hp) (p:Nat->Option Ul),UK ml δ'=b3 os->aU K ml ⟨Z,QL ml vs,H,q,[]⟩ p H' f δ'->bO K (rz ⟨Z,QL ml vs,H,q,[]⟩) H' (rz ⟨Z,QL ml vs,H,q,[]⟩) v r->Q v H':=λδ' v f H' p C l m=>by
  have hz:∀a,Zp Z ml vs a->rz ⟨Z,QL ml vs,H,q,[]⟩ a:=λa h=>by
   rcases h with h|⟨i,hi,e⟩
   ·exact .inl h
   ·exact .inr ⟨i,(n i a).mpr ⟨hi,e⟩⟩
  refine k v H' l.frm (λB i a o A I G=>?_) (m.mono hz hz);have hd:=HE C B i o A G;obtain⟨L,z,_,w⟩:=l.ow i o hd;have hi:i∈ml:=Dt A;have:=(l.par.2 i hi).trans ((n i a).mpr ⟨hi,I⟩)
  rw[this]at z;cases z;refine w.mono λb x=>?_;rcases x with x|⟨j,y,F⟩
  ·exact .inl x
  ·exact .inr ⟨j,(l.par.2 j y).trans ((n j b).mpr ⟨y,F⟩)⟩
 cases o with
 |rt d δ'=>
  have c:(UK ml δ').map (λos=>(d,os))=b3 (r,os):=c;cases h2:UK ml δ' with
  |none=>rw[h2]at c;cases c
  |some t=>
   rw[h2]at c;cases c;exact λv f H' p l m=>s δ' v f H' p h2 l m
 |nx δ'=>
  have c:(UK ml δ').map (λos=>(cU.non,os))=b3 (r,os):=c;cases h2:UK ml δ' with
  |none=>rw[h2]at c;cases c
  |some t=>
   rw[h2]at c;cases c;exact λf H' p l=>s δ' .non f H' p h2 l .non
 |bk δ'=>cases c
 |ct δ'=>cases c
def XU.okV{P:Av}{w:Uu}{mg:Uq->Option Uk}{base:Uv}{x qual:Uq}{st:Ux}{f:Ul}{fd:Dw}{N ps:List Uq}{k:Nat}(F:XU K x qual st f fd)(S:b6 N ps (cO st))(b:ps.length<=N.length)(e:∀(a:Uk) (A:Cc) (outer:List Env) (s:Af) (H:Hp) (E:XK),YT k (A.deeper (envOfC qual (cO st) s.heap.objs.size f a))->WN (QS CX0 P w K mg base N qual (cO st) f a A outer s H E).nox (aH st) (WH K ml g)):aA P w K mg base CX0 (k+1) f fd ps (spV K ml ps.length (Z2 N.length ml g)):=by refine F.ok S (λvs H Q E h=>?_) (λa A outer s H vs Q E c h=>⟨_,e a A outer s H E c,Xk b h⟩);obtain⟨Z,ds,r,os,d,AV,_⟩:=h;rw[AV.len,d]
noncomputable def NC:List (Option Nat)->List cU->Nat->Option (List cU)
 |some k::_,ds,0=>b3 (ds.take k)
 |none::sh,_::ds,j+1=>NC sh ds j
 |some k::sh,ds,j+1=>NC sh (ds.drop k) j
 |_,_,_=>b4
theorem RH.getL{sub:Ul->Option (List V)}{N:Ul->Prop}:∀{xs vs:List V}{sh:List (Option Nat)}{ds es:List cU}{j:Nat},RH sub xs sh vs->b9 K N H vs ds->NC sh ds j=b3 es->∃p zs,xs[j]?=b3 (.ref p)/\sub p=b3 zs/\b9 K N H zs es
 |_,_,_,_,_,_,.nil,_,h=>by simp[NC]at h
 |_,_,_,_,_,0,.val _ _,_,h=>by simp[NC]at h
 |_,_,_,_,_,j+1,.val _ t,.cons _ r,h=>by obtain⟨p,zs,d,c,b⟩:=RH.getL (j:=j) t r (by simpa[NC]using h);exact⟨p,zs,by simpa using d,c,b⟩
 |_,_,_,ds,_,0,.lst (p:=p) (zs:=zs) hs _ _,r,h=>by
  simp only[NC,Ku]at h;subst h;have:=r.take zs.length
  rw[Ip]at this;exact⟨p,zs,rfl,hs,this⟩
 |_,_,_,ds,_,j+1,.lst (zs:=zs) _ _ t,r,h=>by
  have:=r.drop zs.length
  rw[Iq]at this;obtain⟨p,a,d,c,b⟩:=RH.getL (j:=j) t this (by simpa[NC]using h);exact⟨p,a,by simpa using d,c,b⟩
def part(δ:Ev)(j k:Nat):Option cU:=match δ[j]? with
 |some (.ow (.nst sh ds))=>(NC sh ds k).map cU.lst
 |_=>b4
def V4{j k:Nat}(h:part δ j k=b3 d):∃sh ds es,δ[j]?=b3 (.ow (.nst sh ds))/\NC sh ds k=b3 es/\d=.lst es:=by
 unfold part at h;split at h
 ·rename_i sh ds e
  obtain⟨es,h1,h2⟩:=Ap.mp h;exact⟨sh,ds,es,e,h1,h2.symm⟩
 ·cases h
inductive AV where
 |d (d:cU)|o (j:Nat)|p (j k:Nat)
inductive X5(K:Ah)(N:Ul->Prop)(H:Hp)(σ:St):List V->List AV->Prop
 |nil:X5 K N H σ [] []
 |d {v:V}{vs:List V}{d:cU}{as:List AV}:bO K N H N v d->X5 K N H σ vs as->X5 K N H σ (v::vs) (.d d::as)
 |o {v:V}{vs:List V}{j:Nat}{as:List AV}:σ[j]?=b3 (b3 v)->X5 K N H σ vs as->X5 K N H σ (v::vs) (.o j::as)
 |p {v:V}{vs us:List V}{j k:Nat}{x:Ul}{sub:Ul->Option (List V)}{as:List AV}:σ[j]?=b3 (b3 (.ref x))->H x=b3 (.nst us sub)->us[k]?=b3 v->X5 K N H σ vs as->X5 K N H σ (v::vs) (.p j k::as)
abbrev T1:=Ev->Option (List AV×Ev)
structure ResG(K:Ah)(ml:List Nat)(B:Bs)(O:Nat->Option Ul)(H:Hp)(σ:St)(pu:Bool)(H':Hp)(δ':Ev)(vs:List V)(as:List AV):Prop where
 sta:aU K ml B O H' σ δ'
 frm:Fr (OA O) H H'
 pur:pu=ba->bA H H'
 rep:X5 K (Nn B O) H' σ vs as
inductive TAGi(K:Ah)(ml:List Nat)(pu:Bool)(f:T1)(σ:St)(H:Hp)(Q:List V->Hp->Prop):Prop
 |mk (B:_) (O:_) (δ:_) (as:_) (δ':_) (h0:aU K ml B O H σ δ) (h1:f δ=b3 (as,δ')) (h2:∀vs H',ResG K ml B O H σ pu H' δ' vs as->Q vs H'):TAGi K ml pu f σ H Q
def CM(K:Ah)(ml:List Nat)(pu:Bool)(f:T1):TA:=λσ H Q=>TAGi K ml pu f σ H Q
def b7:T1:=λδ=>b3 ([],δ)
noncomputable def aE(f:VF)(fs:T1):T1:=λδ=>(f δ).bind λp=>(fs p.2).map λq=>(.d p.1::q.1,q.2)
noncomputable def slot(δ:Ev)(j:Nat):Option cU:=match δ[j]? with
 |some (.va d)=>b3 d
 |some (.ow d)=>b3 d
 |_=>b4
def aO(j:Nat)(fs:T1):T1:=λδ=>(slot δ j).bind λ_=>(fs δ).map λq=>(.o j::q.1,q.2)
def cL:PA X [] (CM K ml ba b7):=Z9.imp λσ H Q a=>by obtain⟨B,O,δ,d,δ',S,q,k⟩:=a;cases q;exact k [] H ⟨S,Fr.refl _ _,λ_=>bA.refl _,.nil⟩
def cQ{fs:T1}(i:PE X a (TV K ml pa ba ba fa))(h:PA X es (CM K ml ps fs))(g:SE X a es:=by rfl):PA X (a::es) (CM K ml (pa&&ps) (aE fa fs)):=(bW i h g).imp λσ H Q c=>by obtain⟨B,O,δ,as,δ2,S,q,k⟩:=c;unfold aE at q;obtain⟨⟨x,δ1⟩,h1,q⟩:=Aa.mp q;have q:((fs δ1).map λq=>(AV.d x::q.1,q.2))=b3 (as,δ2):=q;obtain⟨p2,h2,q⟩:=Ap.mp q;cases q;refine⟨B,O,δ,x,δ1,S,h1,λj H1 b=>⟨B,O,δ1,_,_,b.sta,h2,λvs H2 R2=>k _ H2 ⟨R2.sta,b.frm.trans R2.frm,λz=>?_,.d (b.rep.fr R2.frm (λa z=>.inr z) λa z=>.inr z) R2.rep⟩⟩⟩;obtain⟨f,e⟩:=(Ad _ _).mp z;exact(b.pur f).trans (R2.pur e)
def LU{j:Nat}{d:cU}(h:slot δ j=b3 d):δ[j]?=b3 (.va d)∨δ[j]?=b3 (.ow d):=by
 unfold slot at h;split at h
 ·cases h;exact .inl (by assumption)
 ·cases h;exact .inr (by assumption)
 ·cases h
def aU.slot(S:aU K ml B O H σ δ){j:Nat}{d:cU}(h:slot δ j=b3 d):∃v,σ[j]?=b3 (b3 v):=by
 rcases LU h with h|h
 ·obtain⟨v,e,_⟩:=S.va j d h
  exact⟨v,e⟩
 ·obtain⟨a,_,e,_⟩:=S.ow j d h
  exact⟨_,e⟩
def bH{fs:T1}{j:Nat}(g:PE X a (V8 j))(f:PA X es (CM K ml ps fs))(c:SE X a es:=by rfl):PA X (a::es) (CM K ml ps (aO j fs)):=(bW g f c).imp λσ H Q b=>by obtain⟨B,O,δ,as,δ2,S,q,k⟩:=b;unfold aO at q;obtain⟨d,h1,q⟩:=Aa.mp q;have q:((fs δ).map λq=>(AV.o j::q.1,q.2))=b3 (as,δ2):=q;obtain⟨p2,h2,q⟩:=Ap.mp q;cases q;obtain⟨v,e⟩:=S.slot h1;exact⟨v,e,B,O,δ,_,_,S,h2,λvs H2 R2=>k _ H2 ⟨R2.sta,R2.frm,R2.pur,.o e R2.rep⟩⟩
theorem X5.length:∀{N:Ul->Prop}{vs:List V}{as:List AV},X5 K N H σ vs as->vs.length=as.length
 |_,_,_,.nil=>rfl
 |_,_,_,.d _ t=>congrArg (· +1) (X5.length t)
 |_,_,_,.o _ t=>congrArg (· +1) (X5.length t)
 |_,_,_,.p _ _ _ t=>congrArg (· +1) (X5.length t)
theorem X5.getD:∀{N:Ul->Prop}{vs:List V}{as:List AV}{i:Nat}{d:cU},X5 K N H σ vs as->as[i]?=b3 (.d d)->∃v,vs[i]?=b3 v/\bO K N H N v d
 |_,_,_,_,_,.nil,e=>by simp at e
 |_,_,_,0,_,.d h _,e=>by simp at e;subst e;exact⟨_,rfl,h⟩
 |_,_,_,0,_,.o h _,e=>by simp at e
 |_,_,_,0,_,.p _ _ _ _,e=>by simp at e
 |_,_,_,i+1,_,.p _ _ _ t,e=>by obtain⟨u,h1,h2⟩:=X5.getD (i:=i) t (by simpa using e);exact⟨u,by simpa using h1,h2⟩
 |_,_,_,i+1,_,.d _ t,e=>by obtain⟨u,h1,h2⟩:=X5.getD (i:=i) t (by simpa using e);exact⟨u,by simpa using h1,h2⟩
 |_,_,_,i+1,_,.o _ t,e=>by obtain⟨u,h1,h2⟩:=X5.getD (i:=i) t (by simpa using e);exact⟨u,by simpa using h1,h2⟩
theorem X5.getP:∀{N:Ul->Prop}{vs:List V}{as:List AV}{i j k:Nat},X5 K N H σ vs as->as[i]?=b3 (.p j k)->∃v x a sub,vs[i]?=b3 v/\σ[j]?=b3 (b3 (.ref x))/\H x=b3 (.nst a sub)/\a[k]?=b3 v
 |_,_,_,_,_,_,.nil,e=>by simp at e
 |_,_,_,0,_,_,.d h _,e=>by simp at e
 |_,_,_,0,_,_,.o h _,e=>by simp at e
 |_,_,_,0,_,_,.p h1 h2 b _,e=>by simp at e;obtain⟨rfl,rfl⟩:=e;exact⟨_,_,_,_,rfl,h1,h2,b⟩
 |_,_,_,i+1,_,_,.d _ t,e=>by obtain⟨v,x,a,sub,h⟩:=X5.getP (i:=i) t (by simpa using e);exact⟨v,x,a,sub,by simpa using h⟩
 |_,_,_,i+1,_,_,.o _ t,e=>by obtain⟨v,x,a,sub,h⟩:=X5.getP (i:=i) t (by simpa using e);exact⟨v,x,a,sub,by simpa using h⟩
 |_,_,_,i+1,_,_,.p _ _ _ t,e=>by obtain⟨v,x,a,sub,h⟩:=X5.getP (i:=i) t (by simpa using e);exact⟨v,x,a,sub,by simpa using h⟩
theorem X5.getO:∀{N:Ul->Prop}{vs:List V}{as:List AV}{i j:Nat},X5 K N H σ vs as->as[i]?=b3 (.o j)->∃v,vs[i]?=b3 v/\σ[j]?=b3 (b3 v)
 |_,_,_,_,_,.nil,e=>by simp at e
 |_,_,_,0,_,.d h _,e=>by simp at e
 |_,_,_,0,_,.o h _,e=>by simp at e;subst e;exact⟨_,rfl,h⟩
 |_,_,_,0,_,.p _ _ _ _,e=>by simp at e
 |_,_,_,i+1,_,.p _ _ _ t,e=>by obtain⟨u,h1,h2⟩:=X5.getO (i:=i) t (by simpa using e);exact⟨u,by simpa using h1,h2⟩
 |_,_,_,i+1,_,.d _ t,e=>by obtain⟨u,h1,h2⟩:=X5.getO (i:=i) t (by simpa using e);exact⟨u,by simpa using h1,h2⟩
 |_,_,_,i+1,_,.o _ t,e=>by obtain⟨u,h1,h2⟩:=X5.getO (i:=i) t (by simpa using e);exact⟨u,by simpa using h1,h2⟩
def argD(δ:Ev):AV->Option cU
 |.d d=>b3 d
 |.o j=>slot δ j
 |.p j k=>part δ j k
def W6(δ:Ev):List AV->Option (List cU)
 |[]=>b3 []
 |a::as=>(argD δ a).bind λd=>(W6 δ as).map λds=>d::ds
theorem KH:∀{as:List AV}{ds:List cU},W6 δ as=b3 ds->as.length=ds.length/\∀(i:Nat) (d:cU),ds[i]?=b3 d->∃a,as[i]?=b3 a/\argD δ a=b3 d
 |[],ds,h=>by cases h;exact⟨rfl,λi d e=>by simp at e⟩
 | a :: as,ds,h => by
  unfold W6 at h;obtain⟨d,h1,h⟩:=Aa.mp h;cases h2:W6 δ as with
  |none=>simp[h2]at h
  |some k=>
   simp only[Ai,h2]at h;cases h;obtain⟨l,g⟩:=KH h2;refine⟨by simp[l],λi e c=>?_⟩;cases i with
   |zero=>cases c;exact⟨a,rfl,h1⟩
   |succ i=>
    obtain⟨b,j,f⟩:=g i e (by simpa using c);exact⟨b,by simpa using j,f⟩
noncomputable def WQ:List AV->List Nat
 |[]=>[]
 |.d _::as=>WQ as
 |.o j::as=>j::WQ as
 |.p j _::as=>j::WQ as
theorem UD:∀{as:List AV}{i j:Nat},as[i]?=b3 (.o j)->j∈WQ as
 |[],_,_,e=>by simp at e
 |.d _::as,0,j,e=>by simp at e
 |.o k::as,0,j,e=>by simp at e;subst e;exact Au
 |.d _::as,i+1,j,e=>UD (as:=as) (i:=i) (by simpa using e)
 |.o k::as,i+1,j,e=>An _ (UD (as:=as) (i:=i) (by simpa using e))
 |.p _ _::as,0,j,e=>by simp at e
 |.p _ _::as,i+1,j,e=>An _ (UD (as:=as) (i:=i) (by simpa using e))
theorem QV:∀{as:List AV}{i j k:Nat},as[i]?=b3 (.p j k)->j∈WQ as
 |[],_,_,_,e=>by simp at e
 |.d _::as,0,j,_,e=>by simp at e
 |.o _::as,0,j,_,e=>by simp at e
 |.p a b::as,0,j,_,e=>by simp at e;rw[e.1];exact Au
 |.d _::as,i+1,j,_,e=>QV (as:=as) (i:=i) (by simpa using e)
 |.o k::as,i+1,j,_,e=>An _ (QV (as:=as) (i:=i) (by simpa using e))
 |.p _ _::as,i+1,j,_,e=>An _ (QV (as:=as) (i:=i) (by simpa using e))
theorem GQ:∀{as:List AV}{j:Nat},j∈WQ as->(∃i:Nat,as[i]?=b3 (AV.o j))∨∃i k:Nat,as[i]?=b3 (AV.p j k)
 |[],_,h=>nomatch h
 |.d _::as,j,h=>by
  rcases GQ (as:=as) h with⟨i,e⟩|⟨i,k,e⟩
  ·exact .inl ⟨i+1,by simpa using e⟩
  ·exact .inr ⟨i+1,k,by simpa using e⟩
 | .o k :: as,j,h => by
  rcases Am.mp h with e|e
  ·exact .inl ⟨0,by rw[e];rfl⟩
  ·rcases GQ (as:=as) e with⟨i,e⟩|⟨i,k,e⟩
   ·exact .inl ⟨i+1,by simpa using e⟩
   ·exact .inr ⟨i+1,k,by simpa using e⟩
 | .p k b :: as,j,h => by
  rcases Am.mp h with e|e
  ·exact .inr ⟨0,b,by rw[e];rfl⟩
  ·rcases GQ (as:=as) e with⟨i,e⟩|⟨i,k,e⟩
   ·exact .inl ⟨i+1,by simpa using e⟩
   ·exact .inr ⟨i+1,k,by simpa using e⟩
theorem NE:∀{as:List AV}{i k j:Nat},(WQ as).Nodup->as[i]?=b3 (.o j)->as[k]?=b3 (.o j)->i=k
 |[],_,_,_,_,e,_=>by simp at e
 |.d _::as,0,_,j,_,e,_=>by simp at e
 |.d _::as,_+1,0,j,_,_,e=>by simp at e
 |.d _::as,i+1,k+1,j,n,b,a=>congrArg (· +1) (NE (as:=as) n (by simpa using b) (by simpa using a))
 |.p _ _::as,0,_,j,_,e,_=>by simp at e
 |.p _ _::as,_+1,0,j,_,_,e=>by simp at e
 |.p _ _::as,i+1,k+1,j,n,b,a=>congrArg (· +1) (NE (as:=as) (Cb.mp n).2 (by simpa using b) (by simpa using a))
 |.o x::as,0,0,j,_,_,_=>rfl
 |.o x::as,0,k+1,j,n,b,a=>by
  simp at b;subst b;have h:as[k]?=b3 (.o x):=by simpa using a
  exact absurd (UD h) (Cb.mp n).1
 |.o x::as,i+1,0,j,n,b,a=>by
  simp at a;subst a;have h:as[i]?=b3 (.o x):=by simpa using b
  exact absurd (UD h) (Cb.mp n).1
 |.o x::as,i+1,k+1,j,n,b,a=>congrArg (· +1) (NE (as:=as) (Cb.mp n).2 (by simpa using b) (by simpa using a))
theorem OM:∀{as:List AV}{i k j b:Nat},(WQ as).Nodup->as[i]?=b3 (.o j)->as[k]?=b3 (.p j b)->False
 |[],_,_,_,_,_,e,_=>by simp at e
 |.d _::as,0,_,_,_,_,e,_=>by simp at e
 |.d _::as,_+1,0,_,_,_,_,e=>by simp at e
 |.d _::as,i+1,k+1,j,b,n,c,a=>OM (as:=as) (i:=i) (k:=k) n (by simpa using c) (by simpa using a)
 |.o x::as,0,0,_,_,_,_,e=>by simp at e
 |.o x::as,0,k+1,j,b,n,c,a=>by
  simp at c;subst c;have h:as[k]?=b3 (.p x b):=by simpa using a
  exact absurd (QV h) (Cb.mp n).1
 |.o x::as,_+1,0,_,_,_,_,e=>by simp at e
 |.o x::as,i+1,k+1,j,b,n,c,a=>OM (as:=as) (i:=i) (k:=k) (Cb.mp n).2 (by simpa using c) (by simpa using a)
 |.p x y::as,0,_,_,_,_,e,_=>by simp at e
 |.p x y::as,i+1,0,j,b,n,c,a=>by
  simp at a;obtain⟨rfl,_⟩:=a;have h:as[i]?=b3 (.o x):=by simpa using c
  exact absurd (UD h) (Cb.mp n).1
 |.p x y::as,i+1,k+1,j,b,n,c,a=>OM (as:=as) (i:=i) (k:=k) (Cb.mp n).2 (by simpa using c) (by simpa using a)
noncomputable def DC(δ:Ev)(as:List AV)(i:Nat):Bool:=match as[i]? with
 |some (.o j)=>match δ[j]? with
  |some (.ow _)=>ba
  |_=>bb
 |_=>bb
noncomputable def X8(mF:List Nat):List AV->Nat->Bool
 |[],_=>ba
 |.d _::as,i=>X8 mF as (i+1)
 |.o _::as,i=>decide (i∈mF)&&X8 mF as (i+1)
 |.p _ _::_,_=>bb
theorem S9{mF:List Nat}:∀{as:List AV}{k i j b:Nat},X8 mF as k=ba->as[i]? ≠b3 (.p j b)
 |[],_,_,_,_,_=>by simp
 |.d _::as,k,0,j,_,_=>by simp
 |.o _::as,k,0,j,_,_=>by simp
 |.p _ _::_,_,_,_,_,h=>by simp[X8]at h
 |.d _::as,k,i+1,j,_,h=>by
  have:=S9 (as:=as) (k:=k+1) (i:=i) (j:=j) (b:=by assumption) h
  simpa using this
 |.o _::as,k,i+1,j,_,h=>by
  simp only[X8,Ad]at h;have:=S9 (as:=as) (k:=k+1) (i:=i) (j:=j) (b:=by assumption) h.2
  simpa using this
theorem SZ{mF:List Nat}:∀{as:List AV}{k i j:Nat},X8 mF as k=ba->as[i]?=b3 (.o j)->k+i∈mF
 |[],_,_,_,_,e=>by simp at e
 |.d _::as,k,0,j,h,e=>by simp at e
 |.p _ _::_,_,_,_,h,_=>by simp[X8]at h
 |.o _::as,k,0,j,h,e=>by simp only[X8,Ad,decide_eq_true_eq]at h;exact h.1
 |.d _::as,k,i+1,j,h,e=>by
  have:=SZ (as:=as) (k:=k+1) (i:=i) (j:=j) h (by simpa using e)
  rwa[show k+(i+1)=k+1+i by lia]
 |.o _::as,k,i+1,j,h,e=>by
  simp only[X8,Ad]at h;have:=SZ (as:=as) (k:=k+1) (i:=i) (j:=j) h.2 (by simpa using e)
  rwa[show k+(i+1)=k+1+i by lia]
def UE:cU->Bool
 |.lst ds=>U0 ds
 |.dct _ ds=>U0 ds
 |.nst _ ds=>U0 ds
 |_=>bb
def SJ.kids{N N':Ul->Prop}{a:Ul}(w:SJ K N H a d)(h:UE d=ba):SJ K N' H a d:=by
 cases w with
 |lst q r=>exact .lst q (r.hard h)
 |dct q r=>exact .dct q (r.hard h)
 |nst q r=>exact .nst q (r.hard h)
noncomputable def WM(as:List AV):List Nat->List cU->Ev->Ev
 |i::is,o::os,δ=>match as[i]? with
  |some (.o j)=>WM as is os (δ.set j (.ow o))
  |_=>WM as is os δ
 |_,_,δ=>δ
theorem Q6{as:List AV}:∀{is:List Nat}{os:List cU}{δ:Ev},(WM as is os δ).length=δ.length
 |[],_,_=>rfl
 |_::_,[],_=>rfl
 |i::is,o::os,δ=>by
  unfold WM;split
  ·rw[Q6,Cd]
  ·rw[Q6]
theorem NS{as:List AV}:∀{is:List Nat}{os:List cU}{δ:Ev}(j:Nat),is.length=os.length->j<δ.length->(∃(k i:Nat) (o:cU),is[k]?=b3 i/\os[k]?=b3 o/\as[i]?=b3 (AV.o j)/\(WM as is os δ)[j]?=b3 (Sl.ow o))∨((∀i∈is,as[i]? ≠b3 (AV.o j))/\(WM as is os δ)[j]?=δ[j]?)
 |[],[],δ,j,_,_=>.inr ⟨(λi h=>nomatch h),rfl⟩
 | i :: is,o :: os,δ,j,hl,d => by
  unfold WM;split
  ·rename_i g l
   rcases NS (is:=is) (os:=os) (δ:=δ.set g (.ow o)) j (by simpa using hl) (by rw[Cd];exact d)with⟨k,a,o',h1,h2,f,e⟩|⟨h1,h2⟩
   ·exact .inl ⟨k+1,a,o',by simpa using h1,by simpa using h2,f,e⟩
   ·by_cases b:j=g
    ·subst b
     rw[Dd d]at h2;exact .inl ⟨0,i,o,rfl,rfl,l,h2⟩
    ·rw[Bz (Di b)]at h2
     refine .inr ⟨λa c=>?_,h2⟩;rcases Am.mp c with z|z
     ·rw[z,l]
      intro w;cases w;exact b rfl
     ·exact h1 a z
  ·rename_i m
   rcases NS (is:=is) (os:=os) (δ:=δ) j (by simpa using hl) d with⟨k,a,o',h1,h2,f,e⟩|⟨h1,h2⟩
   ·exact .inl ⟨k+1,a,o',by simpa using h1,by simpa using h2,f,e⟩
   ·refine .inr ⟨λa c => ?_,h2⟩
    rcases Am.mp c with z|z
    ·rw[z]
     exact λw=>m j w
    ·exact h1 a z
def U6(mF:List Nat)(as:List AV)(δ:Ev):Bool:=mF.all (DC δ as)&&decide (WQ as).Nodup
def WB(mF:List Nat)(as:List AV)(r:cU)(os:List cU):Bool:=(X8 mF as 0 || r.hard)&&(X8 mF as 0 || os.all UE)&&decide (mF.length=os.length)
def cI(n:Nat)(mF:List Nat)(F:bP)(fs:T1):VF:=λδ=>(fs δ).bind λp=>(W6 p.2 p.1).bind λds=>if ds.length=n/\U6 mF p.1 p.2=ba then(F ds).bind λq=>if WB mF p.1 q.1 q.2=ba then b3 (q.1,WM p.1 mF q.2 p.2)else b4 else b4
def OR{n:Nat}{mF:List Nat}{F:bP}{fs:T1}{Q:VK}(h:TV K ml (ps && mF.isEmpty) ba ba (cI n mF F fs) σ H Q):EC (spV K mF n F) [] E0 (CM K ml ps fs) σ H Q:=by
 obtain⟨B,O,δ,d,δ2,S,q,k⟩:=h;unfold cI at q;obtain⟨⟨as,δ1⟩,h1,q⟩:=Aa.mp q;have q:((W6 δ1 as).bind λds=>if ds.length=n/\U6 mF as δ1=ba then(F ds).bind λq=>if WB mF as q.1 q.2=ba then b3 (q.1,WM as mF q.2 δ1)else b4 else b4)=b3 (d,δ2):=q;obtain⟨ds,h2,q⟩:=Aa.mp q;have q:(if ds.length=n/\U6 mF as δ1=ba then(F ds).bind λq=>if WB mF as q.1 q.2=ba then b3 (q.1,WM as mF q.2 δ1)else b4 else b4)=b3 (d,δ2):=q;split at q
 ·rename_i hc
  obtain⟨⟨r,os⟩,h3,q⟩:=Aa.mp q;have q:(if WB mF as r os=ba then b3 (r,WM as mF os δ1)else b4)=b3 (d,δ2):=q;split at q
  ·rename_i U
   cases q;obtain⟨hn,hc⟩:=hc;simp only[U6,Ad,decide_eq_true_eq,Dn]at hc;simp only[WB,Ad,decide_eq_true_eq]at U;obtain⟨hmu,hnd⟩:=hc;obtain⟨⟨oa,p3⟩,ah⟩:=U;refine⟨B,O,δ,as,δ1,S,h1,λvs H1 R=>?_⟩;show spV K mF n F (vs++[]) H1 Q E0;rw[Eo];obtain⟨V,W⟩:=KH h2;have N:∀i∈mF,∃j a x,as[i]?=b3 (.o j)/\δ1[j]?=b3 (.ow x)/\O j=b3 a/\vs[i]?=b3 (.ref a)/\SJ K (Nn B O) H1 a x:=λi hi=>by
    have:=hmu i hi
    unfold DC at this;split at this
    ·rename_i j ej
     split at this
     ·rename_i x ex
      obtain⟨a,c,m,w⟩:=R.sta.ow j x ex;obtain⟨v,l,C⟩:=R.rep.getO ej;rw[m]at C;cases C;exact⟨j,a,x,ej,ex,c,l,w⟩
     ·cases this
    ·cases this
   have Z:∀a,QL mF vs a->∃i j,i∈mF/\as[i]?=b3 (.o j)/\O j=b3 a:=λa q0=>by obtain⟨i,hi,e⟩:=q0;obtain⟨j,a',x,c,_,m,l,_⟩:=N i hi;rw[e]at l;cases l;exact⟨i,j,hi,c,m⟩
   have T:∀a,QL mF vs a->OA O a:=λa h=>by obtain⟨i,j,_,_,e⟩:=Z a h;exact⟨j,e⟩
   have A:∀a,Zp (λa=>Nn B O a/\∀j∈WQ as,O j≠b3 a) mF vs a->Nn B O a:=λa h=>by
    rcases h with h|h
    ·exact h.1
    ·exact .inr (T a h)
   refine⟨λa=>Nn B O a/\∀j∈WQ as,O j≠b3 a,ds,_,os,hn,⟨by rw[<-V,R.rep.length],λi hi=>?_,λi x hi e=>?_,λi x hi e=>?_,λi j a hi Y c m=>?_,λa h=>R.sta.nin h.1⟩,h3,λv H2 f2 w2 r2=>?_⟩
   ·obtain⟨j,a,x,c,_⟩:=N i hi
    rw[<-V];exact(Ag.mp c).1
   ·obtain⟨a,c,m⟩:=W i x e
    cases a with
    |d y=>
     cases m;obtain⟨v,l,r⟩:=R.rep.getD c;exact⟨v,l,r.mono A A⟩
    |o j=>
     obtain⟨v,l,C⟩:=R.rep.getO c;refine⟨v,l,?_⟩;rcases LU m with D|D
     ·obtain⟨v',E,r⟩:=R.sta.va j x D
      rw[C]at E;cases E;exact r.mono A A
     ·obtain⟨a,M,E,w⟩:=R.sta.ow j x D
      rw[C]at E;cases E;refine(w.mono A).rep λz=>?_;rcases z with z|z
      ·exact z.2 j (UD c) M
      ·obtain⟨P,g,f,L,J⟩:=Z a z
       have:j=g:=R.sta.inj j g a M J
       subst this;have:=NE hnd c L
       subst this;exact hi f
    |p j b=>
     obtain⟨v,y,us,sub,l,C,D,E⟩:=R.rep.getP c;obtain⟨sh,ds1,es,M,L,rfl⟩:=V4 m;obtain⟨y',J,t,w⟩:=R.sta.ow j _ M;rw[C]at t;cases t;cases w with
     |nst q r=>
      obtain⟨us',fw,s,ow,sp⟩:=q;rw[D]at s;cases s;obtain⟨p,zs,G,X,rz⟩:=sp.getL r L;rw[E]at G;cases G;refine⟨_,l,.fzm (xs:=zs) (.inr ⟨y,us,sub,ow p zs X,D,λz=>?_,X⟩) (rz.mono A)⟩;rcases z with z|z
      ·exact z.2 j (QV c) J
      ·obtain⟨P,g,f,e14,e15⟩:=Z y z
       have:j=g:=R.sta.inj j g y J e15
       subst this;exact OM hnd e14 c
   ·obtain⟨a,c,m⟩:=W i x e
    obtain⟨j,b,y,l,C,D,E,w⟩:=N i hi;rw[l]at c;cases c;have M:slot δ1 j=b3 y:=by unfold slot;rw[C]
    have m:slot δ1 j=b3 x:=m;rw[M]at m;cases m;exact⟨b,E,w.mono A,λz=>z.2 j (UD l) D⟩
   ·obtain⟨j1,b1,_,l,_,C,D,_⟩:=N i hi
    obtain⟨j2,b2,_,E,_,M,L,_⟩:=N j Y;rw[c]at D;cases D;rw[m]at L;cases L;have:j1=j2:=R.sta.inj j1 j2 a C M
    subst this;exact NE hnd l E
   ·have S2:aU K ml B O H2 σ (WM as mF os δ1):=by
     refine R.sta.call Q6 (λj=>?_) f2 T;by_cases Y:j<δ1.length
     ·rcases NS (as:=as) (is:=mF) (os:=os) (δ:=δ1) j ah Y with⟨kk,i,o,c,m,l,C⟩|⟨c,m⟩
      ·obtain⟨g,a,x,D,_,E,M,_⟩:=N i (Dt c)
       rw[l]at D;cases D;have w:=w2 kk i a o c M m;refine .inr ⟨a,o,E,C,?_⟩;rcases(Hu _ _).mp p3 with z|z
       ·refine w.mono λb U => ?_
        by_cases I:∃g∈WQ as,O g=b3 b
        ·obtain⟨g,u,L⟩:=I
         obtain⟨P,J⟩:=(GQ u).resolve_right λ⟨_,_,e⟩=>S9 z e;have f:=SZ z J;rw[Ki]at f;obtain⟨j'',a'',_,t,_,s,G,_⟩:=N P f;rw[J]at t;cases t;rw[L]at s;cases s;exact .inr ⟨P,f,G⟩
        ·exact .inl ⟨U,λg u e=>I ⟨g,u,e⟩⟩
       ·exact w.kids (Dn.mp z o (Dt m))
      ·refine .inl ⟨m,λa ea hPa => ?_⟩
       obtain⟨i,g,hi,l,C⟩:=Z a hPa;have:j=g:=R.sta.inj j g a ea C
       subst this;exact c i hi l
     ·refine .inl ⟨?_,λa ea => ?_⟩
      ·rw[Ee (by rw[Q6];lia),Ee (by lia)]
      ·obtain⟨x,ex⟩:=R.sta.dom j a ea
       exact absurd (Ag.mp ex).1 Y
    refine k v H2 ⟨S2,R.frm.trans (f2.mono T),λz=>?_,?_⟩
    ·obtain⟨z1,z2⟩:=(Ad _ _).mp z
     refine(R.pur z1).trans λb o e=>f2 b o e λw=>?_;obtain⟨i,hi,_⟩:=w;rw[Qp.mp z2]at hi;cases hi
    ·rcases(Hu _ _).mp oa with z|z
     ·have hN : ∀ a,Nn B O a -> Zp (λa => Nn B O a /\ ∀ j ∈ WQ as,O j ≠ b3 a) mF vs a := λb U => by
       by_cases I:∃g∈WQ as,O g=b3 b
       ·obtain⟨g,u,L⟩:=I
        obtain⟨P,J⟩:=(GQ u).resolve_right λ⟨_,_,e⟩=>S9 z e;have f:=SZ z J;rw[Ki]at f;obtain⟨j'',a'',_,t,_,s,G,_⟩:=N P f;rw[J]at t;cases t;rw[L]at s;cases s;exact .inr ⟨P,f,G⟩
       ·exact .inl ⟨U,λg u e=>I ⟨g,u,e⟩⟩
      exact r2.mono hN hN
     ·exact r2.hard z
  ·cases q
 ·cases q
def dZ{x:Uq}{c j n:Nat}{d:List Uq}{mF:List Nat}{F:bP}{m:Ul}{p':Pos}{fs:T1}(l:X.K=K)(D:Def X.prog X.w K X.mg X.base x c d (spV K mF n F) m)(f:YT j X.A)(hk:c<=j)(g:Gl X x)(k:PA X (e::es) (CM K ml ps fs))(b:ND x:=by decide)(i:SE X e es:=by rfl)(a:(Fb pos (Um es X.env)).any (·.1)=bb:=by rfl):PE X (.Call (.Name x p') (e::es) [] pos) (TV K ml (ps&&mF.isEmpty) ba ba (cI n mF F fs)):=by subst l;exact(NN D f hk g k b i a).imp λ_ _ _ h=>OR h
end
section
variable{X:Cx}{K:Ah}{ml:List Nat}{e a b c:Us}{es:List Us}{pi pt pe pu bt bi ps bs:Bool}{f:VF}{B B':Bs}{O:Nat->Option Ul}{H H0 H1 H':Hp}{σ:St}{δ δ':Ev}{v:V}{d:cU}{p:Ul}{pos:Pos}{ix:List Nat}{nl:Nat}
def aM(ix:List Nat)(δ:Ev):Ev:=ix.map λi=>(δ[i]?).getD .no
def F7(nl:Nat):Ev:=Aw nl Sl.no
noncomputable def ZO(n nl:Nat)(gg:VG)(tb:VB)(fe:VF):List cU->List cU->Ev->Option (List cU×Ev)
 |[],acc,δ=>b3 (acc,δ)
 |d::r,acc,δ=>(gg d (δ++F7 nl)).bind λδ1=>(tb δ1).bind λp=>if p.1=ba then(fe p.2).bind λq=>if acc.length<16777216 then ZO n nl gg tb fe r (acc++[q.1]) (q.2.take n)else b4 else ZO n nl gg tb fe r acc (p.2.take n)
noncomputable def YU:List Nat->Ev->Ev->Ev
 |i::is,s::ss,δ=>match s with
  |.ow d=>YU is ss (δ.set i (.ow d))
  |_=>YU is ss δ
 |_,_,δ=>δ
def ZP(ix:List Nat)(nl:Nat)(fi:VI)(gg:VG)(tb:VB)(fe:VF):VF:=λδ=>(fi δ).bind λp=>(ZO ix.length nl gg tb fe p.1 [] (aM ix p.2)).map λq=>(.lst q.1,YU ix q.2 p.2)
def UW:VB:=λδ=>b3 (ba,δ)
theorem PQ:∀{ix:List Nat}{ss δ:Ev},(YU ix ss δ).length=δ.length
 |[],_,_=>rfl
 |_::_,[],_=>rfl
 |i::is,s::ss,δ=>by
  cases s<;>simp only[YU]<;>rw[PQ]<;>try rw[Cd]
theorem TD:∀{ix:List Nat}{ss δ:Ev}(i:Nat),i<δ.length->ix.length=ss.length->(∃(j:Nat) (d:cU),ix[j]?=b3 i/\ss[j]?=b3 (Sl.ow d)/\(YU ix ss δ)[i]?=b3 (Sl.ow d))∨((∀(j:Nat) (d:cU),ix[j]?=b3 i->ss[j]? ≠b3 (Sl.ow d))/\(YU ix ss δ)[i]?=δ[i]?)
 |[],ss,δ,i,hi,hl=>.inr ⟨(λj d h=>by simp at h),rfl⟩
 |k::is,[],δ,i,hi,hl=>by cases hl
 | k :: is,s :: ss,δ,i,hi,hl => by
  have a:is.length=ss.length:=by simpa using hl
  cases s with
  |ow d=>
   simp only[YU];rcases TD (ix:=is) (ss:=ss) (δ:=δ.set k (.ow d)) i (by rw[Cd];exact hi) a with⟨j,d',h1,h2,b⟩|⟨h1,h2⟩
   ·exact .inl ⟨j+1,d',by simpa using h1,by simpa using h2,b⟩
   ·by_cases hk:i=k
    ·subst hk
     rw[Dd hi]at h2;exact .inl ⟨0,d,rfl,rfl,h2⟩
    ·rw[Bz (Di hk)]at h2
     refine .inr ⟨λj d' e=>?_,h2⟩;cases j with
     |zero=>cases e;exact absurd rfl hk
     |succ j=>simpa using h1 j d' (by simpa using e)
  |va d=>
   simp only[YU];rcases TD (ix:=is) (ss:=ss) (δ:=δ) i hi a with⟨j,d',h1,h2,b⟩|⟨h1,h2⟩
   ·exact .inl ⟨j+1,d',by simpa using h1,by simpa using h2,b⟩
   ·refine .inr ⟨λj d' e => ?_,h2⟩
    cases j with
    |zero=>simp
    |succ j=>simpa using h1 j d' (by simpa using e)
  |no=>
   simp only[YU];rcases TD (ix:=is) (ss:=ss) (δ:=δ) i hi a with⟨j,d',h1,h2,b⟩|⟨h1,h2⟩
   ·exact .inl ⟨j+1,d',by simpa using h1,by simpa using h2,b⟩
   ·refine .inr ⟨λj d' e => ?_,h2⟩
    cases j with
    |zero=>simp
    |succ j=>simpa using h1 j d' (by simpa using e)
def Oc(ix:List Nat)(O:Nat->Option Ul):Nat->Option Ul:=λj=>(ix[j]?).bind O
def Bc(ix:List Nat)(B:Bs)(O:Nat->Option Ul)(H0:Hp)(D:Ul)(kp:List (V×cU)):Bs:=
 ⟨λa=>(B.Z a∨a=D)∨∃i,O i=b3 a/\i∉ix,OA (Oc ix O),H0,Oc ix O,kp⟩
def NJ{D:Ul}{kp:List (V×cU)}:∀a,Nn (Bc ix B O H0 D kp) (Oc ix O) a->Nn B O a∨a=D:=λa h=>by
 rcases h with((h|h)|⟨i,h,_⟩)|⟨j,h⟩
 ·exact .inl (.inl h)
 ·exact .inr h
 ·exact .inl (.inr ⟨i,h⟩)
 ·unfold Oc at h
  cases q:ix[j]? with
  |none=>rw[q]at h;cases h
  |some i=>rw[q]at h;exact .inl (.inr ⟨i,h⟩)
def FA{D:Ul}{kp:List (V×cU)}:∀a,Nn (B.add D) O a->Nn (Bc ix B O H0 D kp) (Oc ix O) a:=λa h=>by
 rcases h with h|⟨i,h⟩
 ·exact .inl (.inl h)
 ·by_cases hi:i∈ix
  ·obtain⟨j,b⟩:=Mq.mp hi
   exact .inr ⟨j,by unfold Oc;rw[b];exact h⟩
  ·exact .inl (.inr ⟨i,h,hi⟩)
def aU.withKp{kp:List (V×cU)}(S:aU K ml B O H σ δ)(h:∀p∈kp,bO K (Nn B O) H (Nn B O) p.1 p.2):aU K ml {B with kp:=kp} O H σ δ:=
 ⟨S.len,S.va,S.ow,S.dom,S.inj,S.old,S.zin,S.frm,S.par,S.pin,h⟩
def aU.writeZ{D:Ul}{o:HO}{acc:List V}(S:aU K ml B O H σ δ)(k:B.Z D)(hl:H D=b3 (.lst acc))(m:B.H0 D=b4):aU K ml B O (upd H D o) σ δ:=by
 have j:Fr (λb=>b=D) H (upd H D o):=λb u q n=>by
  by_cases c:b=D
  ·subst c
   rw[hl]at q;cases q;exact absurd (n rfl) λz=>z
  ·rw[bZ c]
   exact q
 have g:∀b,b=D->Nn B O b:=λb z=>.inl (z▸k);have f:∀b,(∃u,H b=b3 u)->∃u,upd H D o b=b3 u:=λb q0=>by
  obtain⟨u,q⟩:=q0;by_cases c:b=D
  ·exact⟨o,by rw[c];exact cA⟩
  ·exact⟨u,by rw[bZ c];exact q⟩
 refine⟨S.len,λi d q=>?_,λi d q=>?_,S.dom,S.inj,S.old,λb h=>f b (S.zin b h),λb u q n=>?_,S.par,λb h=>f b (S.pin b h),λp l=>(S.kep p l).fr j g g⟩
 ·obtain⟨v,e,r⟩:=S.va i d q
  exact⟨v,e,r.fr j g g⟩
 ·obtain⟨a,e,s,w⟩:=S.ow i d q
  exact⟨a,e,s,w.fr j g λz=>(S.old i a e).1 (z▸k)⟩
 ·have c : b ≠ D := λz => by rw [z,m]at q;cases q
  rw[bZ c];exact S.frm b u q n
def KR{j:Nat}{s:Sl}(h:(aM ix δ++F7 nl)[j]?=b3 s):(∃i,ix[j]?=b3 i/\s=(δ[i]?).getD .no)∨s=.no:=by
 unfold aM F7 at h;by_cases a:j<ix.length
 ·rw [Ao (by simpa using a),Ds]at h
  cases q:ix[j]? with
  |none=>rw[q]at h;cases h
  |some i=>rw[q]at h;cases h;exact .inl ⟨i,rfl,rfl⟩
 ·rw [Bo (by simpa using a),Dr]at h
  split at h
  ·cases h;exact .inr rfl
  ·cases h
def GF{i j:Nat}{v:V}(hi:ix[j]?=b3 i)(h:σ[i]?=b3 (b3 v)):(YF ix σ++Aw nl b4)[j]?=b3 (b3 v):=by have a:j<ix.length:=(Ag.mp hi).1;unfold YF;rw[Ao (by simpa using a),Ds,hi];show b3 ((σ[i]?).join)=_;rw[h];rfl
def aU.inner{D:Ul}(S:aU K ml B O H0 σ δ)(b:H0 D=b4)(hnd:ix.Nodup){m:List (V×cU)}(hk:∀p∈m,bO K (Nn B O) H0 (Nn B O) p.1 p.2):
  aU K (Bf ix.length) (Bc ix B O H0 D m) (Oc ix O) (upd H0 D (.lst [])) (YF ix σ++Aw nl b4) (aM ix δ++F7 nl) where
 len:=by simp[YF,aM,F7]
 va := λj d e => by
  rcases KR e with⟨i,hi,q⟩|q
  ·have q:δ[i]? =b3 (.va d):=by
    cases w:δ[i]? with
    |none=>rw[w]at q;cases q
    |some s=>rw[w]at q;rw[show s=.va d from q.symm]
   obtain⟨v,c,r⟩:=S.va i d q;exact⟨v,GF hi c,(r.away b _ _ NJ NJ).same (cP b)⟩
  ·cases q
 ow := λj d e => by
  rcases KR e with⟨i,hi,q⟩|q
  ·have q:δ[i]? =b3 (.ow d):=by
    cases w:δ[i]? with
    |none=>rw[w]at q;cases q
    |some s=>rw[w]at q;rw[show s=.ow d from q.symm]
   obtain⟨a,c,f,w⟩:=S.ow i d q;refine⟨a,by unfold Oc;rw[hi];exact c,GF hi f,?_⟩;cases w with
   |lst l r=>exact .lst (cP b _ _ l) ((r.away b _ _ NJ).same (cP b))
   |dct l r=>exact .dct (cP b _ _ l) ((r.away b _ _ NJ).same (cP b))
   |nst l r=>exact .nst (l.same (cP b)) ((r.away b _ _ NJ).same (cP b))
  ·cases q
 dom:=λj a e=>by unfold Oc at e;obtain⟨i,hi,e⟩:=Aa.mp e;obtain⟨d,q⟩:=S.dom i a e;refine⟨d,?_⟩;have x:j<ix.length:=(Ag.mp hi).1;unfold aM;rw[Ao (by simpa using x),Ds,hi];show b3 ((δ[i]?).getD .no)=_;rw[q];rfl
 inj:=λj k a c f=>by
  unfold Oc at c f;cases hi:ix[j]? with
  |none=>rw[hi]at c;cases c
  |some i=>
   cases hk:ix[k]? with
   |none=>rw[hk]at f;cases f
   |some t=>
    rw[hi]at c;rw[hk]at f;have:i=t:=S.inj i t a c f
    subst this;obtain⟨A,q1⟩:=Ag.mp hi;obtain⟨y,q2⟩:=Ag.mp hk;exact(Qm hnd).mp (q1.trans q2.symm)
 old:=λj a e=>by
  have g:=e;unfold Oc at g;cases hi:ix[j]? with
  |none=>rw[hi]at g;cases g
  |some i=>
   rw[hi]at g;refine⟨λz=>?_,.inl ⟨j,e⟩⟩;rcases z with(z|z)|⟨t,z,n⟩
   ·exact(S.old i a g).1 z
   ·obtain⟨o,q⟩:=S.nin (.inr ⟨i,g⟩)
    rw[z,b]at q;cases q
   ·have:i=t:=S.inj i t a g z
    subst this;exact n (Dt hi)
 zin:=λa h=>by
  rcases h with(h|h)|⟨i,h,_⟩
  ·obtain⟨o,q⟩:=S.zin a h
   exact⟨o,cP b _ _ q⟩
  ·exact⟨_,by rw[h];exact cA⟩
  ·obtain⟨o,q⟩:=S.nin (.inr ⟨i,h⟩)
   exact⟨o,cP b _ _ q⟩
 frm:=(cP b).fr
 par:=⟨λj a e=>by
  have e:(ix[j]?).bind O=b3 a:=e;cases hi:ix[j]? with
  |none=>rw[hi]at e;cases e
  |some i=>exact Db.mpr (Ag.mp hi).1,λj _=>rfl⟩
 pin:=λa q0=>by obtain⟨j,e⟩:=q0;unfold Oc at e;obtain⟨i,hi,e⟩:=Aa.mp e;obtain⟨o,q⟩:=S.nin (.inr ⟨i,e⟩);exact⟨o,cP b _ _ q⟩
 kep:=λp u=>((hk p u).away b _ _ NJ NJ).same (cP b)
def aU.turn{l:Nat->Option Ul}{f:St}{n:Nat}{m:St}(S:aU K (Bf n) B l H f δ)(C:∀j,n<=j->B.mu j=b4)(x:m.length=n)(o:f.take n=m)(D:n<=δ.length):aU K (Bf n) B B.mu H (m++Aw nl b4) (δ.take n++F7 nl):=by
 have z:∀j,j<n->l j=B.mu j:=λj b=>S.par.2 j (Db.mpr b);have c:∀j a,B.mu j=b3 a->l j=b3 a:=λj a e=>by rw[z j (Db.mp (S.par.1 j a e))];exact e
 have g:∀a,Nn B B.mu a->Nn B l a:=λa h=>by
  rcases h with h|⟨j,h⟩
  ·exact .inl h
  ·exact .inr ⟨j,c j a h⟩
 have y:∀(j:Nat) (s:Sl),(δ.take n++F7 nl)[j]?=b3 s->(j<n/\δ[j]?=b3 s)∨s=.no:=λj s h=>by
  have hl:(δ.take n).length=n:=by rw[Cr];lia
  by_cases b:j<n
  ·rw [Ao (by rw [hl];exact b),Df b]at h
   exact .inl ⟨b,h⟩
  ·unfold F7 at h
   rw[Bo (by rw[hl];lia),Dr]at h;split at h
   ·cases h;exact .inr rfl
   ·cases h
 have u:∀(j:Nat) (v:V),j<n->f[j]?=b3 (b3 v)->(m++Aw nl b4)[j]?=b3 (b3 v):=λj v b e=>by rw[Ao (by rw[x];exact b),<-o,Df b];exact e
 refine⟨?_,λj d e=>?_,λj d e=>?_,λj a e=>?_,λj k a i t=>S.inj j k a (c j a i) (c k a t),λj a e=>S.old j a (c j a e),S.zin,S.frm,⟨S.par.1,λj _=>rfl⟩,S.pin,λp A=>(S.kep p A).mono g g⟩
 ·simp[x,F7,Cr]
  lia
 ·rcases y j _ e with⟨b,e⟩|e
  ·obtain⟨v,i,r⟩:=S.va j d e
   exact⟨v,u j v b i,r.mono g g⟩
  ·cases e
 ·rcases y j _ e with⟨b,e⟩|e
  ·obtain⟨a,i,t,w⟩:=S.ow j d e
   exact⟨a,(z j b)▸i,u j _ b t,w.mono g⟩
  ·cases e
 ·have b:=Db.mp (S.par.1 j a e)
  obtain⟨d,q⟩:=S.dom j a (c j a e);refine⟨d,?_⟩;rw[Ao (by rw[Cr];lia),Df b];exact q
def T8(ix:List Nat)(σ:St):(YF ix σ).length=ix.length:=by simp[YF]
def B5{a:St}(hl:ix.length<=a.length)(h:∀i∈Bf ix.length,a[i]?=(YF ix σ++Aw nl b4)[i]?):a.take ix.length=YF ix σ:=by
 refine Pp λj=>?_;by_cases b:j<ix.length
 ·rw[Df b,h j (Db.mpr b),Ao (by rw[T8];exact b)]
 ·rw[Ee (by rw[Cr];lia),Ee (by rw[T8];lia)]
def gD{a:St}(d:∀i∈Bf ix.length,a[i]?=(YF ix σ++Aw nl b4)[i]?):ix.length<=a.length:=by
 by_cases hz:ix.length=0
 ·lia
 ·have b : ix.length-1 < ix.length := by lia
  have:=d (ix.length-1) (Db.mpr b)
  have c:(YF ix σ++Aw nl b4)[ix.length-1]? ≠b4:=by rw[Ao (by rw[T8];exact b)];simp[YF,b]
  rw[<-this]at c;have e:ix.length-1<a.length:=Nat.lt_of_not_le λz=>c (List.getElem?_eq_none_iff.mpr z);lia
def nZ(K:Ah)(J:It)(a:List (V×cU))(ds:List cU)(H0:Hp)(b:Bool):Prop:=∀(N:Ul->Prop) (H:Hp),(∀p∈a,bO K N H N p.1 p.2)->(b=ba->bA H0 H)->
 (∀(i:Nat) (d:cU),ds[i]?=b3 d->J.go i H/\∀x H',J.yld i H x H'->bA H H'/\bO K N H' N x d)/\J.stop ds.length H
inductive TIVq(K:Ah)(ml:List Nat)(pu b:Bool)(f:VI)(σ:St)(H:Hp)(R:It->Hp->Prop):Prop
 |mk (B:_) (O:_) (δ:_) (ds:_) (δ':_) (h0:aU K ml B O H σ δ) (h1:f δ=b3 (ds,δ')) (h2:∀J kps H',aU K ml {B with kp:=kps++B.kp} O H' σ δ'->Fr (OA O) H H'->(pu=ba->bA H H')->nZ K J kps ds H' b->R J H'):TIVq K ml pu b f σ H R
def II{fi:VI}{gg:VG}{tb:VB}{fe:VF}(hnd:ix.Nodup){Q:VK}(h:TN K ml (pi&&pt&&pe) (ZP ix nl fi gg tb fe) σ H Q):IE ix nl (TIVq K ml pi (pt&&pe) fi) (TGV K (Bf ix.length) gg) (TB K (Bf ix.length) pt tb) (TV K (Bf ix.length) pe ba ba fe) σ H Q:=by
 obtain⟨B,O,δ,d,δ2,S,q,k⟩:=h;unfold ZP at q;obtain⟨⟨ds,δ1⟩,h1,q⟩:=Aa.mp q;have q:((ZO ix.length nl gg tb fe ds [] (aM ix δ1)).map λq=>(cU.lst q.1,YU ix q.2 δ1))=b3 (d,δ2):=q;obtain⟨⟨res,l⟩,h2,q⟩:=Ap.mp q;cases q;refine⟨B,O,δ,ds,δ1,S,h1,λJ f H0 y f0 p0 wk D u=>?_⟩;have hDO:∀j,Oc ix O j≠b3 D:=λj e=>by unfold Oc at e;obtain⟨i,hi,e⟩:=Aa.mp e;obtain⟨o,q⟩:=y.nin (.inr ⟨i,e⟩);rw[u]at q;cases q
 have lz:∀kp j,ix.length<=j->(Bc ix B O H0 D kp).mu j=b4:=λkp j R=>by show(ix[j]?).bind O=b4;rw[Ee R];rfl
 refine⟨λi m acc H1=>m=ds.length-i/\i<=ds.length/\∃(g:List cU) (c:Ev),c.length=ix.length/\acc.length=g.length∧
   aU K (Bf ix.length) (Bc ix B O H0 D (f++acc.zip g)) (Oc ix O) H1 (YF ix σ++Aw nl b4) (c++F7 nl)/\H1 D=b3 (.lst acc)/\((pt&&pe)=ba->bA H0 H1)∧
   ZO ix.length nl gg tb fe (ds.drop i) g c=b3 (res,l),
  ⟨ds.length,rfl,Er _,[],aM ix δ1,by simp[aM],rfl,by rw[List.zip_nil_left,Eo];exact y.unkeep.inner u hnd λp t=>y.kep p (Bq _ t),cA,λ_=>cP u,h2⟩,?_⟩
 rintro i m acc H1 ⟨rfl,hi,g,c,P,X,M,G,Z,hc⟩;have w:=wk (Nn (Bc ix B O H0 D (f++acc.zip g)) (Oc ix O)) H1 (λp t=>M.kep p (Bq _ t)) Z;by_cases F:i<ds.length
 ·obtain ⟨go,yl⟩ := w.1 i ds[i] (by simp [F])
  rw[Fy F]at hc;simp only[ZO]at hc;obtain⟨N,g1,hc⟩:=Aa.mp hc;obtain⟨⟨kk,s⟩,g2,hc⟩:=Aa.mp hc;refine .inr ⟨go,λcf H'=>∃(g:List cU) (c:Ev),c.length=ix.length/\cf.length=g.length∧
   aU K (Bf ix.length) (Bc ix B O H0 D (f++cf.zip g)) (Oc ix O) H' (YF ix σ++Aw nl b4) (c++F7 nl)/\H' D=b3 (.lst cf)/\((pt&&pe)=ba->bA H0 H')∧
   ZO ix.length nl gg tb fe (ds.drop (i+1)) g c=b3 (res,l),λcf H' w'=>⟨ds.length-(i+1),by lia,rfl,F,w'⟩,λx H2 hy=>?_⟩
  obtain⟨Y,rx⟩:=yl x H2 hy;refine⟨_,_,_,ds[i],N,M.same Y,rx,g1,λσ3 O3 S3 m3=>?_⟩;have E:=gD m3;have r:=B5 E m3;refine⟨r,_,_,N,kk,s,S3,g2,λH4 I=>?_⟩;have V:H4 D=b3 (.lst acc):=I.frm _ _ (Y _ _ G) λz=>by
   obtain⟨j,e⟩:=z;have:=(I.sta.old j D e).1
   exact absurd (.inl (.inr rfl)) this
  have ln4:ix.length<=s.length:=by rw[<-I.sta.len];exact E
  cases kk with
  |false=>
   rw[if_neg El]at hc;refine MK ⟨g,s.take ix.length,by rw[Cr];lia,X,I.sta.turn (lz _) (T8 ix σ) r ln4,V,λz=>?_,hc⟩;exact((Z z).trans Y).trans (I.pur ((Ad _ _).mp z).1)
  |true=>
   rw[if_pos rfl]at hc;obtain⟨⟨W,C⟩,g3,hc⟩:=Aa.mp hc;split at hc
   ·rename_i hz
    refine ML ⟨_,_,s,W,C,I.sta,g3,λv H5 A=>?_⟩;have U:H5 D=b3 (.lst acc):=A.frm _ _ V λz=>by
     obtain⟨j,e⟩:=z;have:=(A.sta.old j D e).1
     exact absurd (.inl (.inr rfl)) this
    have ln5:ix.length<=C.length:=by rw[<-A.sta.len];exact E
    have S6:=A.sta.turn (nl:=nl) (lz _) (T8 ix σ) r ln5;have hv:bO K (Nn (Bc ix B O H0 D (f++acc.zip g)) (Oc ix O)) H5 (Nn (Bc ix B O H0 D (f++acc.zip g)) (Oc ix O)) v W:=by
     have hN:∀a,Nn (Bc ix B O H0 D (f++acc.zip g)) (Oc ix O) a->av (Bc ix B O H0 D (f++acc.zip g)) O3 ba a:=λa h=>by
      rcases h with h|⟨j,h⟩
      ·exact .inl h
      ·refine .inr ⟨j,?_⟩
       have R:j∈Bf ix.length:=A.sta.par.1 j a h;rw[A.sta.par.2 j R];exact h
     exact A.rep.mono hN hN
    have S7:=S6.withKp (kp:=f++(acc++[v]).zip (g++[W])) λp t=>by
     rw[List.zip_append X,<-Ay]at t;rcases By.mp t with z|z
     ·exact S6.kep p z
     ·rw[At.mp (show p∈[(v,W)] from z)]
      exact hv
    refine⟨U,by rw[X,Cf];exact hz,g++[W],C.take ix.length,by rw[Cr];lia,by simp[X],?_,cA,λz=>?_,hc⟩
    ·exact S7.writeZ (.inl (.inr rfl)) U u
    ·intro b o e
     have hb:b≠D:=λz=>by rw[z,u]at e;cases e
     rw[bZ hb];obtain⟨z1,z2⟩:=(Ad _ _).mp z;exact(((Z z).trans Y).trans ((I.pur z1).trans (A.pur z2))) b o e
   ·cases hc
 ·have e : i = ds.length := by lia
  subst e;rw[He]at hc;cases hc;refine .inl ⟨w.2,k D H1 ?_⟩;have fP:Fr (OA (Oc ix O)) H0 H1:=M.frm;have T:∀a,OA (Oc ix O) a->OA O a:=λa q0=>by
   obtain⟨j,e⟩:=q0;unfold Oc at e;cases hi:ix[j]? with
   |none=>rw[hi]at e;cases e
   |some i=>rw[hi]at e;exact⟨i,e⟩
  have SL:=y.unkeep.laid (o:=.lst acc) u;have fL:Fr (OA (Oc ix O)) (upd H0 D (.lst acc)) H1:=λb o e n=>by
   by_cases hb:b=D
   ·subst hb
    rw[cA]at e;cases e;exact G
   ·rw[bZ hb]at e
    exact fP b o e n
  refine⟨SL.call (PQ) (λi=>?_) fL T,f0.trans (fP.mono T),λz=>?_,.lst G (VL X λp t=>(M.kep p (Br _ t)).mono FA FA),y.unkeep.new u,y.fresh u⟩
  ·by_cases m6:i<δ1.length
   ·rcases TD (ix:=ix) (ss:=l) (δ:=δ1) i m6 P.symm with⟨j,x,e1,e2,e3⟩|⟨e1,e2⟩
    ·have e4:(l++F7 nl)[j]? =b3 (.ow x):=by rw[Ao (Ag.mp e2).1];exact e2
     obtain⟨a,e5,_,w⟩:=M.ow j x e4;refine .inr ⟨a,x,?_,e3,w.mono FA⟩;unfold Oc at e5;rw[e1]at e5;exact e5
    ·refine .inl ⟨e2,λa ea ⟨j,L⟩ => ?_⟩
     obtain⟨x,ex⟩:=M.dom j a L;unfold Oc at L;cases hi:ix[j]? with
     |none=>rw[hi]at L;cases L
     |some i'=>
      rw[hi]at L;have:i=i':=y.inj i i' a ea L
      subst this;have R:j<l.length:=by rw[P];exact(Ag.mp hi).1
      rw[Ao R]at ex;exact e1 j x hi ex
   ·refine .inl ⟨?_,λa ea => ?_⟩
    ·rw[Ee (by rw[PQ];lia),Ee (by lia)]
    ·obtain⟨x,ex⟩:=y.dom i a ea
     exact absurd (Ag.mp ex).1 m6
  ·simp only[Ad]at z
   exact(p0 z.1.1).trans (Z (by simp[z.1.2,z.2]))
def EF{fi:VI}{gg:VG}{tb:VB}{fe:VF}(hnd:ix.Nodup){Q:VK}(h:TN K ml (pi&&pt&&pe) (ZP ix nl fi gg tb fe) σ H Q):IE ix nl (TIV K ml pi fi) (TGV K (Bf ix.length) gg) (TB K (Bf ix.length) pt tb) (TV K (Bf ix.length) pe ba ba fe) σ H Q:=
 let ⟨B,O,δ,ds,δ',S,e,k⟩:=II hnd h
 ⟨B,O,δ,ds,δ',S,e,λJ a H' b f p w=>k J a H' b f p λN H1 z _=>w N H1 z⟩
def kK{Q:Bool->Hp->Prop}(h:TB K ml ba UW σ H Q):tYes σ H Q:=by obtain⟨B,O,δ,k,δ',S,q,w⟩:=h;cases q;exact w H (ResB.refl S)
def F3{Y:Cx}{t:VB}(h:PT Y c (TB K ml pt t)):PTs Y [c] (TB K ml pt t):=oS h
def VO{Y:Cx}:PTs Y [] (TB K ml ba UW):=λaa s σ H Q I hw=>Zh aa s σ H Q I (kK hw)
def Wo{Q:VK}{o:Bool}(h:TX K ml (if o then xO f else xV f) σ H Q):TN K ml pu f σ H Q:=by
 obtain⟨B,O,δ,s,δ',S,q,k⟩:=h;have e:∃d,f δ=b3 (d,δ')/\s=if o then .ow d else .va d:=by
  cases o with
  |true=>
   have q:(f δ).map (λp=>(Sl.ow p.1,p.2))=b3 (s,δ'):=q;cases h1:f δ with
   |none=>rw[h1]at q;cases q
   |some p=>rw[h1]at q;cases q;exact⟨p.1,rfl,rfl⟩
  |false=>
   have q:(f δ).map (λp=>(Sl.va p.1,p.2))=b3 (s,δ'):=q;cases h1:f δ with
   |none=>rw[h1]at q;cases q
   |some p=>rw[h1]at q;cases q;exact⟨p.1,rfl,rfl⟩
 obtain⟨d,h1,a⟩:=e;refine⟨B,O,δ,d,δ',S,h1,λp H' R=>?_⟩;cases o with
 |true=>
  cases a;have w:=R.own;cases w with
  |lst q1 r=>exact k _ H' _ (R.sta.keepV (W5 r)) (.ol q1 r.length R.nz R.h0) R.frm
  |dct q1 r=>exact k _ H' _ (R.sta.keepV (W5 r)) (.od q1 (by simpa using r.length) R.nz R.h0) R.frm
  |nst q1 r=>exact k _ H' _ (R.sta.keepV (W5 r)) (.of q1 r.length R.nz R.h0) R.frm
 |false=>
  cases a;exact k _ H' _ (R.sta.unadd.keepV (ps:=[(.ref p,d)]) λz hz=>by rw[At.mp hz];exact(R.own.mono SD).rep R.nz) .va R.frm
def Xp{i:Nat}{x:VX}{te:TE}(a:∀σ H Q,TX K ml x σ H Q->te σ H Q)(c:i∉ml){D:MS}(h:WH K ml (aV i x) D σ H):tAsg te (CY i) D σ H:=by
 obtain⟨B,O,δ,o,S,q,k⟩:=h;unfold aV at q;obtain⟨⟨s,δ1⟩,h1,q⟩:=Aa.mp q;have q:(if i<δ1.length then b3 (Ou.nx (δ1.set i s))else b4)=b3 o:=q;split at q
 ·rename_i hl
  cases q;refine a _ _ _ ⟨B,O,δ,s,δ1,S,h1,λv H' B' d h' f=>?_⟩;obtain⟨e,b⟩:=h'.bind d c hl;exact k _ _ _ b
 ·cases q
end
abbrev bJ(P:Av)(w:Uu)(K:Ah)(mg:Uq->Option Uk)(base:Uv)(x:Uq)(k:Nat)(ps:List Uq)(mF:List Nat)(F:bP)(f:Ul):Prop:=Def P w K mg base x k ps (spV K mF ps.length F) f
section
variable{X:Cx}{K:Ah}{ml:List Nat}{e a b c:Us}{es:List Us}{pa ta ia pb tb ib pc tc ic pu bt bi ps bs:Bool}{fa fb fc f:VF}{B B':Bs}{O:Nat->Option Ul}{H H0 H1 H':Hp}{σ:St}{δ δ':Ev}{v:V}{d:cU}{p:Ul}{pos:Pos}
def bG{x:Uq}(a:Gl X x)(h:∃u v,X.mg x=b3 u/\bV v u/\∀N H M,bO K N H M v d)(hd:ND x:=by decide):PE X (.Name x pos) (TV K ml ba ba ba (fC d)):=by obtain⟨u,v,h1,h2,b⟩:=h;exact CC (nH a h1 h2 hd) b
def Wz(K:Ah):R2:=λx y H Q=>∃a b xs ys,x=.ref a/\y=.ref b/\WL K H a xs/\WL K H b ys/\xs.length+ys.length<=sizeLine∧
 (xs=[]->Q (.ref b) H)/\(xs≠[]->ys=[]->Q (.ref a) H)/\(xs≠[]->ys≠[]->∀p,H p=b4->Q (.ref p) (upd H p (.tup (xs++ys))))
def hG:W7 X (Fs .Add) (Wz X.K):=by
 intro aa s σ H x y v u Q I t r h;obtain⟨a,b,xs,ys,rfl,rfl,C,B,hz,q0,q1,q2⟩:=h;cases t;cases r;obtain⟨its,g,l,_⟩:=I.tuple C;obtain⟨E,f,p2,_⟩:=I.tuple B;by_cases i:xs=[]
 ·subst i
  have D:its=[]:=g.nil_iff.mpr rfl;subst D;obtain⟨⟨cls,dd,data,p⟩,m,hc,n,hd⟩:=id l;obtain⟨⟨G,k,data2,j⟩,c,e,A,d⟩:=id p2;simp only at hc hd e d;subst hc hd e d;exact Ml ⟨_,m,rfl⟩ ⟨_,c,rfl⟩ Ly Og Hx Hr (Hj _ _)
   (tuple_addW0 a b _ E.toArray n A dd k p j (by simp)) ⟨m,c,⟨.ref b,H,I,rfl,q0 rfl⟩⟩
 ·refine HT.zFF l p2 (λz => i (g.nil_iff.mp z)) (λz => ⟨.ref a,H,I,rfl,q1 i (f.nil_iff.mp z)⟩) (λz => ?_) (by rw [<- g.length,<- f.length];exact hz)
  refine⟨.ref s.heap.objs.size,_,I.laid (t':=s.toks) (o:=.tup (xs++ys)) (λb F q=>Ae _ q) (Ar _) ?_,rfl,q2 i (λw=>z (f.nil_iff.mpr w)) _ (I.hok.fresh (Ar _))⟩;exact⟨by rw[Bw];exact hz,_,g.append f,Jo _ _⟩
def Yq(K:Ah):R2:=λx y H Q=>∃l b xs zs,x=.ref l/\y=.ref b/\X2 K H l xs/\X2 K H b zs/\xs.length+zs.length<=sizeLine/\∀p,H p=b4->Q (.ref p) (upd H p (.lst (xs++zs)))
def kD:W7 X (Fs .Add) (Yq X.K):=by
 intro aa s σ H x y v u Q I p o h;obtain⟨l,b,xs,zs,rfl,rfl,z,A,hz,q⟩:=h;cases p;cases o;obtain⟨its,r,t,_⟩:=I.list z;obtain⟨i,j,p2,_⟩:=I.list A;obtain⟨⟨cls,dd,data,m⟩,n,k,hc,_,hd⟩:=id t;obtain⟨⟨C,g,data2,e⟩,w,a,d,_,c⟩:=id p2;simp only at hc hd d c;subst hc hd d c;have B:its.toArray++i.toArray=(its++i).toArray:=by simp
 have hl:=r.length;have f:=j.length;refine Ml ⟨_,k,rfl⟩ ⟨_,a,rfl⟩ noFill_list_add seq_list_add PySem.F.slot_list_add PySem.F.entry_list_add (PySem.F.args_list_add_2 _ _) (list_addW l b its.toArray i.toArray n w dd g m e (by rw[Ak,Ak,<-hl,<-f];exact hz)) ⟨k,a,?_⟩;rw[B];exact⟨.ref _,_,I.lnew (t':=s.toks) (r.append j) (by rw[Bw];lia),rfl,q _ I.fresh⟩
def Wt(K:Ah):R2:=λx y H Q=>((FN (λi j=>.int (i+j)) x y H Q∨Wz K x y H Q)∨Yq K x y H Q)∨∃i j,x=.str i/\y=.str j/\i.length+j.length<=sizeLine/\Q (.str (i++j)) H
def ZK(h:X.K=K:=by rfl):W7 X (Fs .Add) (Wt K):=by subst h;exact((zIH.or hG).or kD).or FE
noncomputable def aJ:cU->cU->Option cU
 |.int i,.int j=>b3 (.int (i+j))
 |.tup ds,.tup es=>if ds.length+es.length<=16777216 then b3 (.tup (ds++es))else b4
 |.lst ds,.lst es=>if ds.length+es.length<=16777216 then b3 (.lst (ds++es))else b4
 |.str x,.str y=>if x.length+y.length<=16777216 then b3 (.str (x++y))else b4
 |_,_=>b4
def bO.tupE{N M:Ul->Prop}{ds:List cU}(h:bO K N H M v (.tup ds)):∃a xs,v=.ref a/\WL K H a xs/\b9 K N H xs ds:=by
 cases h.onT with
 |tup q r=>exact⟨_,_,rfl,q,r⟩
def bO.lstE{N M:Ul->Prop}{ds:List cU}(h:bO K N H M v (.lst ds)):∃a xs,v=.ref a/\X2 K H a xs/\b9 K N H xs ds:=by
 cases h.onL with
 |lst q n r=>exact⟨_,_,rfl,X2.of q,r⟩
 |fzm q r=>exact⟨_,_,rfl,q.sq,r⟩
def aC:OpC K (Wt K) aJ:=by
 intro H N M M' x y d e c Q n m h k;cases d with
 |int i=>
  cases e with
  |int j=>
   cases h;cases n.onI;cases m.onI;exact .inl (.inl (.inl ⟨_,_,rfl,rfl,k _ _ (bA.refl _) λ_ _=>.int _⟩))
  |_=>cases h
 |str i=>
  cases e with
  |str j=>
   simp only[aJ]at h;split at h
   ·cases h
    cases n.onS;cases m.onS;exact .inr ⟨_,_,rfl,rfl,by rw[Cf];assumption,k _ _ (bA.refl _) λ_ _=>.str _⟩
   ·cases h
  |_=>cases h
 |tup ds=>
  cases e with
  |tup es=>
   simp only[aJ]at h;split at h
   ·rename_i hz
    cases h;obtain⟨a,xs,rfl,q1,g⟩:=n.tupE;obtain⟨b,ys,rfl,q2,f⟩:=m.tupE;refine .inl (.inl (.inr ⟨a,b,xs,ys,rfl,rfl,q1,q2,by rw[g.length,f.length,Cf];exact hz,λz=>?_,λt s=>?_,λt s p l=>?_⟩))
    ·subst z
     have:ds=[]:=Gk.mp g.length.symm
     subst this;exact k _ _ (bA.refl _) λM r=>.tup q2 f
    ·subst s
     have:es=[]:=Gk.mp f.length.symm
     subst this;rw[Eo]at k;exact k _ _ (bA.refl _) λM r=>.tup q1 g
    ·exact k _ _ (cP l) λM r=>.tup (WL.of cA) ((g.append f).same (cP l))
   ·cases h
  |_=>cases h
 |lst ds=>
  cases e with
  |lst es=>
   simp only[aJ]at h;split at h
   ·rename_i hz
    cases h;obtain⟨a,xs,rfl,q1,g⟩:=n.lstE;obtain⟨b,ys,rfl,q2,f⟩:=m.lstE;exact .inl (.inr ⟨a,b,xs,ys,rfl,rfl,q1,q2,by rw[g.length,f.length,Cf];exact hz,λp l=>k _ _ (cP l) λM r=>.lst cA (λz=>by obtain⟨o,q⟩:=r _ z;rw[l]at q;cases q) ((g.append f).same (cP l))⟩)
   ·cases h
  |_=>cases h
 |_=>cases h
def Xf:Ah->R2:=λ_=>rI CMul λi j=>.int (i*j)
def JL(h:X.K=K:=by rfl):W7 X (Fs .Mult) (Xf K):=qh
abbrev NK:=oMul
def OE:OpC K (Xf K) NK:=by intro H N M M' x y d e c Q b a h k;exact eL H N N M M' x y d e c Q b a h λv f=>k v H (bA.refl _) λM _=>f _ _ _
noncomputable def V2:cU->Option aR
 |.int i=>b3 (.inl i)
 |.str x=>b3 (.inr x)
 |_=>b4
def bO.key{N M:Ul->Prop}{k:aR}(h:bO K N H M v d)(e:V2 d=b3 k):v=kV k:=by
 cases h<;>first
  |(cases e;rfl)
  |cases e
noncomputable def a8(ks:List aR)(ds:List cU)(k:aR):Option cU:=match ks,ds with
 |k'::ks,d::ds=>if k'=k then b3 d else a8 ks ds k
 |_,_=>b4
theorem QY{N:Ul->Prop}{k:aR}:∀{kvs:List (aR×V)}{ds:List cU},b9 K N H (kvs.map Es) ds->(∃v d,SW kvs k=b3 v/\a8 (kvs.map Dh) ds k=b3 d/\bO K N H N v d)∨(SW kvs k=b4/\a8 (kvs.map Dh) ds k=b4)
 |[],_,.nil=>.inr ⟨rfl,rfl⟩
 | (k',v) :: kvs,_,.cons h t => by
  by_cases hk:k'=k
  ·refine .inl ⟨v,_,RA (p:=(k',v)) hk,?_,h⟩
   simp[a8,hk]
  ·rcases QY (k:=k) t with⟨a,d',h1,h2,b⟩|⟨h1,h2⟩
   ·exact .inl ⟨a,d',(UQ (p:=(k',v)) hk).trans h1,by simpa[a8,hk]using h2,b⟩
   ·exact .inr ⟨(UQ (p:=(k',v)) hk).trans h1,by simpa[a8,hk]using h2⟩
def mY(f:X.A.units+1<cLine):CK X (λx y H Q=>∃a v,x=.ref a/\PM H a y (b3 v)/\Q v H):=by intro value b aa s σ H x y v u Q I e d h i;obtain⟨a,w,rfl,g,q⟩:=h;cases e;exact Tc (GI I g) PySem.F.slot_dict_getitem.lookup (AJ f I g d λk l j c=>⟨w,H,j,c,q⟩) i
def rIxA(K:Ah):R2:=λx y H Q=>(rIx K x y H Q∨∃a v,x=.ref a/\PM H a y (b3 v)/\Q v H)∨∃a k D v,x=.ref a/\y=.str k/\KTab K a D/\Fx k D=b3 v/\Q v H
def kIxA(a:X.A.units+1<cLine)(h:X.K=K:=by rfl):CK X (rIxA K):=by subst h;exact(zJK.or (mY a)).or fY
def bE:cU->cU->Option cU
 |.tup ds,.int i=>T2 ds i
 |.lst ds,.int i=>T2 ds i
 |.dct ks ds,e=>(V2 e).bind (a8 ks ds)
 |.str z,.int i=>if z.length<=16777216 then(T2 z.cps.toList i).map λc=>.str ⟨#[c]⟩else b4
 |_,_=>b4
theorem PR{N:Ul->Prop}{k:Uq}:∀{D:List (Uq×V)}{ds:List cU},b9 K N H (D.map Es) ds->(∃v d,Fx k D=b3 v/\a8 (D.map λp=>.inr p.1) ds (.inr k)=b3 d/\bO K N H N v d)∨(Fx k D=b4/\a8 (D.map λp=>.inr p.1) ds (.inr k)=b4)
 |[],_,.nil=>.inr ⟨rfl,rfl⟩
 | (k',v) :: D,_,.cons h t => by
  by_cases hk:k'=k
  ·subst hk
   exact .inl ⟨v,_,by simp[Fx],by simp[a8],h⟩
  ·have a : ¬ k = k' := λz => hk z.symm
   rcases PR (k:=k) t with⟨b,d',h1,h2,c⟩|⟨h1,h2⟩
   ·exact .inl ⟨b,d',by simpa[Fx,hk,a]using h1,by simpa[a8,hk]using h2,c⟩
   ·exact .inr ⟨by simpa[Fx,hk,a]using h1,by simpa[a8,hk]using h2⟩
theorem GZ{i:Int}:∀{D:List (Uq×V)}{ds:List cU},a8 (D.map λp=>.inr p.1) ds (.inl i)=b4
 |[],_=>by simp[a8]
 |_::_,[]=>by simp[a8]
 |p::D,d::ds=>by simpa[a8]using GZ (D:=D) (ds:=ds)
def nJ:OpI K (rIxA K) bE:=by
 intro H N N' M M' x y d e c Q j g h k;have seq:∀ds i,XB d=b3 ds->e=.int i->T2 ds i=b3 c->rIxA K x y H Q:=λds i h1 h2 b=>by
  subst h2;cases g.onI;obtain⟨a,xs,rfl,sq,r⟩:=j.seq h1;obtain⟨v,o,m⟩:=rj r b;rcases sq with sq|sq
  ·exact .inl (.inl (.inl ⟨a,xs,i,v,rfl,rfl,sq,o,k v m⟩))
  ·exact .inl (.inl (.inr (.inl ⟨a,xs,i,v,rfl,rfl,sq,o,k v m⟩)))
 cases d with
 |tup ds=>
  cases e with
  |int i=>exact seq ds i rfl rfl h
  |_=>cases h
 |lst ds=>
  cases e with
  |int i=>exact seq ds i rfl rfl h
  |_=>cases h
 |str z=>
  cases e with
  |int i=>
   simp only[bE]at h;split at h
   ·obtain⟨ch,hc,h⟩:=Ap.mp h
    cases h;cases j.onS;cases g.onI;exact .inl (.inl (.inr (.inr ⟨z,i,ch,rfl,rfl,by rw[Cf];assumption,hc,k _ (.str _)⟩)))
   ·cases h
  |_=>cases h
 |dct ks ds=>
  simp only[bE]at h;obtain⟨f,hk,h⟩:=Aa.mp h;have h:a8 ks ds f=b3 c:=h;have p:=g.key hk;subst p;cases j.onD with
  |dct q n r l=>
   subst l;rcases QY (k:=f) r with⟨v,d',h1,h2,b⟩|⟨h1,h2⟩
   ·rw[h]at h2
    cases h2;exact .inl (.inr ⟨_,v,rfl,h1▸PM.k q,k v b⟩)
   ·rw[h]at h2;cases h2
  |ktb T r l=>
   subst l;cases f with
   |inl i=>rw[GZ]at h;cases h
   |inr x=>
    rcases PR (k:=x) r with⟨v,d',h1,h2,b⟩|⟨h1,h2⟩
    ·rw[h]at h2
     cases h2;exact .inr ⟨_,x,_,v,rfl,rfl,T,h1,k v b⟩
    ·rw[h]at h2;cases h2
 |_=>cases h
noncomputable def W8(δ:Ev)(i:Nat):Option (List aR×List cU):=match δ[i]? with
 |some (.ow (.dct ks ds))=>b3 (ks,ds)
 |_=>b4
def TQ{i:Nat}{ks:List aR}{ds:List cU}(h:W8 δ i=b3 (ks,ds)):δ[i]?=b3 (.ow (.dct ks ds)):=by
 unfold W8 at h;split at h
 ·cases h;assumption
 ·cases h
def JG(i:Nat)(fk fx:VF):VF:=λδ=>(W8 δ i).bind λ_=>(fk δ).bind λp=>(fx p.2).bind λq=>(V2 p.1).bind λk=>(W8 q.2 i).map λz=>((a8 z.1 z.2 k).getD q.1,q.2)
def pE{i:Nat}{fk fx:VF}{ao ae:Pos}(P:X.A.units+1<cLine)(h:PE X a (V8 i))(hk:PE X b (TV K ml pa ta ia fk))(N:PE X c (TV K ml pb ba ba fx))(m:M2 X a "get" ao b c ae):
  PE X (.Call (.Attribute a "get" ao) [b,c] [] ae) (TV K ml (pa&&pb) ba ba (JG i fk fx)):=(lP P h hk N m).imp λσ H Q g=>by
 obtain⟨B,O,δ,d,F,S,q,k⟩:=g;unfold JG at q;cases p:W8 δ i with
 |none=>rw[p]at q;cases q
 |some L=>
  obtain⟨f,x⟩:=L;rw[p]at q;cases h1:fk δ with
  |none=>simp[h1]at q
  |some M=>
   obtain⟨y,δ1⟩:=M;simp only[Ai,h1]at q;cases h2:fx δ1 with
   |none=>simp[h2]at q
   |some p2=>
    obtain⟨z,δ2⟩:=p2;simp only[Ai,h2]at q;cases n:V2 y with
    |none=>simp[n]at q
    |some D=>
     simp only[Ai,n]at q;cases j:W8 δ2 i with
     |none=>simp[j]at q
     |some G=>
      obtain⟨ks,ds⟩:=G;simp only[j]at q;cases q;obtain⟨l,W,U,w⟩:=S.ow i _ (TQ p);refine⟨.ref l,U,l,rfl,?_,B,O,δ,y,δ1,S,h1,λZ H1 e=>⟨B,O,δ1,z,_,e.sta,h2,λY H2 R2=>?_⟩⟩
      ·generalize hw:cU.dct f x=dd at w
       cases w with
       |lst _ _=>cases hw
       |dct q _=>exact .inl ⟨_,.inl (.inl q)⟩
       |nst _ _=>cases hw
      ·have T:=e.rep.key n
       subst T;obtain⟨l',E,_,C⟩:=R2.sta.ow i _ (TQ j);rw[W]at E;cases E;have u:∀o,bO K (Nn B O) H2 (Nn B O) (o:V) ((a8 ks ds D).getD z)->Q o H2:=λo h=>k o H2 ⟨R2.sta,e.frm.trans R2.frm,λz=>by obtain⟨J,I⟩:=(Ad _ _).mp z;exact(e.pur J).trans (R2.pur I),h⟩
       generalize hw:cU.dct ks ds=dd at C;cases C with
       |lst _ _=>cases hw
       |nst _ _=>cases hw
       |dct q r=>
        cases hw;refine⟨_,PM.k q,u _ ?_⟩;rcases QY (k:=D) r with⟨v,d',t,s,R⟩|⟨t,s⟩
        ·rw[t,s];exact R
        ·rw[t,s];exact R2.rep
noncomputable def YE:List aR->List cU->aR->cU->List aR×List cU
 |k'::ks,d::ds,k,v=>if k'=k then(k'::ks,v::ds)else let r:=YE ks ds k v;(k'::r.1,d::r.2)
 |_,_,k,v=>([k],[v])
def HR(i:Nat)(fk fv:VF):VS:=λδ=>(fv δ).bind λp=>(W8 p.2 i).bind λ_=>(fk p.2).bind λq=>(V2 q.1).bind λk=>(W8 q.2 i).bind λz=>if z.1.length<16777216/\z.1.Nodup then b3 (.nx (q.2.set i (.ow (let r:=YE z.1 z.2 k p.1;.dct r.1 r.2))))else b4
theorem LP{N:Ul->Prop}{k:aR}{v:V}(h:bO K N H N v d):∀{kvs:List (aR×V)}{ds:List cU},(kvs.map Dh).Nodup->b9 K N H (kvs.map Es) ds->(W9 kvs k v).map Dh=(YE (kvs.map Dh) ds k d).1/\b9 K N H ((W9 kvs k v).map Es) (YE (kvs.map Dh) ds k d).2
 |[],_,_,.nil=>⟨rfl,.cons h .nil⟩
 | (k',u) :: kvs,_,a,.cons f t => by
  obtain⟨c,b⟩:=Cb.mp a;by_cases hk:k'=k
  ·subst hk
   have e:W9 ((k',u)::kvs) k' v=(k',v)::kvs:=by
    unfold W9;rw[if_pos (by simp)];simp only[Ba,if_true];congr 1;refine(Ju λp g=>?_).trans (List.map_id _);have:p.1≠k':=λz=>c (Cu.mpr ⟨p,g,z⟩)
    simp[this]
   rw[e];exact⟨by simp[YE],by simpa[YE]using b9.cons h t⟩
  ·obtain⟨h1,h2⟩:=LP (k:=k) h b t
   have e:W9 ((k',u)::kvs) k v=(k',u)::W9 kvs k v:=by
    unfold W9;simp only[Je,hk,decide_false,Tf];split
    ·simp[hk]
    ·rfl
   rw[e];exact⟨by simpa[YE,hk]using h1,by simpa[YE,hk]using b9.cons f h2⟩
def J0{N:Ul->Prop}{l:Ul}{o:HO}{xs:List V}{ds:List cU}{kvs:List (aR×V)}(d:H l=b3 (.dK kvs))(e:N l)(h:b9 K N H xs ds):b9 K N (upd H l o) xs ds:=
 h.fr (P:=λb=>b=l) (λb u q n=>by
  by_cases c:b=l
  ·subst c
   rw[d]at q;cases q;exact absurd (n rfl) λz=>z
  ·rw[bZ c]
   exact q) λa z=>z▸e
def EI{i:Nat}{fk fv:VF}{ai:Pos}(G:X.A.units+1<cLine)(J:PE X a (V8 i))(hk:PE X b (TV K ml pa ta ia fk))(F:PE X c (TV K ml pb ba ba fv))(I:Hm c (b3 (.Subscript a b ai)) pos.line X.env=pure bb):
  PS X (.Assign [.Subscript a b ai] c pos) (WH K ml (HR i fk fv)):=(iH G J hk F I).imp λD σ H f=>by
 obtain⟨B,O,δ,o,S,q,k⟩:=f;unfold HR at q;obtain⟨⟨z,δ1⟩,h1,q⟩:=Aa.mp q;have q:((W8 δ1 i).bind λ_=>(fk δ1).bind λq=>(V2 q.1).bind λk=>(W8 q.2 i).bind λd=>if d.1.length<16777216/\d.1.Nodup then b3 (Ou.nx (q.2.set i (.ow (let r:=YE d.1 d.2 k z;.dct r.1 r.2))))else b4)=b3 o:=q;cases j:W8 δ1 i with
 |none=>rw[j]at q;cases q
 |some x=>
 obtain⟨E,Q⟩:=x;rw[j]at q;cases h2:fk δ1 with
 |none=>simp[h2]at q
 |some p2=>
  obtain⟨y,δ2⟩:=p2;simp only[Ai,h2]at q;cases h:V2 y with
  |none=>simp[h]at q
  |some e=>
   simp only[Ai,h]at q;cases g:W8 δ2 i with
   |none=>simp[g]at q
   |some v=>
    obtain⟨ks,ds⟩:=v;simp only[g,Ai]at q;split at q
    ·rename_i hz
     cases q;refine⟨B,O,δ,z,δ1,S,h1,λs H1 n=>?_⟩;obtain⟨l,m,P,_⟩:=n.sta.ow i _ (TQ j);refine⟨.ref l,P,B,O,δ1,y,δ2,n.sta,h2,λR H2 R2=>?_⟩;have N:=R2.rep.key h;subst N;obtain⟨T,u,_,p⟩:=R2.sta.ow i _ (TQ g);rw[m]at u;cases u;generalize hw:cU.dct ks ds=dd at p;cases p with
     |lst _ _=>cases hw
     |nst _ _=>cases hw
     |dct t r=>
      cases hw;have C:=n.rep.fr R2.frm (λa z=>.inr z) λa z=>.inr z;obtain⟨M,L⟩:=LP (k:=e) C hz.2 r;refine⟨l,_,rfl,DPut.k t (by rw[Cf];simpa using hz.1),k σ _ O (R2.sta.wrote m (λz=>z) ?_)⟩;have w:SJ K (Nn B O) (upd H2 l (.dK (W9 _ e s))) l (.dct ((W9 _ e s).map Dh) _):=.dct cA (J0 t (.inr ⟨i,m⟩) L);rw[M]at w;exact w
    ·cases q
end
section
variable{X:Cx}{K:Ah}{ml:List Nat}{e a b c:Us}{es:List Us}{pa ta ia pb tb ib pc tc ic pu bt bi ps bs:Bool}{fa fb fc f:VF}{B B':Bs}{O:Nat->Option Ul}{H H0 H1 H':Hp}{σ:St}{δ δ':Ev}{v:V}{d:cU}{p:Ul}{pos:Pos}
def dM(i j k:Nat)(ta:TA):TS:=λD σ H=>ta σ H λvs H1=>∃v w u,vs=[v,w,u]/\D.nx (((σ.set i (b3 v)).set j (b3 w)).set k (b3 u)) H1
def rk{i j k:Nat}{x y z:Uq}{a b c:Us}{ta:TA}{t r n pt:Pos}{kt k2 pt2}(hc:X.calm=ba)(J:X.N.Nodup)(hi:X.N[i]?=b3 x)(U:X.N[j]?=b3 y)(hk:X.N[k]?=b3 z)(G:i≠j)(F:i≠k)(E:j≠k)(L:X.env.scope.names.lookup x=b3 .local)(K:X.env.scope.names.lookup y=b3 .local)(hz:X.env.scope.names.lookup z=b3 .local)(V:PA X [a,b,c] ta)(hw:Ez [.Tuple [.Name x t,.Name y r,.Name z n] kt pt] (.Tuple [a,b,c] k2 pt2) X.env=pure (b3 [x,y,z]))(T:Ey [.Tuple [.Name x t,.Name y r,.Name z n] kt pt] (.Tuple [a,b,c] k2 pt2) pos.line X.env=pure bb:=by rfl):PS X (.Assign [.Tuple [.Name x t,.Name y r,.Name z n] kt pt] (.Tuple [a,b,c] k2 pt2) pos) (dM i j k ta):=by
 intro aa s σ H D I h;rw[exec_Assign_arm];refine Ac (Gh ?_);rw[T];refine Ac (Aj ?_);rw[if_neg (by decide)];refine Ac (Tuple_ (ZL (V _ aa s σ H _ I h) λO s1 ⟨vs,H1,I1,R,q1⟩=>?_));obtain⟨v,w,u,W,q1⟩:=q1;subst W;obtain⟨g,f,d,rfl,P,l,Q⟩:∃g f d,O=[g,f,d]/\bV v g/\bV w f/\bV u d:=by
  cases R with
  |cons p q=>
   cases q with
   |cons p' S=>
    cases S with
    |cons B m=>
     cases m;exact⟨_,_,_,rfl,p,p',B⟩
 refine Dq ?_ (by show 3<=sizeLine;decide);have I2:cF X aa σ H1 {s1 with heap:=s1.heap.push {cls:=.type "tuple",data:=.seq [g,f,d].toArray}}:=I1.kept (t':=s1.toks) λb o e=>Ae _ e;rw[hw];refine Ac (Aj ?_);show Uo (Ur X.prog X.w) X.A (do rule "assign.swapped-stores";let items<-Jn (.ref s1.heap.objs.size) 3 b4;Vc [λv=>Im X.env z v,λv=>Im X.env y v,λv=>Im X.env x v] items.reverse;pure Flow.next) _ _ _;refine Ac (Ib (Ac (Pf (items:= #[g,f,d]) (I.ok.hd hc) (Jo s1.heap _) λh' C=>?_)));have I3:=I2.kept (h':=h') (t':=s1.toks) λb o e=>C b o (Bb (Aq e)) e;show Uo _ _ (Vc [λv=>Im X.env z v,λv=>Im X.env y v,λv=>Im X.env x v] [d,f,g]>>=λ_=>pure Flow.next) _ _ _;refine Ac (Ek (Io (YX I3 J hk (.inl hz) Q (λs2 Z=>?_) (.inr hz))));refine Ek (Io (YX Z J U (.inl K) l (λs3 Y=>?_) (.inr K)));refine Ek (Io (YX Y J hi (.inl L) P (λs4 M=>Ia (Aj ?_)) (.inr L)));rw[Fa _ _ (Di G),Fa _ _ (Di F),Fa _ _ (Di E)]at M;exact⟨_,H1,M,q1⟩
noncomputable def NY(i j k:Nat)(x y z:VX):VS:=λδ=>(x δ).bind λp=>(y p.2).bind λq=>(z q.2).bind λr=>if i<r.2.length/\j<r.2.length/\k<r.2.length then b3 (.nx (((r.2.set k r.1).set j q.1).set i p.1))else b4
def LS{i j k:Nat}{x y z:VX}{o:Ou}(h:NY i j k x y z δ=b3 o):∃s1 δ1 d δ2 c a,x δ=b3 (s1,δ1)/\y δ1=b3 (d,δ2)/\z δ2=b3 (c,a)/\(i<a.length/\j<a.length/\k<a.length)/\o=.nx (((a.set k c).set j d).set i s1):=by
 unfold NY at h;cases h1:x δ with
 |none=>rw[h1]at h;cases h
 |some p=>
  rw[h1]at h;cases h2:y p.2 with
  |none=>simp[h2]at h
  |some q=>
   simp only[Ai,h2]at h;cases b:z q.2 with
   |none=>simp[b]at h
   |some r=>
    simp only[Ai,b]at h;split at h
    ·cases h
     exact⟨p.1,p.2,q.1,q.2,r.1,r.2,rfl,h2,b,by assumption,rfl⟩
    ·cases h
def Zq{i j k:Nat}{x y z:Uq}{fx C A:VX}{m l h pt:Pos}{kt k2 pt2}(hc:X.calm=ba)(Z:X.N.Nodup)(hi:X.N[i]?=b3 x)(U:X.N[j]?=b3 y)(hk:X.N[k]?=b3 z)(f:i≠j)(e:i≠k)(d:j≠k)(R:X.env.scope.names.lookup x=b3 .local)(Q:X.env.scope.names.lookup y=b3 .local)(hz:X.env.scope.names.lookup z=b3 .local)(Y:PE X a (TX K ml fx))(W:PE X b (TX K ml C))(w:PE X c (TX K ml A))(hw:Ez [.Tuple [.Name x m,.Name y l,.Name z h] kt pt] (.Tuple [a,b,c] k2 pt2) X.env=pure (b3 [x,y,z]))(s:i∉ml:=by decide)(r:j∉ml:=by decide)(p:k∉ml:=by decide)(T:Ey [.Tuple [.Name x m,.Name y l,.Name z h] kt pt] (.Tuple [a,b,c] k2 pt2) pos.line X.env=pure bb:=by rfl)(V:SE X a [b,c]:=by rfl)(u:SE X b [c]:=by rfl)(t:SE X c []:=by rfl):
  PS X (.Assign [.Tuple [.Name x m,.Name y l,.Name z h] kt pt] (.Tuple [a,b,c] k2 pt2) pos) (WH K ml (NY i j k fx C A)):=(rk hc Z hi U hk f e d R Q hz (bW Y (bW W (bW w Z9 t) u) V) hw T).imp λD σ H n=>by
 obtain⟨B,O,δ,o,S,q,k⟩:=n;obtain⟨s1,δ1,P,δ2,M,g,h1,h2,h3,hl,rfl⟩:=LS q;refine⟨B,O,δ,s1,δ1,S,h1,λv H1 B1 S1 I f1=>⟨B1,O,δ1,P,δ2,S1,h2,λL H2 B2 S2 G f2=>⟨B2,O,δ2,M,g,S2,h3,λJ H3 B3 S3 F f3=>⟨v,L,J,rfl,?_⟩⟩⟩⟩;obtain⟨O4,S4⟩:=F.bind S3 p hl.2.2;obtain⟨O5,S5⟩:=(G.fr f3).bind S4 r (by rw[Cd];exact hl.2.1);obtain⟨O6,E⟩:=((I.fr f2).fr f3).bind S5 s (by rw[Cd,Cd];exact hl.1);rw[Fa _ _ (Di f),Fa _ _ (Di e),Fa _ _ (Di d)]at E;exact k _ _ _ E
def jS{i j k:Nat}{x y z:Uq}{fx R Q:VX}{f e d pt:Pos}{kt k2 pt2}(hK:X.K=K)(hc:X.calm=ba)(E:X.N.Nodup)(hi:X.N[i]?=b3 x)(hj:X.N[j]?=b3 y)(hk:X.N[k]?=b3 z)(u:i≠j)(t:i≠k)(s:j≠k)(hx:Loc X.env.scope x)(hy:Loc X.env.scope y)(hz:Loc X.env.scope z)(ha:PE X a (TX K ml fx))(hb:PE X b (TX K ml R))(C:PE X c (TX K ml Q))(r:i∉ml:=by decide)(n:j∉ml:=by decide)(m:k∉ml:=by decide)(hs:Ey [.Tuple [.Name x f,.Name y e,.Name z d] kt pt] (.Tuple [a,b,c] k2 pt2) pos.line X.env=pure bb:=by rfl)(hw:Ez [.Tuple [.Name x f,.Name y e,.Name z d] kt pt] (.Tuple [a,b,c] k2 pt2) X.env=pure b4:=by rfl)(hn:(Ut [.Name x f,.Name y e,.Name z d] X.env).length=3:=by rfl)(h:(Ut [.Name x f,.Name y e,.Name z d] X.env).findIdx? (·.1)=b4:=by rfl)(g1:(Ut [.Name x f,.Name y e,.Name z d] X.env).map (·.2)=assign (.Name x f) X.env::(Ut [.Name y e,.Name z d] X.env).map (·.2):=by rfl)(g2:(Ut [.Name y e,.Name z d] X.env).map (·.2)=assign (.Name y e) X.env::(Ut [.Name z d] X.env).map (·.2):=by rfl)(g3:(Ut [.Name z d] X.env).map (·.2)=assign (.Name z d) X.env::(Ut [] X.env).map (·.2):=by rfl)(I:LO X x:=by first|exact .inl rfl|exact .inr rfl|assumption)(G:LO X y:=by first|exact .inl rfl|exact .inr rfl|assumption)(F:LO X z:=by first|exact .inl rfl|exact .inr rfl|assumption)(h1:(Ut [.Tuple [.Name x f,.Name y e,.Name z d] kt pt] X.env).map (·.2)=[assign (.Tuple [.Name x f,.Name y e,.Name z d] kt pt) X.env]:=by rfl)(he:SE X a [b,c]:=by rfl)(A:SE X b [c]:=by rfl)(w:SE X c []:=by rfl):PS X (.Assign [.Tuple [.Name x f,.Name y e,.Name z d] kt pt] (.Tuple [a,b,c] k2 pt2) pos) (WH K ml (NY i j k fx R Q)):=
 (QB (FH (bW ha (bW hb (bW C Z9 w) A) he)) (Wa (K:=K) hK hc (V6 (Q2 E hi hx I) (V6 (Q2 E hj hy G) (V6 (Q2 E hk hz F) JX g3) g2) g1) hn h) hs hw h1).imp λD σ H l=>by obtain⟨B,O,δ,o,S,q,k⟩:=l;obtain⟨s1,δ1,s2,δ2,Z,g,h1,h2,h3,hl,rfl⟩:=LS q;refine⟨B,O,δ,s1,δ1,S,h1,λv H1 B1 S1 Y f1=>⟨B1,O,δ1,s2,δ2,S1,h2,λM H2 B2 S2 W f2=>⟨B2,O,δ2,Z,g,S2,h3,λL U B3 S3 V f3=>⟨(by show 3<=sizeLine;decide),λp P=>⟨p,_,rfl,WL.of cA,rfl,v,_,rfl,M,_,rfl,L,_,rfl,rfl,?_⟩⟩⟩⟩⟩;have J:Fr (OA O) U (upd U p (.tup [v,M,L])):=(cP P).fr;obtain⟨O4,S4⟩:=(V.fr J).bind (S3.same (cP P)) m hl.2.2;obtain⟨O5,S5⟩:=((W.fr f3).fr J).bind S4 n (by rw[Cd];exact hl.2.1);obtain⟨O6,T⟩:=(((Y.fr f2).fr f3).fr J).bind S5 r (by rw[Cd,Cd];exact hl.1);rw[Fa _ _ (Di u),Fa _ _ (Di t),Fa _ _ (Di s)]at T;exact k _ _ _ T
def rIsB(neg:Bool):R2:=λx y H Q=>∃k,y=.bl k/\Q (.bl (if neg then !decide (x=.bl k)else decide (x=.bl k))) H
def Xe:W7 X (Ct .Is) (rIsB bb):=by
 intro aa s σ H x y v u Q I a b h;obtain⟨k,rfl,q⟩:=h;cases b;have e:(v==Gm k)=decide (x=V.bl k):=by
  cases x<;>first
   |(cases a;first|rfl|(rename_i z;cases z<;>cases k<;>rfl))
   |(obtain⟨t,rfl⟩:=a;rfl)
 exact wpAny_is_plain (by cases x<;>first|(cases a;cases k<;>rfl)|(obtain⟨t,rfl⟩:=a;cases k<;>rfl)) (by rw[e];exact⟨.bl _,H,I,rfl,q⟩)
def WK:W7 X (Ct .IsNot) (rIsB ba):=by
 intro aa s σ H x y v u Q I a b h;obtain⟨k,rfl,q⟩:=h;cases b;have e:(v==Gm k)=decide (x=V.bl k):=by
  cases x<;>first
   |(cases a;first|rfl|(rename_i z;cases z<;>cases k<;>rfl))
   |(obtain⟨t,rfl⟩:=a;rfl)
 exact wpAny_isNot_plain (by cases x<;>first|(cases a;cases k<;>rfl)|(obtain⟨t,rfl⟩:=a;cases k<;>rfl)) (by rw[e];exact⟨.bl _,H,I,rfl,q⟩)
noncomputable def isBl(k:Bool):cU->Bool
 |.bl x=>x==k
 |_=>bb
def BE:cU->cU->Option cU
 |d,.bl k=>b3 (.bl (isBl k d))
 |_,_=>b4
def YI:cU->cU->Option cU
 |d,.bl k=>b3 (.bl (!isBl k d))
 |_,_=>b4
def DX{N M:Ul->Prop}{k:Bool}(h:bO K N H M v d):decide (v=V.bl k)=isBl k d:=by
 cases h<;>simp[isBl];rename_i b;cases b<;>cases k<;>rfl
def Yn:QI K (rIsB bb) BE:=by
  intro H N N' M M' x y d e c Q b a h k;cases a<;>first
    | (cases h
       refine⟨_,rfl,?_⟩;simp only[De,if_false];rw[DX b];exact k _ λ_ _ _=>.bl _)
    |(simp[BE]at h)
def UN:QI K (rIsB ba) YI:=by
  intro H N N' M M' x y d e c Q b a h k;cases a<;>first
    | (cases h
       refine⟨_,rfl,?_⟩;simp only[if_true];rw[DX b];exact k _ λ_ _ _=>.bl _)
    |(simp[YI]at h)
end
section
variable{prog:Av}{w:Uu}{A:Cc}{E:Uk->Af->Prop}{s:Af}
def SO{it t:Ul}{i:Nat}{items:Array Uk}{x:Uk}{Q:Uk->Af->Prop}(a:s.heap.IsTupleIter it t i)(e:s.heap.IsTuple t items)(d:items[i]?=b3 x)(f:∀h',h'.IsTupleIter it t (i+1)->Fq it s.heap h'->Q x {s with heap:=h'}):Uo (Ur prog w) A (Ca (.ref it)) Q E s:=by obtain⟨l,c,j,b⟩:=id a;obtain⟨k,g,_,m,h⟩:=e;unfold Ca;refine Ac (Cw (name:=Be "__next__") a.typeIs Fo (Et Fo a.typeIs Jv ?_ (Jf _)));show Uo _ _ (field (Bv it) 0>>=_) _ _ s;refine Ac (Ep c b (x:=.ref t) rfl ?_);show Uo _ _ (if(Bv t== .none)=ba then _ else _) _ _ s;rw[if_neg (show¬(Bv t==Value.none)=ba from El)];show Uo _ _ (field (Bv it) 1>>=_) _ _ s;refine Ac (Ep c b (x:=.int i 0) rfl ?_);show Uo _ _ (seqItems? (Bv t)>>=_) _ _ s;refine Ac (Fi g h ?_);simp only[d,Ie];refine Ac (wpAny_setField c b (by simp) (Aj ⟨x,rfl,Aj (f _ ⟨_,Iu _ c (Obj.isFreed_of_fields (Ol b _)),(Obj.cls_mapFields ..).trans j,?_⟩ (Nu ..))⟩));rw[Ol b];simp[rawInt]
def Q0{it t:Ul}{i:Nat}{items:Array Uk}{Q:Uk->Af->Prop}(f:A.handled=b4)(b:s.heap.IsTupleIter it t i)(h:s.heap.IsTuple t items)(g:items[i]?=b4)(j:∀h' e,Jt it s.heap h'->(∃o,h'.get? e=b3 o/\o.cls=.type "StopIteration")->E (.ref e) {s with heap:=h'}):Uo (Ur prog w) A (Ca (.ref it)) Q E s:=by
 obtain⟨p,c,r,d⟩:=id b;obtain⟨n,k,_,q,l⟩:=h;unfold Ca;refine Ac (Cw (name:=Be "__next__") b.typeIs Fo (Et Fo b.typeIs Jv ?_ (Jf _)));show Uo _ _ (field (Bv it) 0>>=_) _ _ s;refine Ac (Ep c d (x:=.ref t) rfl ?_);show Uo _ _ (if(Bv t== .none)=ba then _ else _) _ _ s;rw[if_neg (show¬(Bv t==Value.none)=ba from El)];show Uo _ _ (field (Bv it) 1>>=_) _ _ s;refine Ac (Ep c d (x:=.int i 0) rfl ?_);show Uo _ _ (seqItems? (Bv t)>>=_) _ _ s;refine Ac (Fi k l ?_);simp only[g,Ie];refine Ac (Ib (Ac (wpAny_setField c d (by simp) ?_)));show Uo _ _ (newExc (Kt "StopIteration") []>>=_) _ _ _;refine Ac ?_;unfold newExc newTuple;refine Ac (Dq ?_ (by size_fits));refine Ac (m:=firstArgMember _ _) (wpAny_of_eq (a:=Value.none) (by first|rfl|(unfold firstArgMember;rfl)) (Dq ?_ (by size_fits)));unfold raiseNew;refine Ac (wpAny_handled ?_);first|rw[f]|rw[show A.in1.handled=b4 from f]
 refine Ac (Aj (wpAny_throw (j _ _ (((Nu ..).extBut.push _).push _) ⟨_,As _ rfl,rfl⟩)))
end
def AL{prog:Av}{w:Uu}{A:Cc}(f:A.handled=b4)(it t:Ul)(d:t≠it)(items:Array Uk):
  Draws prog w A it [it,t] items.size (λi v=>items[i]?=b3 v) (λi h=>h.IsTupleIter it t i/\h.IsTuple t items) where
 live:=λ_ _ st=>let ⟨o,c,_⟩:=st.1;⟨o,c⟩
 frame:=λ_ _ _ st hk=>⟨st.1.at λo e=>hk it (by simp) o e,by obtain⟨o,c,r⟩:=st.2;exact⟨o,hk t (by simp) o c,r⟩⟩
 item:=λi s Q E hi st g=>SO st.1 st.2 (x:=items[i]) (by simp[hi]) λh' a b=>g _ h' s.toks (by simp[hi]) ⟨a,st.2.extBut b.extBut d⟩ b
 done:=λs Q E st j=>Q0 f st.1 st.2 (by simp) j
section
variable{X:Cx}{aa:List (Ul×Uw)}{σ:St}{H:Hp}{s:Af}{h':Uv}
def cF.turnedL{t':Nat}{fp:List Ul}(I:cF X aa σ H s)(k:∀b o,b∉fp->s.heap.get? b=b3 o->h'.get? b=b3 o)(there:∀b∈fp,∃o,h'.get? b=b3 o)(d:∀b∈fp,MD X aa H b):cF X aa σ H {s with heap:=h',toks:=t'}:=by
 have a:∀b u,H b=b3 u->b∉fp:=λb u e z=>by rw[(d b z).1]at e;cases e
 have i:X.env.locals∉fp:=λz=>(d _ z).2.1 rfl;refine I.step (g':=s.gens) (d':=s.drawn) (ch:=fp) (λb h=>?_) (λb o _ _ hc e _=>k b o hc e) (λb o _ _ hc e _=>⟨o.slots,k b o hc e⟩) (λ_ _ _ _ n=>n)
  (λb o hc e=>⟨o,k b o hc e⟩) (λ_ _ e=>e) (λ_ _ _ e=>e) (λb ps e=>⟨#[],by rw[e];simp⟩) (λm g=>?_) (λb u e=>?_) I.bare
 ·obtain⟨_,f1,f2,f3,l,j⟩:=d b h
  exact⟨f3,f1,l,j⟩
 ·obtain⟨o,es,p,f,r⟩:=g
  exact⟨o,es,p,k _ o i f,r⟩
 ·refine (I.hok b u e).stay (λc v hc q => k c v ?_ q) (λ_ q => q) λ_ _ q => q
  rcases hc with z|z
  ·rw[z];exact a b u e
  ·exact a c _ z
end
section
variable{X:Cx}{aa:List (Ul×Uw)}{σ:St}{H:Hp}{s:Af}{h':Uv}
def cF.turnedL'{t':Nat}{fp:List Ul}(I:cF X aa σ H s)(k:∀b o,b∉fp->s.heap.get? b=b3 o->h'.get? b=b3 o)(d:∀b∈fp,MD X aa H b):cF X aa σ H {s with heap:=h',toks:=t'}:=by
 have a:∀b u,H b=b3 u->b∉fp:=λb u e z=>by rw[(d b z).1]at e;cases e
 have i:X.env.locals∉fp:=λz=>(d _ z).2.1 rfl;refine I.step (g':=s.gens) (d':=s.drawn) (ch:=fp) (λb h=>?_) (λb o _ _ hc e _=>k b o hc e) (λb o _ _ hc e _=>⟨o.slots,k b o hc e⟩) (λ_ _ _ _ n=>n)
  (λb o hc e=>⟨o,k b o hc e⟩) (λ_ _ e=>e) (λ_ _ _ e=>e) (λb ps e=>⟨#[],by rw[e];simp⟩) (λm g=>?_) (λb u e=>?_) I.bare
 ·obtain⟨_,f1,f2,f3,l,j⟩:=d b h
  exact⟨f3,f1,l,j⟩
 ·obtain⟨o,es,p,f,r⟩:=g
  exact⟨o,es,p,k _ o i f,r⟩
 ·refine (I.hok b u e).stay (λc v hc q => k c v ?_ q) (λ_ q => q) λ_ _ q => q
  rcases hc with z|z
  ·rw[z];exact a b u e
  ·exact a c _ z
end
def KG(K:Ah)(tup:Bool)(H:Hp)(a:Ul)(xs:List V):Prop:=if tup=ba then WL K H a xs else X2 K H a xs
def QK(tup:Bool)(h:Uv)(a:Ul)(items:Array Uk):Prop:=if tup=ba then h.IsTuple a items else h.IsList a items
def UV(tup:Bool)(h:Uv)(it a:Ul)(i:Nat):Prop:=if tup=ba then h.IsTupleIter it a i else h.IsListIter it a i
def Xz{prog:Av}{w:Uu}{A:Cc}(b:A.handled=b4)(tup:Bool)(it t:Ul)(a:t≠it)(items:Array Uk):Draws prog w A it [it,t] items.size (λi v=>items[i]?=b3 v) (λi h=>UV tup h it t i/\QK tup h t items):=by
 cases tup with
 |true=>exact AL b it t a items
 |false=>exact Draws.list b it t a items
def QK.lt{tup:Bool}{h:Uv}{a:Ul}{items:Array Uk}(s:QK tup h a items):a<h.objs.size:=by
 cases tup with
 |true=>obtain⟨o,e,_⟩:=s;exact Aq e
 |false=>obtain⟨o,e,_⟩:=s;exact Aq e
def cF.srcA{X:Cx}{aa:List (Ul×Uw)}{σ:St}{H:Hp}{s:Af}{a:Ul}{xs:List V}{tup:Bool}(I:cF X aa σ H s)(h:KG X.K tup H a xs):∃its:List Uk,bQ xs its/\QK tup s.heap a its.toArray/\xs.length<=sizeLine:=by
 cases tup with
 |true=>
  obtain⟨its,r,p,z⟩:=I.tuple h;exact⟨its,r,p,z⟩
 |false=>
  obtain⟨its,r,p,z⟩:=I.list h;exact⟨its,r,p.isList,z⟩
def cF.sq_inj{X:Cx}{aa:List (Ul×Uw)}{σ:St}{H:Hp}{s:Af}{a:Ul}{xs ys:List V}{tup:Bool}(I:cF X aa σ H s)(h:KG X.K tup H a xs)(h':KG X.K tup H a ys):xs=ys:=by
 cases tup with
 |true=>exact I.tuple_inj h h'
 |false=>exact I.list_inj h h'
def UV.at{tup:Bool}{h h':Uv}{it a:Ul}{i:Nat}(st:UV tup h it a i)(k:∀o,h.get? it=b3 o->h'.get? it=b3 o):UV tup h' it a i:=by
 cases tup with
 |true=>exact Heap.IsTupleIter.at st k
 |false=>exact Heap.IsListIter.at st k
def UV.obj{tup:Bool}{h:Uv}{it a:Ul}{i:Nat}(st:UV tup h it a i):∃o,h.get? it=b3 o/\∀v,o.data≠ .cell v:=by
 cases tup with
 |true=>
  obtain⟨o,e,c,d⟩:=st;exact⟨o,e,λv z=>by rw[d]at z;cases z⟩
 |false=>
  obtain⟨o,e,c,d⟩:=st;exact⟨o,e,λv z=>by rw[d]at z;cases z⟩
def Ite(K:Ah)(tup:Bool)(a:Ul):It:=
 ⟨λi H=>∃xs x,KG K tup H a xs/\xs[i]?=b3 x,λi H v H'=>∃p x,(∀xs,KG K tup H a xs->xs[i]?=b3 x)/\H p=b4/\H'=upd H p (.tup [.int i,x])/\v=.ref p,λi H=>∃xs,KG K tup H a xs/\xs.length=i⟩
def B7{P:Av}{w:Uu}{K:Ah}{es:List Us}{k:Nat}{pos:Pos}(tup:Bool)(a e it:Ul)(g:e≠it)(Q:a≠e)(C:a≠it):
  EN P w K (.Tuple es k pos) (Ite K tup a) [e,it] e (λi h=>(∃f,IsEnum h e it i f)/\UV tup h it a i) where
 mem:=by simp
 obj:=λi h st b c=>by
  obtain⟨⟨f,j⟩,hi⟩:=st;rcases Am.mp c with z|z
  ·subst z
   exact⟨_,j,λv z=>by cases z⟩
  ·have:=At.mp z
   subst this;exact hi.obj
 keep:=λi h h' st G=>by obtain⟨⟨f,j⟩,hi⟩:=st;exact⟨⟨f,G e (by simp) _ j⟩,hi.at λo q=>G it (by simp) o q⟩
 item:=by
  intro X R hw S hc i aa s σ H E I t st O;subst R hw S;obtain⟨⟨f,j⟩,hi⟩:=st;obtain⟨xs,x,J,r⟩:=O;obtain⟨its,F,l,hz⟩:=I.srcA J;have M:i<its.toArray.size:=by
   have:=(Ag.mp r).1
   have:=F.length
   simp only[Ak];lia
  have N:X.A.in1.handled=b4:=I.ok.hd hc;refine wpAny_pyNext_enum_itemD (Xz N tup it a C its.toArray) j ⟨hi,l⟩ M g (by simp[g,Di Q]) λu h1 tk m ho p Z hsz hk=>⟨_,rfl,?_⟩;refine wpAny_letOwnedTupleGo_enum (s:={s with heap:=h1,toks:=tk+1}) ho λh2 y d=>?_;have d:Fq e h1 h2:=d;obtain⟨n,L,W⟩:=F.get r;have m:its.toArray[i]?=b3 u:=m;rw[List.getElem?_toArray,L]at m;have m:=Bp m;subst m;have G:∀b o,b∉[e,it]->s.heap.get? b=b3 o->h2.get? b=b3 o:=λb o c q=>by have D:b≠e:=λz=>c (by simp[z]);have T:b≠it:=λz=>c (by simp[z]);exact(d.2 b D).trans (hk b o D T q)
  have g8:h2.get? s.heap.objs.size=b3 {cls:=.type "tuple",data:=.seq #[.int i tk,n]}:=(d.2 _ (Hi (Aq j))).trans Z;have bu:H s.heap.objs.size=b4:=I.hok.fresh (Ar _);have U:∀b∈[e,it],b<s.heap.objs.size:=λb c=>by
   rcases Am.mp c with z|z
   ·rw[z];exact Aq j
   ·rw[At.mp z]
    obtain⟨o,q,_⟩:=hi.obj;exact Aq q
  have I0:cF X aa σ (upd H s.heap.objs.size (.tup [.int i,x])) {s with heap:=s.heap.push {cls:=.type "tuple",data:=.seq #[.int i tk,n]},toks:=tk}:=
   I.laid (λb o q=>Ae _ q) (Ar _) ⟨by show 2<=sizeLine;decide,[.int i tk,n],.cons ⟨tk,rfl⟩ (.cons W .nil),Jo _ _⟩
  have I1:cF X aa σ (upd H s.heap.objs.size (.tup [.int i,x])) {s with heap:=h2,toks:=tk+1}:=by
   refine cF.turnedL (s:={s with heap:=s.heap.push {cls:=.type "tuple",data:=.seq #[.int i tk,n]},toks:=tk}) (h':=h2) (t':=tk+1) (fp:=[e,it]) I0 (λb o c q=>?_) (λb c=>?_) λb c=>⟨by rw[bZ (Bb (U b c))];exact(t b c).1,(t b c).2⟩
   ·by_cases B:b=s.heap.objs.size
    ·subst B
     have q:(s.heap.push {cls:=.type "tuple",data:=.seq #[.int i tk,n]}).get? s.heap.objs.size=b3 o:=q;rw[As _ rfl]at q;cases q;exact g8
    ·exact G b o c ((Ii _ _ _ B).symm.trans q)
   ·rcases Am.mp c with z|z
    ·rw[z];exact⟨_,y⟩
    ·rw[At.mp z]
     obtain⟨o,q,_⟩:=p.1.obj;exact⟨o,(d.2 it (Di g)).trans q⟩
  refine⟨.ref s.heap.objs.size,upd H s.heap.objs.size (.tup [.int i,x]),?_,rfl,⟨_,x,λys Y=>by rw[I.sq_inj Y J];exact r,bu,rfl,rfl⟩,⟨⟨_,by simpa using y⟩,p.1.at λo q=>(d.2 it (Di g)).trans q⟩,λb c=>?_⟩
  ·exact I1
  ·rw[bZ (Bb (U b c))]
   exact(t b c).1
 done:=by
  intro X R hw S hc i aa s σ H E I t st O;subst R hw S;obtain⟨⟨f,j⟩,hi⟩:=st;obtain⟨xs,J,r⟩:=O;obtain⟨its,F,l,hz⟩:=I.srcA J;have N:X.A.in1.handled=b4:=I.ok.hd hc;have hn:its.toArray.size=i:=by rw[Ak,<-F.length];exact r
  refine wpAny_pyNext_enum_endD (Xz N tup it a C its.toArray) j ⟨by rw[hn];exact hi,l⟩ λh1 V=>⟨rfl,?_⟩;obtain⟨f0,f1,f2,f3,f4,f5⟩:=t it (by simp);exact I.turned (t':=s.toks) (λb o c q=>V b o c q) f0 f1 f3 f4 f5
 self:=λ_ i _ _ _ st h=>Pq st.1.choose_spec h
def AM(a:Ul)(items:Array Uk)(n:Nat)(dd:Option Ul)(f:Array (Option Uk)):Meets (Ej.«enumerate.__new__» ⟨[.type "enumerate",.ref a],[]⟩) (λ_ R s=>s.heap.get? a=b3 {cls:=.type "tuple",dict:=dd,data:=.seq items n,slots:=f}∧R (.ok (.ret (.ref (s.heap.push {cls:=.type "tuple_iterator",data:=.fields #[.ref a,.int 0 0]}).objs.size))) {s with heap:=(s.heap.push {cls:=.type "tuple_iterator",data:=.fields #[.ref a,.int 0 0]}).push {cls:=.type "enumerate",data:=.fields #[.none,.bool bb,.ref s.heap.objs.size,rawInt 0,.none,.none]}}):=by
 refine .of_wp λprog w A R s h=>?_;obtain⟨i,g,d,tk,os⟩:=s;obtain⟨b,h⟩:=h;have j:=sub_enumerate;have e:Heap.IsTuple (Rq ⟨i,g,d,tk,os⟩) a items:=⟨_,b,rfl,n,rfl⟩;wp_walk using Bg b
 refine wpAny_stack_any λst=>Aj ?_;split
 ·rename_i c _ _ _ _ _
  cases (c==Kt "enumerate")<;>(wp_walk using Bg b,Hn e;exact⟨_,rfl,h⟩)
 ·wp_walk using Bg b,Hn e
  exact⟨_,rfl,h⟩
def ET{prog:Av}{w:Uu}{A:Cc}{E:Uk->Af->Prop}{s:Af}{a:Ul}{items:Array Uk}{tup:Bool}{Q:Uk->Af->Prop}(d:QK tup s.heap a items)(h:∀h',IsEnum h' (s.heap.objs.size+1) s.heap.objs.size 0 .none->UV tup h' s.heap.objs.size a 0->(∀b o,s.heap.get? b=b3 o->h'.get? b=b3 o)->Q (.ref (s.heap.objs.size+1)) {s with heap:=h'}):Uo (Ur prog w) A (call (.type "enumerate") [.ref a]) Q E s:=by
 cases tup with
 |false=>exact call_enumerate_list d λh' k j _ a4=>h h' k j a4
 |true=>
  obtain⟨⟨i,dd,g,e⟩,f,hc,n,hd⟩:=d;replace hc:i=.type "tuple":=hc
  replace hd:g=.seq items n:=hd
  subst hc hd;have hz:(s.heap.push {cls:=.type "tuple_iterator",data:=.fields #[.ref a,.int 0 0]}).objs.size=s.heap.objs.size+1:=Ei ..;refine callType_new F.called_enumerate (by decide) (F.typeCall_enumerate_1 _) (F.newCall_enumerate_1 _) (λobj=>F.args_object_init_2 obj _) F.entry_enumerate_new (AM a items n dd e) ⟨f,?_⟩;show _/\_;rw[hz];have c:=As (s.heap.push {cls:=.type "tuple_iterator",data:=.fields #[.ref a,.int 0 0]}) (o:={cls:=.type "enumerate",data:=.fields #[.none,.bool bb,.ref s.heap.objs.size,rawInt 0,.none,.none]}) rfl;rw[hz]at c;exact⟨⟨_,c,rfl⟩,h _ c ⟨_,Ae _ (As _ rfl),rfl,rfl⟩ λb o x=>Ae _ (Ae _ x)⟩
def IZ:Bm "enumerate"=b3 (.type "enumerate"):=by decide+kernel
def pL:Bm "zip"=b3 (.type "zip"):=by decide+kernel
section
variable{X:Cx}{K:Ah}{ml:List Nat}{l:Us}{pu:Bool}{f:VF}{p pos dn:Pos}{es:List Us}{tk:Nat}{δ:Ev}
def iEnu(K:Ah)(tl:TE):TI:=λσ H R=>tl σ H λx H1=>∃a tup,x=.ref a/\(∃xs,KG K tup H1 a xs)/\R (Ite K tup a) H1
def jW{tl:TE}(r:Gl X "enumerate")(q:X.mg "enumerate"=b4)(hl:PE X l tl)(k:SE X l []:=by rfl):PI X (.Tuple es tk dn) (.Call (.Name "enumerate" p) [l] [] pos) (iEnu X.K tl):=by
 intro aa s σ H R I h;refine Fe (R8 I r q IZ ?_ (by decide) (by decide));refine Em (ZL (bW hl Z9 k pos aa s σ H (λvs H1=>match vs with
  |[x]=>∃a tup,x=.ref a/\(∃xs,KG X.K tup H1 a xs)/\R (Ite X.K tup a) H1
  |_=>False) I h) λw s1 ⟨vs,H1,f,g,q1⟩=>?_) k (by rfl)
 match vs,g,q1 with
 |[x],g,q1=>
  obtain⟨a,tup,rfl,⟨xs,n⟩,t⟩:=q1;obtain⟨u,rfl,m⟩:=SQ g;cases m;obtain⟨its,y,c,_⟩:=f.srcA n;refine ET c λh' d i kp=>?_;have v:cF X aa σ H1 {s1 with heap:=h'}:=f.kept (t':=s1.toks) kp;have o:∀b,s1.heap.objs.size<=b->H1 b=b4:=λb j=>f.hok.fresh j;refine Pq d ⟨s1.heap.objs.size+1,[s1.heap.objs.size+1,s1.heap.objs.size],_,Ite X.K tup a,H1,rfl,v,B7 tup a (s1.heap.objs.size+1) s1.heap.objs.size (Nat.succ_ne_self _) (λz=>?_) (λz=>?_),⟨⟨_,d⟩,i⟩,λb j=>?_,t⟩
  ·have:=c.lt
   rw[z]at this;exact absurd this (Nat.not_lt_of_le (Ij _))
  ·have:=c.lt
   rw[z]at this;exact absurd this (Ck _)
  ·have e:s1.heap.objs.size<=b:=by
    rcases Am.mp j with z|z
    ·rw[z];exact Ij _
    ·rw[At.mp z];exact Ar _
   exact f.fpOk e (o b e)
def pS(h:X.K=K){tl:TE}(b:Gl X "enumerate")(a:X.mg "enumerate"=b4)(hl:PE X l tl)(c:SE X l []:=by rfl):PI X (.Tuple es tk dn) (.Call (.Name "enumerate" p) [l] [] pos) (iEnu K tl):=by subst h;exact jW b a hl c
noncomputable def X9:Nat->List cU->List cU
 |_,[]=>[]
 |i,d::ds=>.tup [.int i,d]::X9 (i+1) ds
def M9(f:VF):VI:=λδ=>(f δ).bind λp=>(XB p.1).map λds=>(X9 0 ds,p.2)
theorem M0:∀{ds:List cU}{n i:Nat}{d:cU},(X9 n ds)[i]?=b3 d->∃x,ds[i]?=b3 x/\d=.tup [.int (n+i:Nat),x]
 |[],_,_,_,h=>by simp[X9]at h
 |x::ds,n,0,d,h=>by simp[X9]at h;exact⟨x,rfl,h.symm⟩
 |x::ds,n,i+1,d,h=>by
  have h:(X9 (n+1) ds)[i]?=b3 d:=by simpa[X9]using h
  obtain⟨y,h1,h2⟩:=M0 h;exact⟨y,by simpa using h1,by rw[h2,show n+1+i=n+(i+1) by lia]⟩
theorem M3:∀(ds:List cU) (n:Nat),(X9 n ds).length=ds.length
 |[],_=>rfl
 |_::ds,n=>congrArg (· +1) (M3 ds (n+1))
def MB{a:Ul}{tup:Bool}{ds:List cU}:Walk K (Ite K tup a) [(.ref a,if tup=ba then .tup ds else .lst ds)] (X9 0 ds):=by
 intro N H h;have r:=h _ (At.mpr rfl);have b:∀xs,KG K tup H a xs->b9 K N H xs ds->(∀(i:Nat) (d:cU),(X9 0 ds)[i]?=b3 d->(Ite K tup a).go i H/\∀x H',(Ite K tup a).yld i H x H'->bA H H'/\bO K N H' N x d)/\(Ite K tup a).stop (X9 0 ds).length H:=λxs sq r=>by
  refine⟨λi d e=>?_,xs,sq,by rw[r.length,M3]⟩;obtain⟨z,l,rfl⟩:=M0 e;obtain⟨x,f,g⟩:=r.get l;refine⟨⟨xs,x,sq,f⟩,λy H' j=>?_⟩;obtain⟨p,m,k,c,rfl,rfl⟩:=j;have:=k xs sq
  rw[f]at this;cases this;refine⟨cP c,.tup (WL.of cA) (.cons ?_ (.cons (g.same (cP c)) .nil))⟩;rw[Ki];exact .int _
 cases tup with
 |true=>
  have r:bO K N H N (.ref a) (.tup ds):=r;cases r.onT with
  |tup sq r=>exact b _ sq r
 |false=>
  have r:bO K N H N (.ref a) (.lst ds):=r;cases r.onL with
  |lst q n r=>exact b _ (X2.of q) r
  |fzm q r=>exact b _ q.sq r
def J9(m:X.K=K)(i:Gl X "enumerate")(g:X.mg "enumerate"=b4)(h:PE X l (TV K ml pu ba ba f))(j:SE X l []:=by rfl):
  PI X (.Tuple es tk dn) (.Call (.Name "enumerate" p) [l] [] pos) (TIV K ml pu (M9 f)):=(pS (K:=K) m i g h j).imp λσ H R d=>by
 obtain⟨B,O,δ,ds,δ',S,q,k⟩:=d;unfold M9 at q;obtain⟨⟨x,δ1⟩,h1,q⟩:=Aa.mp q;refine⟨B,O,δ,x,δ1,S,h1,λv H1 b=>?_⟩;cases x with
 |lst c=>
  cases q;obtain⟨a,xs,rfl,sq,r⟩:=b.rep.lstE;exact⟨a,bb,rfl,⟨xs,sq⟩,k _ [(.ref a,.lst c)] H1 (b.sta.keepV λp e=>by rw[At.mp e];exact b.rep) b.frm b.pur (MB (tup:=bb))⟩
 |tup c=>
  cases q;obtain⟨a,xs,rfl,sq,r⟩:=b.rep.tupE;exact⟨a,ba,rfl,⟨xs,sq⟩,k _ [(.ref a,.tup c)] H1 (b.sta.keepV λp e=>by rw[At.mp e];exact b.rep) b.frm b.pur (MB (tup:=ba))⟩
 |_=>cases q
end
section
variable{prog:Av}{w:Uu}{A:Cc}{E:Uk->Af->Prop}{s:Af}
def UV.ext{tup:Bool}{h h':Uv}{it a b:Ul}{i:Nat}(x:UV tup h it a i)(d:Jt b h h')(c:it≠b):UV tup h' it a i:=x.at λo e=>d _ _ c e
def QK.ext{tup:Bool}{h h':Uv}{a b:Ul}{xs:Array Uk}(x:QK tup h a xs)(d:Jt b h h')(c:a≠b):QK tup h' a xs:=by
 cases tup with
 |true=>obtain⟨o,e,r⟩:=x;exact⟨o,d _ _ c e,r⟩
 |false=>obtain⟨o,e,r⟩:=x;exact⟨o,d _ _ c e,r⟩
def SA{tup:Bool}{it a:Ul}{i:Nat}{xs:Array Uk}{x:Uk}{Q:Uk->Af->Prop}(hi:UV tup s.heap it a i)(c:QK tup s.heap a xs)(b:xs[i]?=b3 x)(d:∀h',UV tup h' it a (i+1)->Fq it s.heap h'->Q x {s with heap:=h'}):Uo (Ur prog w) A (Ca (.ref it)) Q E s:=by
 cases tup with
 |true=>exact SO hi c b d
 |false=>exact wpAny_nextOf_list_item hi c b d
def LI{tup:Bool}{it a:Ul}{i:Nat}{xs:Array Uk}{Q:Uk->Af->Prop}(d:A.handled=b4)(hi:UV tup s.heap it a i)(c:QK tup s.heap a xs)(b:xs[i]?=b4)(f:∀h' e,Jt it s.heap h'->(∃o,h'.get? e=b3 o/\o.cls=.type "StopIteration")->E (.ref e) {s with heap:=h'}):Uo (Ur prog w) A (Ca (.ref it)) Q E s:=by
 cases tup with
 |true=>exact Q0 d hi c b f
 |false=>exact wpAny_nextOf_list_end d hi c b f
structure ZSt(t1 t2:Bool)(h:Uv)(z p q i1 i2 a b:Ul)(k:Nat)(f0:Uk):Prop where
 zip:IsZip h z p q f0
 its:IsPair h p (.ref i1) (.ref i2)
 res:∃u v,IsPair h q u v
 one:UV t1 h i1 a k
 two:UV t2 h i2 b k
def CI{H G:Bool}{z p q f e a b:Ul}{k:Nat}{xs ys:Array Uk}{x y:Uk}{Q:Uk->Af->Prop}(D:My z p q f e a b)(S:ZSt H G s.heap z p q f e a b k .none)(s1:QK H s.heap a xs)(Z:QK G s.heap b ys)(hx:xs[k]?=b3 x)(hy:ys[k]?=b3 y)(hQ:∀h',ZSt H G h' z p q f e a b (k+1) (rawInt s.heap.objs.size)->IsPair h' s.heap.objs.size x y->h'.objs.size=s.heap.objs.size+1->(∀c o,c≠z->c≠q->c≠f->c≠e->s.heap.get? c=b3 o->h'.get? c=b3 o)->Q (.ref s.heap.objs.size) {s with heap:=h'}):Uo (Ur prog w) A (Ej.«zip.__next__» ⟨[.ref z],[]⟩) (λN s'=>∃v,N=.done (.ret v)/\Q v s') E s:=by
 obtain⟨t,X,⟨u,v,gr⟩,g1,g2⟩:=S;show Uo _ _ (field (Bv z) 2>>=_) _ _ _;refine Ac (Ep t rfl (x:=.bool bb) rfl ?_);show Uo _ _ (field (Bv z) 3>>=_) _ _ _;refine Ac (Ep t rfl (x:=.ref p) rfl (Ac (Fi X rfl ?_)));show Uo _ _ (Dy (Bv z)>>=_) _ _ _;refine Ac ?_
 (unfold Dy)
 refine Ac (Ep t rfl (x:=.none) rfl (Aj ?_));simp only[if_true];refine Ac (Ib (Ac (Ep t rfl (x:=.ref q) rfl (Ac (Ft t (by simp) λha L i=>Ac ?_)))));have L:IsZip ha z p q .ellipsis:=L;simp only[Rr,Qq,Nj,Js];refine Ac (Ac (Lk ?_));show Uo _ _ (Ca (Bv f)>>=_) _ _ _;refine Ac (SA (g1.ext i.extBut D.i1z) (s1.ext i.extBut D.l1z) hx λhb n1 l=>Aj ?_);have V:IsPair hb q u v:=l.extBut _ _ D.TOi1 (i.extBut _ _ D.TOz gr);refine Ac (Fi V rfl (Ac (Jb V λhc M j=>Ac (Nv (Aj ?_)))));have M:IsPair hc q x v:=M;refine Ac (Ac (Lk ?_));show Uo _ _ (Ca (Bv e)>>=_) _ _ _;refine Ac (SA (((g2.ext i.extBut D.i2z).ext l.extBut D.i12.symm).ext j.extBut D.TOi2.symm) (((Z.ext i.extBut D.l2z).ext l.extBut D.l2i1).ext j.extBut D.l2TO) hy λhd n2 C=>Aj ?_);have U:IsPair hd q x v:=C.extBut _ _ D.TOi2 M;refine Ac (Fi U rfl (Ac (Jb U λd I B=>Ac (Nv (Aj (Aj ?_))))));have I:IsPair d q x y:=I;refine Ac (Fi I rfl (Ac (wpAny_newTuple ?_)));have size:d.objs.size=s.heap.objs.size:=by rw[B.1,C.1,j.1,l.1,i.1]
 have T:IsZip d z p q .ellipsis:=B.extBut _ _ D.TOz.symm (C.extBut _ _ D.i2z.symm (j.extBut _ _ D.TOz.symm (l.extBut _ _ D.i1z.symm L)));have W:∀c o,c≠z->c≠q->c≠f->c≠e->s.heap.get? c=b3 o->d.get? c=b3 o:=λc o h J P O g=>B.extBut _ _ J (C.extBut _ _ O (j.extBut _ _ J (l.extBut _ _ P (i.extBut _ _ h g))));have e1:UV H d f a (k+1):=((n1.ext j.extBut D.TOi1.symm).ext C.extBut D.i12).ext B.extBut D.TOi1.symm;have e2:UV G d e b (k+1):=n2.ext B.extBut D.TOi2.symm;have ie:IsPair d p (.ref f) (.ref e):=W _ _ D.TIz D.TITO D.TIi1 D.TIi2 X;have m:z<d.objs.size:=Aq T;show Uo _ _ (Hc (Bv z) (.ref d.objs.size)>>=_) _ _ _;refine Ac ?_
 (unfold Hc)
 have Y:IsZip (d.push {cls:=.type "tuple",data:=.seq #[x,y]}) z p q .ellipsis:=Ae _ T;refine Ac (Ft Y (by simp) λhg K R=>?_);have K:IsZip hg z p q (rawInt d.objs.size):=K;refine Ft K (by simp) λhk F bk=>?_;have F:IsZip hk z p q (rawInt d.objs.size):=F;have n:∀c o,c≠z->d.get? c=b3 o->hk.get? c=b3 o:=λc o h g=>bk.extBut _ _ h (R.extBut _ _ h (Ae _ g));have tk:IsPair hk d.objs.size x y:=bk.extBut _ _ (Hi m) (R.extBut _ _ (Hi m) (As _ rfl));have r:hk.objs.size=d.objs.size+1:=by rw[bk.1,R.1,Ei]
 rw[size]at F tk r;refine Aj ⟨_,rfl,?_⟩;show Q (.ref d.objs.size) _;rw[size];exact hQ hk ⟨F,n _ _ D.TIz ie,⟨x,y,n _ _ D.TOz I⟩,e1.at λo g=>n _ o D.i1z g,e2.at λo g=>n _ o D.i2z g⟩ tk r λc o h J P O g=>n c o h (W c o h J P O g)
def fN{K J:Bool}{z p q t r a b:Ul}{k:Nat}{xs ys:Array Uk}{Q:Fin->Af->Prop}(M:A.handled=b4)(D:My z p q t r a b)(S:ZSt K J s.heap z p q t r a b k .none)(s1:QK K s.heap a xs)(T:QK J s.heap b ys)(U:xs[k]?=b4∨ys[k]?=b4)(N:∀h' e,(∀c o,c≠z->c≠q->c≠t->c≠r->s.heap.get? c=b3 o->h'.get? c=b3 o)->(∃o,h'.get? e=b3 o/\o.cls=.type "StopIteration")->E (.ref e) {s with heap:=h'}):Uo (Ur prog w) A (Ej.«zip.__next__» ⟨[.ref z],[]⟩) Q E s:=by
 obtain⟨j,Z,⟨u,v,Y⟩,O,g2⟩:=S;show Uo _ _ (field (Bv z) 2>>=_) _ _ _;refine Ac (Ep j rfl (x:=.bool bb) rfl ?_);show Uo _ _ (field (Bv z) 3>>=_) _ _ _;refine Ac (Ep j rfl (x:=.ref p) rfl (Ac (Fi Z rfl ?_)));show Uo _ _ (Dy (Bv z)>>=_) _ _ _;refine Ac ?_
 (unfold Dy)
 refine Ac (Ep j rfl (x:=.none) rfl (Aj ?_));simp only[if_true];refine Ac (Ib (Ac (Ep j rfl (x:=.ref q) rfl (Ac (Ft j (by simp) λX n d=>Ac ?_)))));have n:IsZip X z p q .ellipsis:=n;simp only[Rr,Qq,Nj,Js];refine Ac (Ac (Lk ?_));show Uo _ _ (Ca (Bv t)>>=_) _ _ _;cases C:xs[k]? with
 |none=>
  refine Ac (LI M (O.ext d.extBut D.i1z) (s1.ext d.extBut D.l1z) C λF e f ⟨y,h,l⟩=>?_);have I:IsZip F z p q .ellipsis:=f _ _ D.i1z.symm n;have B:e≠z:=λw=>by subst w;rw[I]at h;cases h;simp at l
  exact Ft I (by simp) λhc _ i=>N hc e (λc o m _ G _ g=>i.extBut _ _ m (f _ _ G (d.extBut _ _ m g))) ⟨y,i.extBut _ _ B h,l⟩
 |some x=>
  have V:ys[k]?=b4:=U.resolve_left λw=>by rw[C]at w;cases w
  refine Ac (SA (O.ext d.extBut D.i1z) (s1.ext d.extBut D.l1z) C λF n1 f=>Aj ?_);have L:IsPair F q u v:=f.extBut _ _ D.TOi1 (d.extBut _ _ D.TOz Y);refine Ac (Fi L rfl (Ac (Jb L λhc rc i=>Ac (Nv (Aj (Ac (Ac (Lk ?_))))))));show Uo _ _ (Ca (Bv r)>>=_) _ _ _;refine Ac (LI M (((g2.ext d.extBut D.i2z).ext f.extBut D.i12.symm).ext i.extBut D.TOi2.symm) (((T.ext d.extBut D.l2z).ext f.extBut D.l2i1).ext i.extBut D.l2TO) V λhd e R ⟨y,h,l⟩=>?_);have H:IsZip hd z p q .ellipsis:=R _ _ D.i2z.symm (i.extBut _ _ D.TOz.symm (f.extBut _ _ D.i1z.symm n));have B:e≠z:=λw=>by subst w;rw[H]at h;cases h;simp at l
  exact Ft H (by simp) λW _ P=>N W e (λc o m c2 G c4 g=>P.extBut _ _ m (R _ _ c4 (i.extBut _ _ c2 (f.extBut _ _ G (d.extBut _ _ m g))))) ⟨y,P.extBut _ _ B h,l⟩
def E8{g f:Bool}{z p q e d a b:Ul}{k:Nat}{xs ys:Array Uk}{x y:Uk}{Q:Option Uk->Af->Prop}(D:My z p q e d a b)(S:ZSt g f s.heap z p q e d a b k .none)(s1:QK g s.heap a xs)(h:QK f s.heap b ys)(j:xs[k]?=b3 x)(i:ys[k]?=b3 y)(l:∀h',ZSt g f h' z p q e d a b (k+1) (rawInt s.heap.objs.size)->IsPair h' s.heap.objs.size x y->h'.objs.size=s.heap.objs.size+1->(∀c o,c≠z->c≠q->c≠e->c≠d->s.heap.get? c=b3 o->h'.get? c=b3 o)->Q (b3 (.ref s.heap.objs.size)) {s with heap:=h'}):Uo (Ur prog w) A (pyNext (.ref z)) Q E s:=by
 have ty:s.TypeIs (.ref z) "zip":=⟨_,S.zip,rfl⟩
 (unfold pyNext)
 exact Ac (Ll (Cw (name:=Be "__next__") ty Jw (Et Jw ty Qr (CI D S s1 h j i λh' r n m a4=>Aj (l h' r n m a4)) (Pr _))))
def BC{h g:Bool}{z p q f d a b:Ul}{k:Nat}{xs ys:Array Uk}{Q:Option Uk->Af->Prop}(m:A.handled=b4)(D:My z p q f d a b)(S:ZSt h g s.heap z p q f d a b k .none)(s1:QK h s.heap a xs)(i:QK g s.heap b ys)(l:xs[k]?=b4∨ys[k]?=b4)(n:∀h',(∀c o,c≠z->c≠q->c≠f->c≠d->s.heap.get? c=b3 o->h'.get? c=b3 o)->Q b4 {s with heap:=h'}):Uo (Ur prog w) A (pyNext (.ref z)) Q E s:=by
 have ty:s.TypeIs (.ref z) "zip":=⟨_,S.zip,rfl⟩
 (unfold pyNext)
 refine Ac (Ll (Cw (name:=Be "__next__") ty Jw (Et Jw ty Qr (fN m D S s1 i l λh' e j ⟨o,r,t⟩=>?_) (Pr _))));exact Ac (wpAny_isInstance (T:= "StopIteration") (b:=ba) ⟨o,r,t⟩ isSubtype_stop (Aj (n _ j)))
end
def nX(tup:Bool):String:=if tup=ba then "tuple_iterator" else "list_iterator"
noncomputable abbrev zO(tup:Bool)(a:Ul):Uw:={cls:=.type (nX tup),data:=.fields #[.ref a,.int 0 0]}
def Xd{prog:Av}{w:Uu}{A:Cc}{E:Uk->Af->Prop}{s:Af}{tup:Bool}{a:Ul}{xs:Array Uk}{Q:Uk->Af->Prop}(h:QK tup s.heap a xs)(b:Q (.ref s.heap.objs.size) {s with heap:=s.heap.push (zO tup a)}):Uo (Ur prog w) A (pyIter (.ref a)) Q E s:=by
 cases tup with
 |true=>exact Hn h b
 |false=>exact Gy h b
def QK.push{tup:Bool}{h:Uv}{a:Ul}{xs:Array Uk}(x:QK tup h a xs)(o:Uw):QK tup (h.push o) a xs:=by
 cases tup with
 |true=>obtain⟨o,e,r⟩:=x;exact⟨o,Ae _ e,r⟩
 |false=>obtain⟨o,e,r⟩:=x;exact⟨o,Ae _ e,r⟩
def fZ(c e:Bool)(a b:Ul)(xs ys:Array Uk):Meets (Ej.«zip.__new__» ⟨[.type "zip",.ref a,.ref b],[]⟩) (λ_ R s=>QK c s.heap a xs/\QK e s.heap b ys/\∀h1 h2 i f k,h1=s.heap.push (zO c a)->h2=h1.push (zO e b)->i=h2.push {cls:=.type "tuple",data:=.seq #[.ref s.heap.objs.size,.ref h1.objs.size]}->f=i.push {cls:=.type "tuple",data:=.seq #[.none,.none]}->k=f.push {cls:=.type "zip",data:=.fields #[.none,.bool bb,.bool bb,.ref h2.objs.size,.ref i.objs.size]}->R (.ok (.ret (.ref f.objs.size))) {s with heap:=k}):=by
 refine .of_wp λprog w A R s h=>?_;obtain⟨j,g,d,tk,os⟩:=s;obtain⟨m,l,h⟩:=h;have n:=sub_zip;have k1:QK c (Rq ⟨j,g,d,tk,os⟩) a xs:=m;have k2:QK e (Rq ⟨j.push (zO c a),g,d,tk,os⟩) b ys:=QK.push l _;wp_walk using Xd k1,Xd k2
 exact⟨_,rfl,h _ _ _ _ _ rfl rfl rfl rfl rfl⟩
def AF{prog:Av}{w:Uu}{A:Cc}{E:Uk->Af->Prop}{s:Af}{f e:Bool}{a b:Ul}{xs ys:Array Uk}{Q:Uk->Af->Prop}(K:QK f s.heap a xs)(J:QK e s.heap b ys)(h:∀h',ZSt f e h' (s.heap.objs.size+4) (s.heap.objs.size+2) (s.heap.objs.size+3) s.heap.objs.size (s.heap.objs.size+1) a b 0 .none->(∀c o,s.heap.get? c=b3 o->h'.get? c=b3 o)->Q (.ref (s.heap.objs.size+4)) {s with heap:=h'}):Uo (Ur prog w) A (call (.type "zip") [.ref a,.ref b]) Q E s:=by
 refine callType_new F.called_zip (by decide) (F.typeCall_zip_2 _ _) (F.newCall_zip_2 _ _) (λobj=>F.args_object_init_3 obj _ _) F.entry_zip_new (fZ f e a b xs ys) ⟨K,J,?_⟩;rintro h1 h2 g n d u t r p H;have k:h1.objs.size=s.heap.objs.size+1:=by rw[u,Ei]
 have j:h2.objs.size=s.heap.objs.size+2:=by rw[t,Ei,k]
 have i:g.objs.size=s.heap.objs.size+3:=by rw[r,Ei,j]
 have v:n.objs.size=s.heap.objs.size+4:=by rw[p,Ei,i]
 have x:∀c o,n.get? c=b3 o->d.get? c=b3 o:=λc o q=>by rw[H];exact Ae _ q
 have y:∀c o,g.get? c=b3 o->d.get? c=b3 o:=λc o q=>x c o (by rw[p];exact Ae _ q);have z:∀c o,h2.get? c=b3 o->d.get? c=b3 o:=λc o q=>y c o (by rw[r];exact Ae _ q);have B:∀c o,h1.get? c=b3 o->d.get? c=b3 o:=λc o q=>z c o (by rw[t];exact Ae _ q);have I:∀c o,s.heap.get? c=b3 o->d.get? c=b3 o:=λc o q=>B c o (by rw[u];exact Ae _ q);have l:d.get? n.objs.size=b3 {cls:=.type "zip",data:=.fields #[.none,.bool bb,.bool bb,.ref h2.objs.size,.ref g.objs.size]}:=by rw[H];exact As _ rfl
 have C:d.get? g.objs.size=b3 {cls:=.type "tuple",data:=.seq #[.none,.none]}:=x _ _ (by rw[p];exact As _ rfl);have D:d.get? h2.objs.size=b3 {cls:=.type "tuple",data:=.seq #[.ref s.heap.objs.size,.ref h1.objs.size]}:=y _ _ (by rw[r];exact As _ rfl);have m:d.get? h1.objs.size=b3 (zO e b):=z _ _ (by rw[t];exact As _ rfl);have G:d.get? s.heap.objs.size=b3 (zO f a):=B _ _ (by rw[u];exact As _ rfl);show _/\_;rw[j,i,v]at l;rw[i]at C;rw[k,j]at D;rw[k]at m;rw[v];refine⟨⟨_,l,rfl⟩,h _ ⟨l,D,⟨_,_,C⟩,?_,?_⟩ I⟩
 ·cases f with
  |true=>exact⟨_,G,rfl,rfl⟩
  |false=>exact⟨_,G,rfl,rfl⟩
 ·cases e with
  |true=>exact⟨_,m,rfl,rfl⟩
  |false=>exact⟨_,m,rfl,rfl⟩
def gE(n a b:Nat)(d:a<n)(c:b<n):My (n+4) (n+2) (n+3) n (n+1) a b:=by
 have f:∀x y:Nat,x<y∨y<x->x≠y:=λx y h=>by lia
 exact⟨f _ _ (by lia),f _ _ (by lia),f _ _ (by lia),f _ _ (by lia),f _ _ (by lia),f _ _ (by lia),f _ _ (by lia),f _ _ (by lia),f _ _ (by lia),f _ _ (by lia),f _ _ (by lia),f _ _ (by lia),f _ _ (by lia),f _ _ (by lia),f _ _ (by lia),f _ _ (by lia),f _ _ (by lia),f _ _ (by lia)⟩
def Itz(K:Ah)(d c:Bool)(a b:Ul):It:=
  ⟨λi H=>∃xs ys x y,KG K d H a xs/\KG K c H b ys/\xs[i]?=b3 x/\ys[i]?=b3 y,λi H v H'=>∃p x y,(∀xs,KG K d H a xs->xs[i]?=b3 x)/\(∀ys,KG K c H b ys->ys[i]?=b3 y)/\H p=b4/\H'=upd H p (.tup [x,y])/\v=.ref p,λi H=>∃xs ys,KG K d H a xs/\KG K c H b ys/\(xs.length<=i∨ys.length<=i)⟩
def nU{P:Av}{w:Uu}{K:Ah}{es:List Us}{k:Nat}{pos:Pos}(F C:Bool)(z p q l j a b:Ul)(D:My z p q l j a b):
  EN P w K (.Tuple es k pos) (Itz K F C a b) [z,p,q,l,j] z (λi h=>ZSt F C h z p q l j a b i .none) where
 mem:=by simp
 obj:=λi h st c hc=>by
  simp only[Am,Ax,or_false]at hc;rcases hc with rfl|rfl|rfl|rfl|rfl
  ·exact⟨_,st.zip,λv e=>by cases e⟩
  ·exact⟨_,st.its,λv e=>by cases e⟩
  ·obtain⟨u,v,g⟩:=st.res
   exact⟨_,g,λv e=>by cases e⟩
  ·exact st.one.obj
  ·exact st.two.obj
 keep:=λi h h' st t=>by obtain⟨u,v,g⟩:=st.res;exact⟨t z (by simp) _ st.zip,t p (by simp) _ st.its,⟨u,v,t q (by simp) _ g⟩,st.one.at λo e=>t l (by simp) o e,st.two.at λo e=>t j (by simp) o e⟩
 item:=by
  intro X O hw Q hc i aa s σ H E I A st M;subst O hw Q;obtain⟨xs,ys,x,y,n,m,V,U⟩:=M;obtain⟨T,L,S,_⟩:=I.srcA n;obtain⟨vs,J,R,_⟩:=I.srcA m;obtain⟨u,hu,ru⟩:=L.get V;obtain⟨v,hv,rv⟩:=J.get U;refine E8 D st S R (by simpa using hu) (by simpa using hv) λh1 f hp hsz hk=>⟨_,rfl,?_⟩;refine wpAny_letOwnedTupleGo_zip (s:={s with heap:=h1}) f.zip λh2 W G=>?_;have G:Fq z h1 h2:=G;have lt:∀c∈[z,p,q,l,j],c<s.heap.objs.size:=λc hc=>by
   simp only[Am,Ax,or_false]at hc;rcases hc with rfl|rfl|rfl|rfl|rfl
   ·exact Aq st.zip
   ·exact Aq st.its
   ·obtain⟨u,v,g⟩:=st.res
    exact Aq g
   ·obtain⟨o,e,_⟩:=st.one.obj
    exact Aq e
   ·obtain⟨o,e,_⟩:=st.two.obj
    exact Aq e
  have r:∀c o,c≠z->h1.get? c=b3 o->h2.get? c=b3 o:=λc o N e=>(G.2 c N).trans e;have d:ZSt F C h2 z p q l j a b (i+1) .none:=by obtain⟨Z,Y,g⟩:=f.res;exact⟨W,r _ _ D.TIz f.its,⟨Z,Y,r _ _ D.TOz g⟩,f.one.at λo e=>r _ o D.i1z e,f.two.at λo e=>r _ o D.i2z e⟩
  have g8:h2.get? s.heap.objs.size=b3 {cls:=.type "tuple",data:=.seq #[u,v]}:=r _ _ (Hi (lt z (by simp))) hp;have bu:H s.heap.objs.size=b4:=I.hok.fresh (Ar _);have I0:cF X aa σ (upd H s.heap.objs.size (.tup [x,y])) {s with heap:=s.heap.push {cls:=.type "tuple",data:=.seq #[u,v]},toks:=s.toks}:=
   I.laid (λc o e=>Ae _ e) (Ar _) ⟨by show 2<=sizeLine;decide,[u,v],.cons ru (.cons rv .nil),Jo _ _⟩
  have I1:cF X aa σ (upd H s.heap.objs.size (.tup [x,y])) {s with heap:=h2,toks:=s.toks}:=by
   refine cF.turnedL (s:={s with heap:=s.heap.push {cls:=.type "tuple",data:=.seq #[u,v]},toks:=s.toks}) (h':=h2) (t':=s.toks) (fp:=[z,p,q,l,j]) I0 (λc o hc e=>?_) (λc hc=>?_) λc hc=>⟨by rw[bZ (Bb (lt c hc))];exact(A c hc).1,(A c hc).2⟩
   ·by_cases B:c=s.heap.objs.size
    ·subst B
     have e:(s.heap.push {cls:=.type "tuple",data:=.seq #[u,v]}).get? s.heap.objs.size=b3 o:=e;rw[As _ rfl]at e;cases e;exact g8
    ·have e':=(Ii _ _ _ B).symm.trans e
     exact r c o (λw=>hc (by simp[w])) (hk c o (λw=>hc (by simp[w])) (λw=>hc (by simp[w])) (λw=>hc (by simp[w])) (λw=>hc (by simp[w])) e')
   ·simp only[Am,Ax,or_false]at hc
    rcases hc with rfl|rfl|rfl|rfl|rfl
    ·exact⟨_,d.zip⟩
    ·exact⟨_,d.its⟩
    ·obtain⟨u,v,g⟩:=d.res
     exact⟨_,g⟩
    ·obtain⟨o,e,_⟩:=d.one.obj
     exact⟨o,e⟩
    ·obtain⟨o,e,_⟩:=d.two.obj
     exact⟨o,e⟩
  exact⟨.ref s.heap.objs.size,_,I1,rfl,⟨_,x,y,λzs hz=>by rw[I.sq_inj hz n];exact V,λzs hz=>by rw[I.sq_inj hz m];exact U,bu,rfl,rfl⟩,d,λc hc=>by rw[bZ (Bb (lt c hc))];exact(A c hc).1⟩
 done:=by
  intro X O hw Q hc i aa s σ H E I A st M;subst O hw Q;obtain⟨xs,ys,n,m,i3⟩:=M;obtain⟨T,L,S,_⟩:=I.srcA n;obtain⟨vs,J,R,_⟩:=I.srcA m;have l1:=L.length;have l2:=J.length;have he:T.toArray[i]?=b4∨vs.toArray[i]?=b4:=by
   rcases i3 with z|z
   ·exact .inl (by simp;lia)
   ·exact .inr (by simp;lia)
  refine BC (I.ok.hd hc) D st S R he λh1 hk=>⟨rfl,?_⟩;have fq:∀c∈[z,q,l,j],c∈[z,p,q,l,j]:=λc hc=>by simp only[Am,Ax,or_false]at hc⊢;rcases hc with w|w|w|w<;>simp[w]
  have I':=cF.turnedL' (s:=s) (h':=h1) (t':=s.toks) (fp:=[z,q,l,j]) I (λc o hc e=>hk c o (λw=>hc (by simp[w])) (λw=>hc (by simp[w])) (λw=>hc (by simp[w])) (λw=>hc (by simp[w])) e) λc hc=>A c (fq c hc);exact I'
 self:=λ_ i _ _ _ st h=>wpAny_pyIter_zip st.zip h
section
variable{X:Cx}{K:Ah}{ml:List Nat}{l m:Us}{pa ta ia pb tb ib:Bool}{f g:VF}{p pos dn:Pos}{es:List Us}{tk:Nat}{δ:Ev}
def iZp(K:Ah)(tl e:TE):TI:=λσ H R=>tl σ H λx H1=>e σ H1 λy H2=>∃a b d c,x=.ref a/\y=.ref b/\(∃xs,KG K d H2 a xs)/\(∃ys,KG K c H2 b ys)/\R (Itz K d c a b) H2
def kL{tl q:TE}(G:Gl X "zip")(F:X.mg "zip"=b4)(hl:PE X l tl)(E:PE X m q)(r:SE X l [m]:=by rfl)(o:SE X m []:=by rfl)(n:(Fb pos (Um [m] X.env)).any (·.1)=bb:=by rfl):PI X (.Tuple es tk dn) (.Call (.Name "zip" p) [l,m] [] pos) (iZp X.K tl q):=by
 intro aa s σ H R I h;refine Fe (R8 I G F pL ?_ (by decide) (by decide));refine Em (ZL (bW hl (bW E Z9 o) r pos aa s σ H (λvs H1=>match vs with
  |[x,y]=>∃a b e d,x=.ref a/\y=.ref b/\(∃xs,KG X.K e H1 a xs)/\(∃ys,KG X.K d H1 b ys)/\R (Itz X.K e d a b) H1
  |_=>False) I h) λA s1 ⟨vs,H1,g,i,q1⟩=>?_) r n
 match vs,i,q1 with
 |[x,y],i,q1=>
  obtain⟨a,b,e,d,rfl,rfl,⟨xs,k⟩,⟨ys,j⟩,M⟩:=q1;obtain⟨u,v,rfl,C,B⟩:=IJ i;cases C;cases B;obtain⟨A,P,z,_⟩:=g.srcA k;obtain⟨vs,O,t,_⟩:=g.srcA j;refine AF z t λh' st kp=>?_;have N:cF X aa σ H1 {s1 with heap:=h'}:=g.kept (t':=s1.toks) kp;have L:=z.lt;have J:=t.lt;have D:My (s1.heap.objs.size+4) (s1.heap.objs.size+2) (s1.heap.objs.size+3) s1.heap.objs.size (s1.heap.objs.size+1) a b:=by exact gE _ a b L J
  refine wpAny_pyIter_zip st.zip ⟨s1.heap.objs.size+4,[s1.heap.objs.size+4,s1.heap.objs.size+2,s1.heap.objs.size+3,s1.heap.objs.size,s1.heap.objs.size+1],_,Itz X.K e d a b,H1,rfl,N,nU e d _ _ _ _ _ a b D,st,λc hc=>?_,M⟩;have f:s1.heap.objs.size<=c:=by simp only[Am,Ax,or_false]at hc;rcases hc with w|w|w|w|w<;>rw[w]<;>first|exact Iy _ _|exact Ar _
  exact g.fpOk f (g.hok.fresh f)
def nI(h:X.K=K){tl c:TE}(f:Gl X "zip")(e:X.mg "zip"=b4)(hl:PE X l tl)(d:PE X m c)(g:SE X l [m]:=by rfl)(b:SE X m []:=by rfl)(a:(Fb pos (Um [m] X.env)).any (·.1)=bb:=by rfl):PI X (.Tuple es tk dn) (.Call (.Name "zip" p) [l,m] [] pos) (iZp K tl c):=by subst h;exact kL f e hl d g b a
noncomputable def SX:List cU->List cU->List cU
 |d::ds,e::es=>.tup [d,e]::SX ds es
 |_,_=>[]
def iZip(f g:VF):VI:=λδ=>(f δ).bind λp=>(g p.2).bind λq=>(XB p.1).bind λds=>(XB q.1).map λes=>(SX ds es,q.2)
theorem IQ:∀{ds es:List cU}{i:Nat}{d:cU},(SX ds es)[i]?=b3 d->∃x y,ds[i]?=b3 x/\es[i]?=b3 y/\d=.tup [x,y]
 |[],_,_,_,h=>by simp[SX]at h
 |_::_,[],_,_,h=>by simp[SX]at h
 |x::ds,y::es,0,d,h=>by simp[SX]at h;exact⟨x,y,rfl,rfl,h.symm⟩
 |x::ds,y::es,i+1,d,h=>by obtain⟨b,a,h1,h2,c⟩:=IQ (ds:=ds) (es:=es) (i:=i) (d:=d) (by simpa[SX]using h);exact⟨b,a,by simpa using h1,by simpa using h2,c⟩
theorem IS:∀{ds es:List cU},ds.length<=(SX ds es).length∨es.length<=(SX ds es).length
 |[],_=>.inl (Er _)
 |_::_,[]=>.inr (Er _)
 |x::ds,y::es=>by
  rcases IS (ds:=ds) (es:=es)with h|h
  ·exact .inl (Qs h)
  ·exact .inr (Qs h)
def jR:cU->Bool
 |.tup _=>ba
 |_=>bb
def bO.sqA{N M:Ul->Prop}{H:Hp}{v:V}{d:cU}{ds:List cU}(h:bO K N H M v d)(e:XB d=b3 ds):∃a tup xs,v=.ref a/\KG K tup H a xs/\b9 K N H xs ds/\tup=jR d:=by
  cases d<;>first
    | (cases e
       obtain⟨a,xs,h1,h2,b⟩:=h.tupE;exact⟨a,ba,xs,h1,h2,b,rfl⟩)
    | (cases e
       obtain⟨a,xs,h1,h2,b⟩:=h.lstE;exact⟨a,bb,xs,h1,h2,b,rfl⟩)
    |cases e
def gA(hK:X.K=K)(hg:Gl X "zip")(hm:X.mg "zip"=b4)(h:PE X l (TV K ml pa ba ba f))(h':PE X m (TV K ml pb ba ba g))(he:SE X l [m]:=by rfl)(E:SE X m []:=by rfl)
  (C:(Fb pos (Um [m] X.env)).any (·.1)=bb:=by rfl):PI X (.Tuple es tk dn) (.Call (.Name "zip" p) [l,m] [] pos) (TIV K ml (pa&&pb) (iZip f g)):=(nI (K:=K) hK hg hm h h' he E C).imp λσ H R A=>by
 obtain⟨B,O,δ,ds,δ2,S,q,k⟩:=A;unfold iZip at q;obtain⟨⟨x,δ1⟩,h1,q⟩:=Aa.mp q;cases h2:g δ1 with
 |none=>simp[h2]at q
 |some p2=>
  obtain⟨y,r⟩:=p2;simp only[Ai,h2]at q;obtain⟨xs,Q,q⟩:=Aa.mp q;have q:(XB y).map (λes=>(SX xs es,r))=b3 (ds,δ2):=q;obtain⟨ys,P,q⟩:=Ap.mp q;cases q;refine⟨B,O,δ,x,δ1,S,h1,λt H1 o=>⟨B,O,δ1,y,_,o.sta,h2,λs H2 R2=>?_⟩⟩;have M:=o.rep.fr R2.frm (λa z=>.inr z) λa z=>.inr z;obtain⟨a,L,us,W,q1,w1,I⟩:=M.sqA Q;obtain⟨b,J,vs,V,q2,w2,G⟩:=R2.rep.sqA P;refine⟨a,b,L,J,W,V,⟨us,q1⟩,⟨vs,q2⟩,k _ [(t,x),(s,y)] H2 (R2.sta.keepV λz hz=>?_) (o.frm.trans R2.frm) (λz=>?_) ?_⟩
  ·simp only[Am,Ax,or_false]at hz
   rcases hz with rfl|rfl
   ·exact M
   ·exact R2.rep
  ·obtain⟨z1,z2⟩:=(Ad _ _).mp z
   exact(o.pur z1).trans (R2.pur z2)
  ·intro N H h
   obtain⟨a',v,j,f1,f2,f3,f4⟩:=(h (t,x) (by simp)).sqA Q;obtain⟨b',u,c,n,F,T,g4⟩:=(h (s,y) (by simp)).sqA P;have f1:t=.ref a':=f1;have n:s=.ref b':=n;rw[W]at f1;rw[V]at n;cases f1;cases n;have:v=L:=f4.trans I.symm
   subst this;have:u=J:=g4.trans G.symm
   subst this;refine⟨λi d e=>?_,j,c,f2,F,?_⟩
   ·obtain⟨dx,dy,hx,hy,rfl⟩:=IQ e
    obtain⟨ux,ex,rx⟩:=f3.get hx;obtain⟨uy,U,ry⟩:=T.get hy;refine⟨⟨j,c,ux,uy,f2,F,ex,U⟩,λz H' hz=>?_⟩;obtain⟨pp,x',y',c1,c2,D,rfl,rfl⟩:=hz;have Z:=c1 j f2;have Y:=c2 c F;rw[ex]at Z;rw[U]at Y;cases Z;cases Y;exact⟨cP D,.tup (WL.of cA) (.cons (rx.same (cP D)) (.cons (ry.same (cP D)) .nil))⟩
   ·rcases IS (ds:=xs) (es:=ys)with w|w
    ·exact .inl (by rw[f3.length];exact w)
    ·exact .inr (by rw[T.length];exact w)
end
end L2
namespace L2
open PySem PySem.Spec PyProof.Rows PySem.W
section
variable{prog:Av}{w:Uu}{A:Cc}{E:Uk->Af->Prop}{s:Af}
def FY{t:Ul}{items:Array Uk}{Q:List Uk->Af->Prop}(n:A.handled=b4)(f:IsTup s.heap t items)(h1:1<=items.size)(hz:items.size<=16777216)(p:∀(x:Uk) (c:Uv) (tk:Nat),items[0]?=b3 x->(∀b o,s.heap.get? b=b3 o->c.get? b=b3 o)->Q [x,.ref c.objs.size] {s with heap:=c.push {cls:=.type "list",data:=.seq (items.toList.drop 1).toArray},toks:=tk}):Uo (Ur prog w) A (Jn (.ref t) 2 (b3 1)) Q E s:=by
 have a:t≠s.heap.objs.size:=by obtain⟨o,e,_⟩:=f;exact Bb (Aq e)
 (unfold Jn)
 refine Ac ?_
 (unfold notIterableAtAll)
 refine Ac (wpAny_specialOf f.typeIs slot_tuple_iter.lookup (Aj ?_));simp only[De,if_false];refine Ac (Bt (iter_tuple f (Ac (Bt (draw_tuple a 1 0 _ _ ⟨_,As _ rfl,rfl,rfl⟩ (f.push _) (by lia) λg ia h=>?_)))));have ta:IsTup g t items:=(f.push _).extBut h.extBut a;have ia:g.IsTupleIter s.heap.objs.size t 1:=ia;obtain⟨G,v,_⟩:=id ia;obtain⟨F,q,_⟩:=id ta;have hsz:g.objs.size=s.heap.objs.size+1:=by rw[h.1,Ei]
 have l:((items.toList.drop 0).take 1).length=1:=by simp;lia
 rw[if_neg (show¬((items.toList.drop 0).take 1).length<1 by rw[l];exact Ck _)];refine Ac (Bt (kun_collect (s:={s with heap:=g}) (T:= "tuple_iterator") (.inr (.inr (.inr rfl))) (Walks.tuple (A:=A.in1) n s.heap.objs.size t a items) (λj u st=>st.1.typeIs) (k:=1) h1 ⟨ia,ta⟩ (Aq v) (Aq q) (λc tk m=>?_) (by rw[Cf];exact hz)));have D:(items.toList.drop 1).length=items.size-1:=by simp
 show Uo _ _ (if(items.toList.drop 1).length<2-1-1 then _ else _) _ _ _;rw[if_neg (Mr _)];show Uo _ _ (newList ((items.toList.drop 1).take ((items.toList.drop 1).length-(2-1-1)))>>=λd=>pure ((items.toList.drop 0).take 1++[d]++(items.toList.drop 1).drop ((items.toList.drop 1).length-(2-1-1)))) _ _ _;have C:(items.toList.drop 1).take ((items.toList.drop 1).length-(2-1-1))=items.toList.drop 1:=Cn (Ar _);have B:(items.toList.drop 1).drop ((items.toList.drop 1).length-(2-1-1))=[]:=He;rw[C,B];refine Ac (Dq (Aj ?_) (by show _<=sizeLine;rw[Cf];simp;lia));obtain⟨x,i⟩:∃x,items[0]?=b3 x:=⟨items[0],by simp[show 0<items.size by lia]⟩;have z:(items.toList.drop 0).take 1=[x]:=by
  rw[Ni];have:items.toList[0]?=b3 x:=by simpa using i
  cases hl:items.toList with
  |nil=>rw[hl]at this;cases this
  |cons y r=>rw[hl]at this;cases this;rfl
 rw[z];have keep:∀b o,s.heap.get? b=b3 o->c.get? b=b3 o:=λb o e=>m b o (Bb (Aq e)) (h.extBut b o (Bb (Aq e)) (Ae _ e));exact p x c tk i keep
end
section
variable{X:Cx}{K:Ah}{ml:List Nat}{e a b c:Us}{es:List Us}{pa ta ia pb tb ib pc tc ic pu bt bi ps bs:Bool}{fa fb fc f:VF}{B B':Bs}{O:Nat->Option Ul}{H H0 H1 H':Hp}{σ:St}{δ δ':Ev}{v:V}{d:cU}{p:Ul}{pos:Pos}
def mR(K:Ah)(i j:Nat):TG:=λv σ H Q=>∃a x xs,v=.ref a/\WL K H a (x::xs)/\∀p,H p=b4->Q ((σ.set i (b3 x)).set j (b3 (.ref p))) (upd H p (.lst xs))
def kE{i j:Nat}{x y:Uq}{d c ps p:Pos}{k:Nat}(hc:X.calm=ba)(n:X.N.Nodup)(hi:X.N[i]?=b3 x)(E:X.N[j]?=b3 y)(A:Loc X.env.scope x)(t:Loc X.env.scope y)(fx:X.fn x=ba∨X.env.scope.names.lookup x=b3 .local)(F:X.fn y=ba∨X.env.scope.names.lookup y=b3 .local)(hl:(Ut [.Name x d,.Starred (.Name y c) ps] X.env).map (·.2)=[assign (.Name x d) X.env,assign (.Name y c) X.env])(D:(Ut [.Name x d,.Starred (.Name y c) ps] X.env).length=2)(g:(Ut [.Name x d,.Starred (.Name y c) ps] X.env).findIdx? (·.1)=b3 1):PG X (.Tuple [.Name x d,.Starred (.Name y c) ps] k p) (mR X.K i j):=by
 intro aa s σ H v u Q I r hw;obtain⟨a,z,zs,G,C,q⟩:=hw;subst G;cases r;obtain⟨its,m,B,hz⟩:=I.tuple C;rw[assign_Tuple];refine Ac (Gh ?_)
 (unfold unpack)
 rw[D,g];have l:=m.length;rw[Bx]at l;have e:its.length<=16777216:=by rw[<-Cf,<-l];exact hz
 refine Ac (Bt (FY (I.ok.hd hc) B (by rw[Ak];lia) (by rw[Ak];exact e) λu h tk f kp=>?_));rw[hl];cases m with
 | @cons _ w _ O rz b=>
  have f:b3 w=b3 u:=by simpa using f
  cases f;have o:cF X aa σ H {s with heap:=h,toks:=tk}:=I.kept kp;have M:=cF.lnew (s:={s with heap:=h,toks:=tk}) (t':=tk) o b (by rw[Cf];simp only[Bx]at e l;have:=b.length;lia);refine Ek (Hz (YX M n hi A rz (λR L=>?_) fx));refine Ek (Hz (YX L n E t (v:=.ref h.objs.size) rfl (λP J=>Ia ⟨_,_,J,q _ (o.hok.fresh (Ar _))⟩) F))
noncomputable def HU(i j:Nat)(f:VF):VS:=λδ=>(f δ).bind λp=>match p.1 with
 |.tup (d::ds)=>b3 (.nx ((p.2.set i (.va d)).set j (.va (.lst ds))))
 |_=>b4
def eM{i j:Nat}{x y:Uq}{g b sp h:Pos}{k:Nat}(Q:X.K=K)(hc:X.calm=ba)(P:X.N.Nodup)(hi:X.N[i]?=b3 x)(J:X.N[j]?=b3 y)(L:i≠j)(F:Loc X.env.scope x)(E:Loc X.env.scope y)(M:PE X e (TV K ml pu ba ba f))(t:i∉ml:=by decide)(s:j∉ml:=by decide)(fx:LO X x:=by first|exact .inl rfl|exact .inr rfl|assumption)(T:LO X y:=by first|exact .inl rfl|exact .inr rfl|assumption)(hl:(Ut [.Name x g,.Starred (.Name y b) sp] X.env).map (·.2)=[assign (.Name x g) X.env,assign (.Name y b) X.env]:=by rfl)(I:(Ut [.Name x g,.Starred (.Name y b) sp] X.env).length=2:=by rfl)(m:(Ut [.Name x g,.Starred (.Name y b) sp] X.env).findIdx? (·.1)=b3 1:=by rfl)(G:Ey [.Tuple [.Name x g,.Starred (.Name y b) sp] k h] e pos.line X.env=pure bb:=by rfl)(hw:Ez [.Tuple [.Name x g,.Starred (.Name y b) sp] k h] e X.env=pure b4:=by rfl)(h1:(Ut [.Tuple [.Name x g,.Starred (.Name y b) sp] k h] X.env).map (·.2)=[assign (.Tuple [.Name x g,.Starred (.Name y b) sp] k h) X.env]:=by rfl):PS X (.Assign [.Tuple [.Name x g,.Starred (.Name y b) sp] k h] e pos) (WH K ml (HU i j f)):=by
 subst Q;refine(QB M (kE hc P hi J F E fx T hl I m) G hw h1).imp λD σ H n=>?_;obtain⟨B,O,δ,o,S,q,k⟩:=n;unfold HU at q;obtain⟨⟨z,δ1⟩,h1,q⟩:=Aa.mp q;refine⟨B,O,δ,z,δ1,S,h1,λv H1 R=>?_⟩;cases z with
 |tup ds=>
  cases ds with
  |nil=>cases q
  |cons d ds=>
   cases q;obtain⟨a,xs,rfl,sq,r⟩:=R.rep.tupE;cases r with
   | @cons w vs _ _ C A=>
    refine⟨a,w,vs,rfl,sq,λp l=>?_⟩;have U:=(R.sta.same (cP (o:=.lst vs) l)).setVa t (C.same (cP (o:=.lst vs) l));have u:∀c,Nn B (λj=>if j=i then b4 else O j) c->Nn B O c:=PF (o:=b4);refine k _ _ _ (U.setVa s (.lst cA (λz=>R.sta.new l (u _ z)) ((A.same (cP l)).mono u)))
 |_=>cases q
end
end L2
namespace L2
open PySem PySem.Spec PyProof.Rows
section
variable{X:Cx}{K:Ah}{ml:List Nat}{e a b c:Us}{es:List Us}{pa ta ia pb tb ib pc tc ic pu bt bi ps bs:Bool}{fa fb fc f:VF}{B B':Bs}{O:Nat->Option Ul}{H H0 H1 H':Hp}{σ:St}{δ δ':Ev}{v:V}{d:cU}{p:Ul}{pos:Pos}
def rInD(K:Ah)(neg:Bool):R2:=λx y H Q=>∃d e ds,Dp K H x d/\Dp K H y e/\(e=.list ds∨e=.tuple ds)/\Fc d=ba/\Fc e=ba/\Q (.bl (if neg then !ds.any (λz=>Ji z d)else ds.any λz=>Ji z d)) H
def Q8{d:Nh}(h:Fc d=ba):d.canLay0=ba/\d.depth<=64:=by unfold Fc at h;simp only[Ad,decide_eq_true_eq]at h;exact h
def Ym(neg:Bool)(p:X.A.units+64<cLine):W7 X (Ct (if neg then .NotIn else .In)) (rInD X.K neg):=by
 intro aa s σ H x y v u Q I m l h;obtain⟨d,e,ds,hd,o,hk,j,i,q⟩:=h;obtain⟨as,h1⟩:=I.reads hd m;obtain⟨bs,h2⟩:=I.reads o l;obtain⟨c,r⟩:=Q8 j;obtain⟨g,f⟩:=Q8 i;have a:∀k,(k=if neg then !ds.any (λz=>Ji z d)else ds.any λz=>Ji z d)->EP X aa σ Q (.bool k) s:=λk hk=>by subst hk;exact⟨.bl _,H,I,rfl,q⟩
 rcases hk with rfl|rfl
 ·have hc : Ik ds = ba := by simpa [Go]using g
  have n:Fm ds<=63:=by simp only[Ir]at f;lia
  have b:X.A.units+1+min (Fm ds) d.depth<cLine:=by have:=Rs (Fm ds) d.depth;lia
  cases neg with
  |false=>exact SeqAt.in_list_reads h2 h1 hc c b (a _ rfl)
  |true=>exact SeqAt.notIn_list_reads h2 h1 hc c b (a _ rfl)
 ·have hc : Ik ds = ba := by simpa [Go]using g
  have n:Fm ds<=63:=by simp only[Ir]at f;lia
  have b:X.A.units+1+min (Fm ds) d.depth<cLine:=by have:=Rs (Fm ds) d.depth;lia
  cases neg with
  |false=>exact SeqAt.in_tuple_reads h2 h1 hc c b (a _ rfl)
  |true=>exact SeqAt.notIn_tuple_reads h2 h1 hc c b (a _ rfl)
def R6(a:X.A.units+64<cLine)(h:X.K=K:=by rfl):W7 X (Ct .In) (rInD K bb):=by subst h;exact Ym bb a
def QW(a:X.A.units+64<cLine)(h:X.K=K:=by rfl):W7 X (Ct .NotIn) (rInD K ba):=by subst h;exact Ym ba a
def K6(d:cU)(ds:List cU):Bool:=(pds ds).any λz=>Ji z d.pd
def ZV(neg:Bool)(d e:cU):Option cU:=(XB e).bind λds=>if(LJ d&&LJ e)=ba then b3 (.bl (if neg then !K6 d ds else K6 d ds))else b4
def YJ{neg:Bool}:QI K (rInD K neg) (ZV neg):=by
 intro H N N' M M' x y d e c Q g f h k;unfold ZV at h;obtain⟨ds,b,h⟩:=Aa.mp h;have h:(if(LJ d&&LJ e)=ba then b3 (cU.bl (if neg then !K6 d ds else K6 d ds))else b4)=b3 c:=h;split at h
 ·rename_i a
  cases h;simp only[LJ,Ad]at a;refine⟨d.pd,e.pd,pds ds,g.dp a.1.1,f.dp a.2.1,?_,a.1.2,a.2.2,k _ λ_ _ _=>.bl _⟩;cases e<;>first
   |(cases b;exact .inr rfl)
   |(cases b;exact .inl rfl)
   |cases b
 ·cases h
def gY(K:Ah)(td ty:TE):TE:=λσ H Q=>td σ H λx H1=>∃a,x=.ref a/\((IsD H1 a/\ty σ H1 λy H2=>∃o,PM H2 a y o/\Q (o.getD .non) H2)∨∃D,KTab K a D/\ty σ H1 λy H2=>∃k,y=.str k/\Q ((Fx k D).getD .non) H2)
def iE{ao ae:Pos}{td ty:TE}(E:X.A.units+1<cLine)(F:PE X a td)(n:PE X e ty)(m:M1 X a "get" ao e ae):PE X (.Call (.Attribute a "get" ao) [e] [] ae) (gY X.K td ty):=by
 intro aa s σ H Q I h;refine Pk m.base m.few m.line Lj Ec Mo (ZL (F aa s σ H _ I h) λu s1 ⟨x,H1,d,w,l,ex,q1⟩=>?_);subst ex;obtain rfl:u=Bv l:=w;rcases q1 with⟨hd,q1⟩|⟨D,T,q1⟩
 ·obtain⟨v,r,_⟩:=Wm d hd
  refine⟨v,r,?_⟩;rw[m.trees];refine Gp rfl (Fz (Gr (ZL (n aa s1 σ H1 _ d q1) λB f ⟨y,H2,c,i,S,g,q2⟩=>Ic ?_)));exact oH E c g i λO P N j=>⟨_,H2,N,j,q2⟩
 ·obtain⟨z,o,R,U,hk,hex,V,_⟩:=id T
  refine⟨⟨o,d.kIn _ _ hk,hex.1⟩,λb q=>?_,?_⟩
  ·cases q
   exact⟨o,d.kIn _ _ hk,hex.2.1⟩
  rw[m.trees];refine Gp rfl (Fz (Gr (ZL (n aa s1 σ H1 _ d q1) λB f ⟨y,H2,c,i,k,M,q2⟩=>Ic ?_)));subst M;obtain⟨t,rfl⟩:=i;have L:f.TypeIs (.ref l) "dict":=⟨o,c.kIn _ _ hk,hex.1⟩;refine Et Ec L Fn ?_ (Ht _ _);show Uo _ _ (dictGet l (.str k t)>>=_) _ _ f;refine Ac (GV c.kIn T (λd' p J C=>Aj ⟨p,rfl,?_⟩) λG=>?_)
  ·rw[J]at q2
   exact⟨d',H2,c.tok _,C,q2⟩
  ·rw[G]at q2
   show Uo _ _ (Nw l (.str k t)>>=_) _ _ _;unfold Nw;rw[if_neg (by rw[z];exact El)];exact Ac (Aj (Aj ⟨.none,rfl,.non,H2,c.tok _,rfl,q2⟩))
def Yk:cU->cU->Option cU
 |.dct ks ds,.str x=>b3 ((a8 ks ds (.inr x)).getD .non)
 |_,_=>b4
def fT{ao ae:Pos}(P:X.K=K)(J:X.A.units+1<cLine)(N:PE X a (TV K ml pa ta ia fa))(M:PE X b (TV K ml pb tb ib fb))(m:M1 X a "get" ao b ae)(f:(pb || (ta&&ia))=ba:=by rfl):PE X (.Call (.Attribute a "get" ao) [b] [] ae) (TV K ml (pa&&pb) ia ia (f2 Yk fa fb)):=by
 subst P;refine(iE J N M m).imp λσ H Q u=>?_;obtain⟨B,O,δ,d,δ2,S,q,k⟩:=u;obtain⟨x,δ1,y,h1,h2,C⟩:=RP q;refine⟨B,O,δ,x,δ1,S,h1,λR H1 j=>?_⟩;have i:∀p H2 (R2:Res X.K ml B O H1 σ pb tb ib H2 δ2 p y) o,bO X.K (av B O ia) H2 (av B O ia) o d->Q o H2:=λp H2 R2 o L=>k o H2 ⟨R2.sta,j.frm.trans R2.frm,λz=>by obtain⟨h,g⟩:=(Ad _ _).mp z;exact(j.pur h).trans (R2.pur g),L.mono (λ_ z=>z) Xn⟩
 cases x with
 |dct ks ds=>
  cases y with
  |str z=>
   cases C;have I:=j.rep;cases I.onD with
   | @dct l kvs t n r F=>
    subst F;refine⟨l,rfl,.inl ⟨.inl ⟨_,Rd.of t⟩,B,O,δ1,_,δ2,j.sta,h2,λp H2 R2=>?_⟩⟩;have s:=R2.rep;cases s.onS;have G:H2 l=b3 (.dK kvs)/\b9 X.K (av B O ia) H2 (kvs.map Es) ds:=by
     cases pb with
     |true=>exact⟨R2.pur rfl _ _ t,r.same (R2.pur rfl)⟩
     |false=>
      have f:(ta&&ia)=ba:=by simpa using f
      obtain⟨h,g⟩:=(Ad _ _).mp f;subst h g;exact⟨R2.frm _ _ t λw=>absurd (.inr w) n,r.fr R2.frm λa z=>.inr z⟩
    refine⟨_,PM.k (k:=.inr z) G.1,i _ _ R2 _ ?_⟩;rcases QY (k:=.inr z) G.2 with⟨v,d',e,c,E⟩|⟨e,c⟩
    ·rw[e,c];exact E
    ·rw[e,c];exact .non
   | @ktb l D T r F=>
    subst F;refine⟨l,rfl,.inr ⟨D,T,B,O,δ1,_,δ2,j.sta,h2,λp H2 R2=>?_⟩⟩;have s:=R2.rep;cases s.onS;refine⟨z,rfl,i _ _ R2 _ ?_⟩;have r':b9 X.K (av B O ia) H2 (D.map Es) ds:=by
     cases pb with
     |true=>exact r.same (R2.pur rfl)
     |false=>
      have f:(ta&&ia)=ba:=by simpa using f
      obtain⟨h,g⟩:=(Ad _ _).mp f;subst h g;exact r.fr R2.frm λa z=>.inr z
    rcases PR (k:=z) r' with⟨v,d',e,c,E⟩|⟨e,c⟩
    ·rw[e,c];exact E
    ·rw[e,c];exact .non
  |_=>cases C
 |_=>cases C
end
def Yh:Bm "all"=b3 (.builtin "all"):=by decide+kernel
def Zz:Bm "dict"=b3 (.type "dict"):=by decide+kernel
section
variable{X:Cx}{K:Ah}{ml:List Nat}{e a b c:Us}{es:List Us}{pa ta ia pb tb ib pc tc ic pu bt bi ps bs:Bool}{fa fb fc f:VF}{B B':Bs}{O:Nat->Option Ul}{H H0 H1 H':Hp}{σ:St}{δ δ':Ev}{v:V}{d:cU}{p:Ul}{pos:Pos}
def jE{ks:List Bool}{a:List Uk}(r:bQ (ks.map V.bl) a){i:Nat}{u:Uk}(h:a[i]?=b3 u):∃k,ks[i]?=b3 k/\u=.bool k:=by
 have hl:=r.length;rw[Ci]at hl;have hi:i<a.length:=(Ag.mp h).1;have e:(ks.map V.bl)[i]?=b3 (.bl ks[i]):=by simp[hl▸hi]
 obtain⟨w,h1,h2⟩:=r.get e;rw[h]at h1;cases h1;exact⟨ks[i],by simp[hl▸hi],h2⟩
def BQ{ks:List Bool}:(Bf ks.length).all (λi=>(ks[i]?).getD ba)=ks.all id:=by
 induction ks with
 |nil=>rfl
 |cons k ks a=>
  rw[Bx,Mc,Th,Tz,Th,<-a];rfl
def DR(K:Ah)(g:List Bool->Bool):RC:=λxs H Q=>∃p ks,xs=[.ref p]/\X2 K H p (ks.map V.bl)/\Q (.bl (g ks)) H
def jO{prog:Av}{w:Uu}{A:Cc}{ks:List Bool}{b:List Uk}(r:bQ (ks.map V.bl) b):TruthOf prog w A (λi v=>b.toArray[i]?=b3 v) λi=>(ks[i]?).getD ba:=by intro i v s Q E c a;obtain⟨k,h1,rfl⟩:=jE r (by simpa using c);have a:Q ((ks[i]?).getD ba) s:=a;rw[h1]at a;exact Fj a
def AA(hc:X.calm=ba):Z6 X (.builtin "all") (DR X.K λks=>ks.all id):=by
 intro aa s σ H xs j Q I r h;obtain⟨l,ks,rfl,i,q⟩:=h;obtain⟨u,rfl,e⟩:=SQ r;cases e;obtain⟨its,c,f,hz⟩:=I.list i;have hl:=f.isList;have a:l≠s.heap.objs.size:=by obtain⟨o,g,_⟩:=hl;exact Bb (Aq g)
 have d:=c.length;rw[Ci]at d;refine call_all_walk (Gy hl ⟨_,_,_,_,_,_,_,rfl,Walks.list (show X.A.in1.handled=b4 from I.ok.hd hc) s.heap.objs.size l a its.toArray,⟨⟨_,As _ rfl,rfl,rfl⟩,?_⟩,jO c,λh' tk hk=>?_⟩)
 ·obtain⟨o,g,r⟩:=hl
  exact⟨o,Ae _ g,r⟩
 ·rw[Ak,<- d,BQ]
  exact⟨.bl _,H,I.kept (t':=tk) λb o g=>hk b o (by simp;exact Bb (Aq g)) (Ae _ g),rfl,q⟩
def kAll(hc:X.calm=ba)(h:X.K=K:=by rfl):Z6 X (.builtin "all") (DR K λks=>ks.all id):=by subst h;exact AA hc
noncomputable def MF:List cU->Option (List Bool)
 |[]=>b3 []
 |.bl k::ds=>(MF ds).map λks=>k::ks
 |_=>b4
theorem CP{N:Ul->Prop}:∀{xs:List V}{ds:List cU}{ks:List Bool},b9 K N H xs ds->MF ds=b3 ks->xs=ks.map V.bl
 |_,_,_,.nil,h=>by cases h;rfl
 | _,_,_,@b9.cons _ _ _ v vs d ds h t,e => by
  cases d with
  |bl k=>
   cases h;have e:(MF ds).map (λks=>k::ks)=b3 _:=e;cases h2:MF ds with
   |none=>rw[h2]at e;cases e
   |some a=>
    rw[h2]at e;cases e;rw[CP t h2,Ba]
  |_=>cases e
def Vu(g:List Bool->Bool):cU->Option cU
 |.lst ds=>(MF ds).map λks=>.bl (g ks)
 |_=>b4
abbrev BD:=Vu λks=>ks.all id
def Zu{g:List Bool->Bool}:CalS K (DR K g) (Vu g):=by
 intro H N M x d c Q b h k;cases d with
 |lst ds=>
  have h:(MF ds).map (λks=>cU.bl (g ks))=b3 c:=h;obtain⟨ks,h1,h⟩:=Ap.mp h;cases h;obtain⟨a,xs,rfl,sq,r⟩:=b.lstE;have:=CP r h1
  subst this;exact⟨a,ks,rfl,sq,k _ λ_ _ _=>.bl _⟩
 |_=>cases h
def Wx:CalS K (DR K λks=>ks.all id) BD:=Zu
noncomputable def U1:List cU->Option (List Int)
 |[]=>b3 []
 |.int i::ds=>(U1 ds).map λns=>i::ns
 |_=>b4
theorem NA{N:Ul->Prop}:∀{xs:List V}{ds:List cU}{ns:List Int},b9 K N H xs ds->U1 ds=b3 ns->xs=ns.map V.int
 |_,_,_,.nil,h=>by cases h;rfl
 | _,_,_,@b9.cons _ _ _ v vs d ds h t,e => by
  cases d with
  |int k=>
   cases h;have e:(U1 ds).map (λks=>k::ks)=b3 _:=e;cases h2:U1 ds with
   |none=>rw[h2]at e;cases e
   |some a=>
    rw[h2]at e;cases e;rw[NA t h2,Ba]
  |_=>cases e
theorem HN{N:Ul->Prop}:∀ns:List Int,b9 K N H (ns.map V.int) (ns.map cU.int)
 |[]=>.nil
 |i::ns=>.cons (.int i) (HN ns)
def rngI{a:Int}{n:Nat}{acc:Array Uk}(h:ItemsOf (λi v=>∃t,v=.int (a+i*1) t) acc n):bQ ((Bf n).map λi:Nat=>V.int (a+i)) acc.toList:=by
 obtain⟨h1,h2⟩:=h;have go:∀(m:Nat) (b:List Uk),b.length=m->∀k:Nat,(∀(i:Nat) (v:Uk),b[i]?=b3 v->∃t,v=.int (a+((k+i:Nat):Int)*1) t)->bQ ((Bf m).map λi:Nat=>V.int (a+((k+i:Nat):Int))) b:=by
  intro m;induction m with
  |zero=>intro b hl k _;rw[Gk.mp hl];exact .nil
  |succ m d=>
   intro b hl k c;cases b with
   |nil=>cases hl
   |cons u b=>
    rw[Mc,Ba,Ua];obtain⟨t,f⟩:=c 0 u rfl;refine .cons ⟨t,by rw[f];simp⟩ ?_
    have:=d b (by simpa using hl) (k+1) λi v e=>by obtain⟨t,h⟩:=c (i+1) v (by simpa using e);exact⟨t,by rw[h,show k+(i+1)=k+1+i by lia]⟩
    have e:((λi:Nat=>V.int (a+((k+i:Nat):Int)))∘Nat.succ)=λi:Nat=>V.int (a+((k+1+i:Nat):Int)):=by funext i;simp only[Ti,Nat.succ_eq_add_one];rw[show k+(i+1)=k+1+i by lia]
    rw[e];exact this
 have:=go n acc.toList (by simpa using h1) 0 λi v e=>by
  have:=h2 i v (by simpa using e)
  simpa using this
 simpa using this
def GD:Z6 X (.type "range") (λxs H Q=>∃j,xs=[.int j]/\∀p,H p=b4->Q (.ref p) (upd H p (.ext (rngP p 0 j 1)))):=by intro aa s σ H xs us Q I r h;obtain⟨j,rfl,q⟩:=h;obtain⟨u,rfl,t,rfl⟩:=SQ r;refine call_range_1 ?_;have b:=I.hok.fresh (Ar s.heap.objs.size);refine⟨.ref s.heap.objs.size,_,I.laid (a:=s.heap.objs.size) (o:=.ext (rngP s.heap.objs.size 0 j 1)) (t':=s.toks+1+1) (λ_ _ z=>Ae _ z) (Ar _) ?_,rfl,q _ b⟩;exact⟨⟨_,_,_,Uf ..⟩,⟨_,As _ rfl⟩,λh1 h2 ⟨t,u,v,z⟩ k=>⟨t,u,v,k _ z⟩⟩
def MH(hc:X.calm=ba):Z6 X (.type "list") (λxs H Q=>∃(p:Ul) (j:Int),xs=[.ref p]/\H p=b3 (.ext (rngP p 0 j 1))/\(0<=j/\j<=16777216)/\∀l,H l=b4->Q (.ref l) (upd H l (.lst ((Bf j.toNat).map λi:Nat=>V.int (0+i))))):=by
 intro aa s σ H xs y Q I r h;obtain⟨p,j,rfl,m,A,q⟩:=h;obtain⟨u,rfl,g⟩:=SQ r;cases g;obtain⟨⟨t,u,v,z⟩,_⟩:=I.hok p _ m;have n:Ho 0 j 1=(j.toNat:Int):=by
  unfold Ho;rw[if_pos (by decide)];split
  ·rw[Int.ediv_one]
   lia
  ·lia
 have d:(2:Int) ^ 62=4611686018427387904:=by decide
 have e:(2:Nat) ^ 24=16777216:=by decide
 have f:Uh 0 j 1=ba:=small_one (a:=0) (b:=j) (by rw[d];decide) (by rw[d];decide) (by rw[d];lia) (by rw[d];lia);refine call_list_range (I.ok.hd hc) z f n (by rw[e];lia) λh' tk acc c kp w x=>?_;have k:=rngI x;refine⟨.ref s.heap.objs.size,_,I.laid (a:=s.heap.objs.size) (o:=.lst ((Bf j.toNat).map λi:Nat=>V.int (0+i))) (t':=tk) kp (Ar _) ⟨?_,acc.toList,c,k,by simpa using w⟩,rfl,q _ (I.hok.fresh (Ar _))⟩;rw[Ci,Ih,Cf];lia
noncomputable def TJ(f:VF):VF:=λδ=>(f δ).bind λp=>match p.1 with
 |.int j=>if 0<=j/\j<=16777216 then b3 (.lst (ZG 0 j.toNat),p.2)else b4
 |_=>b4
def jP{N:Ul->Prop}(lo:Int)(n:Nat):b9 K N H ((Bf n).map λi:Nat=>V.int (lo+i)) (ZG lo n):=by
 unfold ZG;induction (Bf n)with
 |nil=>exact .nil
 |cons x xs a=>exact .cons (.int _) a
def CG{r p2 f:Pos}(hc:X.calm=ba)(w:Gl X "list")(u:X.mg "list"=b4)(s:Bm "list"=b3 (.type "list"))(m:Gl X "range")(i:X.mg "range"=b4)(g:Bm "range"=b3 (.type "range"))(y:PE X a (TV K ml pa ta ia fa))(n:SE X a []:=by rfl)(b:Um (.Call (.Name "range" p2) [a] [] f::[]) X.env=(bb,eval (.Call (.Name "range" p2) [a] [] f) X.env)::Um [] X.env:=by rfl):PE X (.Call (.Name "list" r) [.Call (.Name "range" p2) [a] [] f] [] pos) (TN K ml pa (TJ fa)):=
 (V5 (MH hc) w u s (bW (V5 GD m i g (bW y Z9 n) (by decide) (by decide) n) Z9 b) (by decide) (by decide) b).imp λσ H Q h => by
  obtain⟨B,O,δ,d,δ',S,q,k⟩:=h;unfold TJ at q;obtain⟨⟨x,δ1⟩,h1,q⟩:=Aa.mp q;cases x with
  |int j=>
   have q:(if 0<=j/\j<=16777216 then b3 (cU.lst (ZG 0 j.toNat),δ1)else b4)=b3 (d,δ'):=q;split at q
   ·rename_i v
    cases q;refine⟨B,O,δ,_,_,S,h1,λA H1 c=>?_⟩;have o:=c.rep;cases o.onI;refine⟨j,rfl,λp t=>⟨p,j,rfl,cA,v,λl hl=>?_⟩⟩;have e:bA H1 (upd H1 p (.ext (rngP p 0 j 1))):=cP t;exact k l _ (mkN (c.sta.same e) (c.frm.trans e.fr) (λz=>(c.pur z).trans e) hl (jP 0 j.toNat))
   ·cases q
  |_=>cases q
end
section
variable{X:Cx}{K:Ah}{ml:List Nat}{e a b c:Us}{es:List Us}{pa ta ia pb tb ib pc tc ic pu bt bi ps bs:Bool}{fa fb fc f:VF}{B B':Bs}{O:Nat->Option Ul}{H H0 H1 H':Hp}{σ:St}{δ δ':Ev}{v:V}{d:cU}{p:Ul}{pos:Pos}
noncomputable def VH(n:Int):List Int->Option Nat
 |[]=>b4
 |i::ns=>if i=n then b3 0 else(VH n ns).map (· +1)
theorem LN{n:Int}:∀{ns:List Int}{j:Nat},VH n ns=b3 j->ns[j]?=b3 n/\∀m,m<j->ns[m]? ≠b3 n
 |[],_,h=>by cases h
 | i :: ns,j,h => by
  unfold VH at h;split at h
  ·rename_i hi
   cases h;exact⟨by rw[hi];rfl,λm a=>absurd a (Mr _)⟩
  ·rename_i hi
   obtain⟨k,h1,h⟩:=Ap.mp h;cases h;obtain⟨h2,b⟩:=LN h1;refine⟨by simpa using h2,λm a=>?_⟩;cases m with
   |zero=>simpa using hi
   |succ m=>simpa using b m (Md a)
def IK{ns:List Int}{a:List Uk}(r:bQ (ns.map V.int) a){m:Nat}{u:Uk}(h:a[m]?=b3 u):∃i t,ns[m]?=b3 i/\u=.int i t:=by
 have hl:=r.length;rw[Ci]at hl;have b:m<a.length:=(Ag.mp h).1;have e:(ns.map V.int)[m]?=b3 (.int ns[m]):=by simp[hl▸b]
 obtain⟨f,c,t,d⟩:=r.get e;rw[h]at c;cases c;exact⟨ns[m],t,by simp[hl▸b],d⟩
noncomputable def NB(n:Int):Uk->Bool
 |.int i _=>i==n
 |_=>bb
def Xy{ns:List Int}{its:List Uk}{n:Int}{j:Nat}(r:bQ (ns.map V.int) its)(h:VH n ns=b3 j):∃e:j<its.toArray.size,NB n its.toArray[j]=ba/\(∀m (a:m<its.toArray.size),m<j->NB n its.toArray[m]=bb):=by
 obtain⟨h1,h2⟩:=LN h;have hl:=r.length;rw[Ci]at hl;have e:j<ns.length:=(Ag.mp h1).1;have at_:∀(m:Nat) (a:m<its.toArray.size),∃i t,ns[m]?=b3 i/\its.toArray[m]=.int i t:=λm a=>by
  have d:m<its.length:=by simpa using a
  exact IK r (u:=its.toArray[m]) (by simp[d])
 refine⟨by simpa[<-hl]using e,?_,λm a c=>?_⟩
 ·obtain ⟨i,t',b,f⟩ := at_ j (by simpa [<- hl]using e)
  rw[h1]at b;cases b;rw[f];simp[NB]
 ·obtain⟨i,t',b,f⟩:=at_ m a
  have:=h2 m c
  rw[b]at this;rw[f];exact beq_eq_false_iff_ne.mpr λz=>this (by rw[z])
def Xi{ns:List Int}{its:List Uk}(r:bQ (ns.map V.int) its){y:Uk}(b:y∈its.toArray):∃i t,y=.int i t:=by
 obtain⟨m,c,rfl⟩:=Array.mem_iff_getElem.mp b;have a:m<its.length:=by simpa using c
 obtain⟨i,t,_,e⟩:=IK r (m:=m) (u:=its.toArray[m]) (by simp[a]);exact⟨i,t,e⟩
def Za(K:Ah):V->List V->Hp->VK->Prop:=λx vs H Q=>∃(l:Ul) (ns:List Int) (n:Int) (j:Nat),x=.ref l/\vs=[.int n]/\X2 K H l (ns.map V.int)/\VH n ns=b3 j/\Q (.int j) H
def A9:MtM X "list.index" (Za X.K):=by
 intro aa s σ H x vs v w Q I f g h;obtain⟨l,ns,n,j,rfl,rfl,m,p,q⟩:=h;cases f;obtain⟨u,rfl,t,rfl⟩:=g.one;obtain⟨its,r,⟨o,c,e,hc,hd,b⟩,hz⟩:=I.list m;obtain⟨cls,dd,data,d⟩:=o;simp only at hc hd b;subst hc hd b;obtain⟨a,h1,h2⟩:=Xy r p;have hl:=r.length;refine Fk Ps ⟨_,e,rfl⟩ Om (Nx _ _) (Oo l its.toArray c b4 d (.int n t) (NB n) j a (by
  have A:its.length<=16777216:=by rw[<-hl,<-Cf];exact hz
  have z:j<its.length:=by simpa using a
  lia) h1 h2) ⟨e,?_,?_⟩
 ·intro y k
  obtain⟨i,t',rfl⟩:=Xi r k;exact SeqAt.EqAt.int_int i t' n t
 ·exact⟨.int j,H,I.tok _,⟨_,rfl⟩,q⟩
def eA(h:X.K=K:=by rfl):MtM X "list.index" (Za K):=by subst h;exact A9
def FC:cU->cU->Option cU
 |.lst ds,.int n=>(U1 ds).bind λns=>(VH n ns).map λj=>.int j
 |_,_=>b4
def kR{ao ae:Pos}(m:X.K=K)(u:PE X a (TV K ml pa ta ia fa))(t:PE X b (TV K ml pb tb ib fb))(C:Gi a "index" X.env (eval a X.env)=eval a X.env:=by rfl)(A:((Fb ae (Um (b::[]) X.env)).all (λx=> !x.1)&&(Lg ae (Hg [] X.env)).all (λx=>x.1.isSome)&&decide ((b::([]:List Us)).length+([]:List Hh).length+(if([]:List Hh).isEmpty then 0 else 1)<30))=ba:=by rfl)(D:(ao.endLine==ae.line)=ba:=by rfl)(i:SE X b []:=by rfl)(E:(Fb ae (Um [] X.env)).any (·.1)=bb:=by rfl)(hl:(pb || (ta&&ia))=ba:=by rfl):PE X (.Call (.Attribute a "index" ao) [b] [] ae) (TV K ml (pa&&pb) ba ba (f2 FC fa fb)):=
 (kBm (K := K) m Gj Lm Ln (eA m) u (bW t Z9 i) C A D i E).imp λσ H Q g => by
  obtain⟨B,O,δ,d,δ2,S,q,k⟩:=g;obtain⟨x,δ1,y,h1,h2,c⟩:=RP q;refine⟨B,O,δ,x,δ1,S,h1,λG H1 e=>?_⟩;cases x with
  |lst ds=>
   cases y with
   |int n=>
    have c:((U1 ds).bind λns=>(VH n ns).map λj=>cU.int j)=b3 d:=c;obtain⟨ns,v,c⟩:=Aa.mp c;have c:(VH n ns).map (λj=>cU.int j)=b3 d:=c;cases h:VH n ns with
    |none=>rw[h]at c;cases c
    |some j=>
     rw[h]at c;cases c;obtain⟨l,xs,rfl,sq,_⟩:=e.rep.lstE;refine⟨.inl ⟨rfl,xs,sq⟩,B,O,δ1,_,δ2,e.sta,h2,λF H2 R2=>?_⟩;have s:=R2.rep;cases s.onI;obtain⟨I,r,w,f,r'⟩:=(R2.live hl e.rep).lstE;cases w;have:=NA r' v
     subst this;exact⟨l,ns,n,j,rfl,rfl,f,h,k _ H2 ⟨R2.sta,e.frm.trans R2.frm,λz=>by obtain⟨p,o⟩:=(Ad _ _).mp z;exact(e.pur p).trans (R2.pur o),.int _⟩⟩
   |_=>cases c
  |_=>cases c
def DT:V->List V->Hp->VK->Prop:=λx vs H Q=>∃(l:Ul) (ns:List Int) (n:Int) (j:Nat),x=.ref l/\vs=[.int n]/\H l=b3 (.lst (ns.map V.int))/\VH n ns=b3 j/\Q .non (upd H l (.lst ((ns.eraseIdx j).map V.int)))
theorem K3{α β:Type}(g:α->β):∀(l:List α) (j:Nat),(l.map g).eraseIdx j=(l.eraseIdx j).map g
 |[],_=>by simp
 |_::_,0=>by simp
 |x::l,j+1=>by simp[K3 g l j]
def BB:MtM X "list.remove" DT:=by
 intro aa s σ H x vs v o Q I f g h;obtain⟨l,ns,n,j,rfl,rfl,d,m,q⟩:=h;cases f;obtain⟨u,rfl,t,rfl⟩:=g.one;obtain⟨z,its,c,r,hl,e⟩:=I.lstM d;obtain⟨a,h1,h2⟩:=Xy r m;refine Fk F.slot_list_remove ⟨_,e,rfl⟩ F.entry_list_remove (F.args_list_remove_2 _ _) (MeetsSeq.list_remove l its.toArray c (.int n t) (NB n) (λy k=>?_) j a h1 h2 (by rw[Ak,<-hl];exact z)) ⟨e,?_⟩
 ·obtain⟨i,t',rfl⟩:=Xi r k
  exact Uc i n t' t
 ·have b : j < its.length := by simpa using a
  refine⟨.non,_,I.lset (its':=its.eraseIdx j) d e (by simp[Kv,b]) (ys:=(ns.eraseIdx j).map V.int) ?_ ?_,rfl,q⟩
  ·have:=bQ.eraseIdx j r
   rwa[K3]at this
  ·rw[Ci]
   have h1:=List.length_eraseIdx_le ns j;rw[Ci]at z;lia
def mRem:List cU->List cU->Option (List cU)
 |ds,[.int n]=>(U1 ds).bind λns=>(VH n ns).map λj=>(ns.eraseIdx j).map cU.int
 |_,_=>b4
def dL:MuV K DT mRem:=by
 intro H N l xs vs ds es a Q hl g b c h k;cases c with
 |nil=>cases h
 | @cons v vs d es hd t=>
  cases t with
  |cons _ _=>cases d<;>cases h
  |nil=>
   cases d with
   |int n=>
    cases hd;have h:((U1 ds).bind λns=>(VH n ns).map λj=>(ns.eraseIdx j).map cU.int)=b3 a:=h;obtain⟨ns,f,h⟩:=Aa.mp h;have h:(VH n ns).map (λj=>(ns.eraseIdx j).map cU.int)=b3 a:=h;obtain⟨j,e,h⟩:=Ap.mp h;cases h;have:=NA b f
    subst this;exact⟨l,ns,n,j,rfl,rfl,hl,e,k _ _ (HN _)⟩
   |_=>cases h
end
section
variable{X:Cx}{K:Ah}{ml:List Nat}{e:Us}{es:List Us}{pu bt bi bs:Bool}{f:VF}{fs:RJ}
def cM(h:PE X e (TV K ml pu bt bi f))(a:(bt&&bi)=ba:=by rfl):PE X e (TV K ml pu ba ba f):=by obtain⟨h1,h2⟩:=(Ad _ _).mp a;subst h1 h2;exact h
def Vn(h:PE X e (TV K ml pu bt bi f))(a:bi=ba:=by rfl):PE X e (TV K ml pu bt ba f):=by subst a;exact h
def cH(h:PA X es (TAV K ml pu bs fs))(a:bs=ba:=by rfl):PA X es (TAV K ml pu ba fs):=by subst a;exact h
def cX{st:Ux}:PS X st (WH K ml λ_=>b4):=λ_ _ _ _ _ _ ⟨_,_,_,_,_,q,_⟩=>nomatch q
variable{a b c:Us}{pa ta ia pb tb ib pc tc ic:Bool}{fa fb fc:VF}{pos:Pos}{δ:Ev}
end
section
variable{X:Cx}{K:Ah}{ml:List Nat}{e a b c:Us}{pa ta ia pb tb ib pu:Bool}{fa fb fc f:VF}{B:Bs}{O:Nat->Option Ul}{H H':Hp}{σ:St}{δ δ':Ev}{v:V}{d:cU}{p:Ul}{pos:Pos}{ks:List (Option Us)}{vs:List Us}
theorem LG:∀{more acc:List (aR×V)},((acc++more).map Dh).Nodup->NI acc more=acc++more
 |[],acc,_=>by simp[NI]
 |(k,v)::more,acc,a=>by
  have hk:∀q∈acc,q.1≠k:=λq b z=>by rw[Ge,Ba]at a;exact(List.nodup_append.mp a).2.2 q.1 (List.mem_map_of_mem b) k (by simp) z
  have c:SW acc k=b4:=by unfold SW;rw[List.find?_eq_none.mpr λq b=>by simpa using hk q b];rfl
  show NI (W9 acc k v) more=_;rw[lF v c,LG (by simpa using a)];simp
end
theorem RO:∀(names:List (Uq×Va)) (n:Nat) (acc:List (Uq×Ul)),Uz n names acc=Uz n names []++acc
 |[],_,_=>rfl
 | (x,k) :: r,n,acc => by
  unfold Uz;split
  ·rw[RO r (n+1) ((x,n)::acc),RO r (n+1) [(x,n)]]
   simp
  ·exact RO r n acc
theorem EV:∀{names:List (Uq×Va)}{n:Nat}{x:Uq}{c:Ul},(x,c)∈Uz n names []->(x,Cm)∈names
 |[],_,_,_,h=>nomatch h
 | (y,k) :: r,n,x,c,h => by
  unfold Uz at h;split at h
  ·rename_i hk
   rw[RO]at h;rcases By.mp h with h|h
   ·exact An _ (EV h)
   ·cases At.mp h
    rw[show k=Cm from beq_iff_eq.mp hk];exact Au
  ·exact An _ (EV h)
theorem EU:∀{names:List (Uq×Va)}{n:Nat}{x:Uq},(x,Cm)∈names->∃c,(x,c)∈Uz n names []
 | (y,k) :: r,n,x,h => by
  unfold Uz;rcases Am.mp h with e|h
  ·cases e
   rw[if_pos (by decide),RO];exact⟨n,Br _ (At.mpr rfl)⟩
  ·split
   ·rw[RO]
    obtain⟨c,hc⟩:=EU (n:=n+1) h;exact⟨c,Bq _ hc⟩
   ·exact EU h
theorem NH:∀{l:List (Uq×Ul)}{x:Uq}{c:Ul},(x,c)∈l->∃b,l.lookup x=b3 b
 | (y,d) :: r,x,c,h => by
  rw[Co];cases a:x==y with
  |true=>exact⟨d,rfl⟩
  |false=>
   rcases Am.mp h with e|h
   ·cases e
    simp at a
   ·exact NH h
theorem YK:∀{l m:List (Uq×Ul)}{x:Uq}{c:Ul},(l++m).lookup x=b3 c->l.lookup x=b3 c∨(l.lookup x=b4/\m.lookup x=b3 c)
 |[],_,_,_,h=>.inr ⟨rfl,h⟩
 |(y,d)::r,m,x,c,h=>by
  rw[Iz,Co]at h;rw[Co];cases a:x==y with
  |true=>rw[a]at h;exact .inl h
  |false=>rw[a]at h;exact YK h
theorem RM:∀{l m:List (Uq×Ul)}{x:Uq},l.lookup x=b4->(l++m).lookup x=m.lookup x
 |[],_,_,_=>rfl
 |(y,d)::r,m,x,h=>by
  rw[Co]at h;rw[Iz,Co];cases a:x==y with
  |true=>rw[a]at h;cases h
  |false=>rw[a]at h;exact RM h
def G6{M:Ve}{A:Cc}{E:Uk->Af->Prop}{s:Af}{scope:Vb}{globals:Ul}{c:List (Uq×Ul)}{qual:Uq}{outer:Env}{Q:Env->Af->Prop}(d:Q (newEnv scope s.heap.objs.size globals (Uz (s.heap.objs.size+1) scope.names c) qual b4 .none (b3 outer) builtinsNs) {s with heap:=Rt (s.heap.push {cls:=.type "dict",data:=.dict #[]}) scope.names}):Uo M A (Nk scope globals c [] qual b4 .none (b3 outer)) Q E s:=by simp only[Nk,Oj,if_true];refine Ac (wpAny_alloc ?_);refine Ac (wpAny_layCells _ (λname kind b=>by cases a:kind==Cm<;>simp[a]) _ _ _ _ ?_);rw[show({s with heap:=s.heap.push {cls:=.type "dict",data:=.dict #[]}}:Af).heap.objs.size=s.heap.objs.size+1 from Ei ..];rw[Nj];exact Ac (Aj (Aj d))
theorem UF:∀{l m:List (Uq×Ul)}{x:Uq}{c:Ul},l.lookup x=b3 c->(l++m).lookup x=b3 c
 |(y,d)::r,m,x,c,h=>by
  rw[Co]at h;rw[Iz,Co];cases a:x==y with
  |true=>rw[a]at h;exact h
  |false=>rw[a]at h;exact UF h
structure N9(X:Cx)(N':List Uq)(ix:List Nat)(scope:Vb):Prop where
 kind:scope.kind=.function
 cel:∀y∈scope.names,y.2=.cell->scope.names.lookup y.1=b3 .cell
 names:∀y∈scope.names,y.2=.local->scope.names.lookup y.1=b3 .local
 free:∀y∈scope.names,y.2=.free->X.env.kindOf y.1=b3 .cell∨X.env.kindOf y.1=b3 .free
 nd:N'.Nodup
 cap:∀j,j<ix.length->N'[j]?=(ix[j]?).bind λi=>X.N[i]?
 capf:∀x∈N'.take ix.length,scope.names.lookup x=b3 .free
noncomputable def ZN(X:Cx)(N':List Uq)(scope:Vb)(cl:List (Uq×Ul))(s1:Af)(H1:Hp)(fp:List Ul):Cx:=
 {X with N:=N',s₀:=s1,H₀:=H1,env:=compEnvC scope cl s1.heap.objs.size X.env,outer:=X.stack,stack:=X.stack,ex:=fp,fn:=λx=>scope.names.lookup x==b3 Cm,pn:=[],xe:=λ_ _=>False}
theorem VJ{env:Env}{x:Uq}:∀{l:List (Uq×Va)},((l.map λ(n,k)=>if(k==Bu&&env.scope.kind== .function&&env.kindOf n==b3 .cell)then(n,Cm)else(n,k)).lookup x=b3 .cell∨(l.map λ(n,k)=>if(k==Bu&&env.scope.kind== .function&&env.kindOf n==b3 .cell)then(n,Cm)else(n,k)).lookup x=b3 .free)->(x,Bu)∈l∨(x,Cm)∈l
 |[],h=>by rcases h with z|z<;>cases z
 | (n,k) :: r,h => by
  have h:Nt x ((if(k==Bu&&env.scope.kind== .function&&env.kindOf n==b3 .cell)=ba then(n,Cm)else(n,k))::r.map λ(n,k)=>if(k==Bu&&env.scope.kind== .function&&env.kindOf n==b3 .cell)then(n,Cm)else(n,k))=b3 .cell∨
   Nt x ((if(k==Bu&&env.scope.kind== .function&&env.kindOf n==b3 .cell)=ba then(n,Cm)else(n,k))::r.map λ(n,k)=>if(k==Bu&&env.scope.kind== .function&&env.kindOf n==b3 .cell)then(n,Cm)else(n,k))=b3 .free:=h
  by_cases hc:(k==Bu&&env.scope.kind== .function&&env.kindOf n==b3 .cell)=ba
  ·rw[if_pos hc]at h
   by_cases a:x=n
   ·subst a
    have hk:k=.free:=by simp only[Ad]at hc;exact beq_iff_eq.mp hc.1.1
    subst hk;exact .inl Au
   ·have b:(x==n)=bb:=beq_eq_false_iff_ne.mpr a
    simp only[Co,b]at h;rcases VJ (env:=env) h with z|z
    ·exact .inl (An _ z)
    ·exact .inr (An _ z)
  ·rw[if_neg hc]at h
   by_cases a:x=n
   ·subst a
    rw[Ed]at h;rcases h with z|z
    ·cases z;exact .inr Au
    ·cases z;exact .inl Au
   ·have b:(x==n)=bb:=beq_eq_false_iff_ne.mpr a
    simp only[Co,b]at h;rcases VJ (env:=env) h with z|z
    ·exact .inl (An _ z)
    ·exact .inr (An _ z)
def MX{X:Cx}{aa:List (Ul×Uw)}{σ:St}{H2:Hp}{a:Af}{E:Uk->Af->Prop}{tg iter elt:Us}{ifs:List Us}{scope:Vb}{pos:Pos}{N':List Uq}{ix:List Nat}{nl:Nat}{g:TG}{tt:TT}{te:TE}{cl:List (Uq×Ul)}{J:It}{fp:List Ul}{it:Ul}{tn:Nat->Uv->Prop}{Q:V->Hp->Prop}{RR:Uk->Ul->Result->Af->Prop}(hc:X.calm=ba)(S:N9 X N' ix scope)(hnl:N'.length=ix.length+nl)(g9:∀x c,cl.lookup x=b3 c->X.env.cells.lookup x=b3 c)(ma:∀x,(x,Bu)∈scope.names->∃c,cl.lookup x=b3 c)(blk:∀(cl:List (Uq×Ul)) (s1:Af) (H1:Hp) (fp:List Ul),Blk (ZN X N' scope cl s1 H1 fp) tg ifs elt g tt te)(I2:cF X aa σ H2 a)(T:EN X.prog X.w X.K tg J fp it tn)(st2:tn 0 a.heap)(f2:∀b∈fp,MD X aa H2 b)(h:∀D,H2 D=b4->Vz D ix nl J g tt te σ H2 λH'=>Q (.ref D) H')(fin:∀(D C:Ul) (s':Af) (H':Hp),cF X aa σ H' s'->(∃m,s'.heap.Ns C m)->C≠X.env.locals->(∀x c,X.env.cells.lookup x=b3 c->c≠C)->(∀(s:St) (R:Af) (h'':Uv),cF X aa s H' R->Fq C R.heap h''->cF X aa s H' {R with heap:=h''})->Q (.ref D) H'->RR (.ref D) C (.ok .next) s'):Uo (Ur X.prog X.w) X.A (newList []) (λacc B=>Uo (Ur X.prog X.w) X.A (Nk scope X.env.globals cl [] X.env.qual b4 .none (b3 X.env)) (λmi s₄=>Jq (Ur X.prog X.w) X.A (.compStart (.ListComp elt [⟨tg,iter,ifs,0⟩] scope pos) 0 (.ref it) acc {mi with scope:=relabel scope X.env}) (RR acc mi.locals) s₄) E B) E a:=by
 refine Dq (G6 ?_);dsimp only;have k:cF X aa σ (upd H2 a.heap.objs.size (.lst [])) {a with heap:=a.heap.push {cls:=.type "list",dict:=b4,data:=.seq ([]:List Uk).toArray}}:=
  I2.lnew (t':=a.toks) (ys:=[]) (its:=[]) .nil (Er _)
 have hDn:H2 a.heap.objs.size=b4:=I2.hok.fresh (Ar _);obtain⟨W,⟨m0,w0⟩,turn⟩:=h _ hDn;generalize hs1:({a with heap:=a.heap.push {cls:=.type "list",dict:=b4,data:=.seq ([]:List Uk).toArray}}:Af)=s1 at k;have h9:a.heap.push {cls:=.type "list",dict:=b4,data:=.seq ([]:List Uk).toArray}=s1.heap:=by rw[<-hs1]
 rw[h9];have I:∀b o,s1.heap.get? b=b3 o->(Rt (s1.heap.push {cls:=.type "dict",data:=.dict #[]}) scope.names).get? b=b3 o:=λb o e=>pushCells_keeps _ _ _ _ (Ae _ e);have H:(Rt (s1.heap.push {cls:=.type "dict",data:=.dict #[]}) scope.names).Ns s1.heap.objs.size (λ_=>b4):=(Heap.Ns.new s1.heap (.type "dict")).keeps λb o e=>pushCells_keeps _ _ _ _ e;have M:=cellsFrom_ok scope.names (s1.heap.push {cls:=.type "dict",data:=.dict #[]}) (s1.heap.objs.size+1) [] ⟨λ_ _ hm=>(nomatch hm),Pn⟩ (by rw[Ei];exact Ar _);rw[Ei]at M;generalize hz1:Rt (s1.heap.push {cls:=.type "dict",data:=.dict #[]}) scope.names=F at I H M;rw[RO];generalize hnc:Uz (s1.heap.objs.size+1) scope.names []=t at M;have G:∀x c,t.lookup x=b3 c->(x,Cm)∈scope.names/\F.IsCell c b4/\s1.heap.objs.size+1<=c:=λx c e=>by have hm:=Cv e;exact⟨EV (n:=s1.heap.objs.size+1) (by rw[hnc];exact hm),M.empty x c hm⟩
 have nch:∀x,(x,Cm)∈scope.names->∃c,t.lookup x=b3 c:=λx h=>by obtain⟨c,hc⟩:=EU (n:=s1.heap.objs.size+1) h;rw[hnc]at hc;exact NH hc
 have ji:∀b∈fp,b<a.heap.objs.size:=λb f=>by obtain⟨o,e,_⟩:=T.obj _ _ st2 b f;exact Aq e
 have lv:s1.heap.objs.size=a.heap.objs.size+1:=by rw[<-h9,Ei]
 have mq:∀b o,a.heap.get? b=b3 o->s1.heap.get? b=b3 o:=λb o e=>by rw[<-h9];exact Ae _ e
 have i5:∀x c,cl.lookup x=b3 c->c<s1.heap.objs.size:=λx c e=>by obtain⟨v,q⟩:=k.cell x c (g9 x c e);exact q.lt
 have pq:∀b∈SN X.stack,b<s1.heap.objs.size:=λb f=>by obtain⟨_,o,ho,_⟩:=(k.stack).mem f;exact Aq ho
 have U:(ZN X N' scope (t++cl) s1 (upd H2 a.heap.objs.size (.lst [])) fp).Ok:=by
  refine⟨k.ok.mod,S.kind,k.ok.glob,k.ok.blt,Ar _,λx y c e1 P=>?_,λx hx=>?_,λx c hf e=>?_,k.ok.hd,k.ok.frames,.inl rfl,λb f=>⟨?_,λx c e=>?_⟩,λb o e=>?_,Fp k.ok.bsz k.sz,λb o e f=>?_,λb f hb2=>?_,k.stack,k.stkFree⟩
  ·rcases YK e1 with n1|⟨_,o1⟩
   ·rcases YK P with n2|⟨_,o2⟩
    ·exact PySem.name_of_addr M.apart (Cv n1) (Cv n2)
    ·exact absurd (Az (i5 y c o2) (Il (G x c n1).2.2)) (Ck _)
   ·rcases YK P with n2|⟨_,o2⟩
    ·exact absurd (Az (i5 x c o1) (Il (G y c n2).2.2)) (Ck _)
    ·exact k.ok.inj x y c (g9 x c o1) (g9 y c o2)
  ·cases q:t.lookup x with
   |some c=>exact⟨c,UF q⟩
   |none=>
    rcases VJ hx with h|h
    ·obtain⟨c,hc⟩:=ma x h
     exact⟨c,(RM q).trans hc⟩
    ·obtain⟨c,hc⟩:=nch x h
     rw[q]at hc;cases hc
  ·have hx:(x,Cm)∈scope.names:=Cv (beq_iff_eq.mp hf)
   obtain⟨c',O⟩:=nch x hx;have:=UF (m:=cl) O
   have e:(t++cl).lookup x=b3 c:=e;rw[this]at e;cases e;exact Il (G x c O).2.2
  ·exact Bb (Az (ji b f) (by show a.heap.objs.size<=s1.heap.objs.size;rw[lv];exact Ij _))
  ·rcases YK e with n1|⟨_,o1⟩
   ·have h1:=ji b f
    have h2:=(G x c n1).2.2;rw[lv]at h2;exact λz=>absurd (z▸h2) (Nat.not_le_of_lt (Az h1 (Fp (Ij _) (Ij _))))
   ·exact(f2 b f).2.2.2.2.1 x c (g9 x c o1)
  ·exact k.bs b o e
  ·have:=(f2 b f)
   obtain⟨o',e',_⟩:=T.obj _ _ st2 b f;have hlt:=Az (Aq e) k.ok.bsz;rcases this.2.2.2.1 with z|z
   ·exact k.ok.noex b o e z
   ·exact absurd (Az hlt z) (Ck _)
  ·rcases Am.mp (k.stkSub b hb2)with z|z
   ·exact(f2 b f).2.1 z
   ·exact(f2 b f).2.2.1 z
 have j7:(YF ix σ++Aw nl b4).length=N'.length:=by rw[Bw,Mj,hnl];simp[YF]
 have IY:cF (ZN X N' scope (t++cl) s1 (upd H2 a.heap.objs.size (.lst [])) fp) [] (YF ix σ++Aw nl b4) (upd H2 a.heap.objs.size (.lst [])) {a with heap:=F}:=by
  refine⟨U,?_,I2.bare,Un.kept I,⟨_,H,λj x v e1 P e3=>?_⟩,λx c e=>?_,k.hok.fresh (Ar _),λx c e=>?_,λp hp=>absurd (show p∈([]:List (Ul×Uw)) from hp) (by simp),k.hok.kept I,j7⟩
  ·show a.os=s1.os
   rw[<-hs1]
  ·have Y:j<ix.length:=by
    by_cases Y:j<ix.length
    ·exact Y
    ·exfalso
     have hl:(YF ix σ).length=ix.length:=by simp[YF]
     rw[Bo (by rw[hl];lia),Dr]at P;split at P<;>cases P
   have hl:(YF ix σ).length=ix.length:=by simp[YF]
   rw[Ao (by rw[hl];exact Y)]at P;have hci:=S.cap j Y;obtain⟨i,hi⟩:∃i,ix[j]?=b3 i:=⟨ix[j],by simp[Y]⟩;rw[hi]at hci;have hNi:X.N[i]?=b3 x:=by
    have:N'[j]?=X.N[i]? :=hci
    rw[<-this];exact e1
   have hσ:σ[i]?=b3 (b3 v):=by
    unfold YF at P;rw[Ds,hi]at P;have Z:(σ[i]?).join=b3 v:=by simpa using P
    cases q:σ[i]? with
    |none=>rw[q]at Z;cases Z
    |some o=>rw[q]at Z;rw[show o=b3 v from Z]
   have hfl:scope.names.lookup x=b3 .free:=S.capf x (by rw[Mq];exact⟨j,by rw[Df Y];exact e1⟩)
   have bu:(x,Bu)∈scope.names:=Cv hfl;have hpk:X.env.kindOf x=b3 .cell∨X.env.kindOf x=b3 .free:=by exact S.free (x,.free) bu rfl
   have o7:Vis X.env.scope x:=by
    rcases hpk with z|z
    ·exact .inr (.inl z)
    ·exact .inr (.inr z)
   obtain⟨m,hn,ou⟩:=k.loc;obtain⟨u,ru,l⟩:=ou i x v hNi hσ o7;refine⟨u,ru,?_⟩;rcases l with⟨hk,_⟩|⟨hk,c,ec,z⟩
   ·rcases hpk with q|q<;>rw[hk]at q<;>cases q
   ·obtain⟨c',O⟩:=ma x bu
    have:c'=c:=by
     have:=g9 x c' O
     rw[ec]at this;exact(Bp this).symm
    subst this;have om:t.lookup x=b4:=by
     cases q:t.lookup x with
     |none=>rfl
     |some d=>
      have:=S.cel (x,.cell) (G x d q).1 rfl
      rw[hfl]at this;cases this
    refine .inr ⟨Q7 hfl,c',(RM om).trans O,?_⟩
    ·obtain⟨o,ho,hd⟩:=z
     exact⟨o,I _ _ ho,hd⟩
  ·rcases YK e with n1|⟨_,o1⟩
   ·exact⟨b4,(G x c n1).2.1⟩
   ·obtain⟨v,o,ho,hd⟩:=k.cell x c (g9 x c o1)
    exact⟨v,o,I _ _ ho,hd⟩
  ·rcases YK e with n1|⟨_,o1⟩
   ·exact k.hok.fresh (Il (G x c n1).2.2)
   ·exact k.freeC x c (g9 x c o1)
 have back:∀{pY:List (Ul×Uw)}{s:St}{H':Hp}{s':Af},cF (ZN X N' scope (t++cl) s1 (upd H2 a.heap.objs.size (.lst [])) fp) pY s H' s'->cF X aa σ H' s':=λ{pY s H' s'} J'=>
  k.call' J'.os J'.base J'.hok J'.bare λb f=>⟨(f2 b f).2.2.2.1,(f2 b f).2.1,(f2 b f).2.2.2.2.1,(f2 b f).2.2.2.2.2⟩
 have stat:∀{H':Hp}{pY:List (Ul×Uw)},(∀b∈fp,H' b=b4)->pY=[]->∀b∈fp,MD (ZN X N' scope (t++cl) s1 (upd H2 a.heap.objs.size (.lst [])) fp) pY H' b:=λ{H' pY} hn hp b f=>by subst hp;refine⟨hn b f,(U.exf b f).1,U.exfs b f,.inl f,(U.exf b f).2,λp hp=>absurd (show p∈([]:List (Ul×Uw)) from hp) (by simp)⟩
 have st1:tn 0 F:=T.keep 0 a.heap F st2 λb f o e=>I b o (mq b o e);have fr1:∀b∈fp,(upd H2 a.heap.objs.size (.lst [])) b=b4:=λb f=>by rw[bZ (Bb (ji b f))];exact(f2 b f).1
 have loop:∀B:Af,B={a with heap:=F}->
   Jq (Ur X.prog X.w) X.A (.compLoop (.ListComp elt [⟨tg,iter,ifs,0⟩] scope pos) 0 (.ref it) (.ref a.heap.objs.size) (compEnvC scope (t++cl) s1.heap.objs.size X.env)) (RR (.ref a.heap.objs.size) s1.heap.objs.size) B:=by
  rintro B rfl;refine AH (λn s'=>∃i s H' acc,cF (ZN X N' scope (t++cl) s1 (upd H2 a.heap.objs.size (.lst [])) fp) [] s H' s'/\s.take ix.length=YF ix σ/\tn i s'.heap/\(∀b∈fp,H' b=b4)/\W i n acc H') ?_ m0
   ⟨0,_,_,[],IY,by rw[Dx (by simp[YF])];exact Cn (by simp[YF]),st1,fr1,w0⟩
  rintro n s' ⟨i,s,H',acc,J',hσ,st',fr',w'⟩;have Jc:cF (ZN X N' scope (t++cl) s1 (upd H2 a.heap.objs.size (.lst [])) fp) [] (YF ix σ++Aw nl b4) H' s':=by
   refine J'.weak (by rw[j7];exact J'.len.symm) λj v e=>?_;have hl:(YF ix σ).length=ix.length:=by simp[YF]
   by_cases Y:j<ix.length
   ·rw [Ao (by rw [hl];exact Y),<- hσ,Df Y]at e
    exact e
   ·rw [Bo (by rw [hl];lia),Dr]at e
    split at e<;>cases e
  rcases turn i n acc H' w' with⟨stop,q⟩|⟨go,N,hN,step⟩
  ·refine Ce (T.done (ZN X N' scope (t ++ cl) s1 (upd H2 a.heap.objs.size (.lst [])) fp) rfl rfl rfl hc i [] s' _ H' (λ_ _ => False) Jc (stat fr' rfl) st' stop) (λr s4 ⟨hr,I4⟩ => ?_) λ_ _ z => z
   subst hr;have IX:=back I4;obtain⟨m,hm,_⟩:=I4.loc;exact fin _ _ s4 H' IX ⟨m,hm⟩ (Hi k.lt) (λx c e z=>by
    obtain⟨v,q⟩:=k.cell x c e;have:=q.lt
    rw[z]at this;exact Ck _ this) (λσ'' R h'' I'' sb=>cF.offNew k I'' I4.free λb o f e=>(sb.2 b f).trans e) q
  ·refine Ce (T.item (ZN X N' scope (t ++ cl) s1 (upd H2 a.heap.objs.size (.lst [])) fp) rfl rfl rfl hc i [] s' _ H' (λ_ _ => False) Jc (stat fr' rfl) st' go) (λr s4 ⟨u,hr,h4⟩ => ?_) λ_ _ z => z
   subst hr;refine Ce h4 (λ_ s5 ⟨x,H5,I5,r5,y5,st5,fr5⟩=>?_) λ_ _ z=>z;have I5':=I5.pinned (stat fr5 rfl) (T.obj _ _ st5);obtain⟨btg,bts,bel⟩:=blk (t++cl) s1 (upd H2 a.heap.objs.size (.lst [])) fp;refine Ce (btg _ s5 _ H5 x u _ I5' r5 (step x H5 y5)) (λ_ s6 ⟨L,H6,I6,hσ6,q6⟩=>?_) λ_ _ z=>z;have X7:∀{H7:Hp}{s7:Af}{cf:List V},cF (ZN X N' scope (t++cl) s1 (upd H2 a.heap.objs.size (.lst [])) fp) ([]++NP fp s5.heap) L H7 s7->N cf H7->
     ∃m,m<n/\∃i s H' acc,cF (ZN X N' scope (t++cl) s1 (upd H2 a.heap.objs.size (.lst [])) fp) [] s H' s7/\s.take ix.length=YF ix σ/\tn i s7.heap/\(∀b∈fp,H' b=b4)/\W i m acc H':=λ{H7 s7 cf} I7 n7=>by
    obtain⟨m',hm,w7⟩:=hN cf H7 n7;refine⟨m',hm,i+1,L,H7,cf,I7.unpinned,hσ6,T.keep _ _ _ st5 λb f o e=>(I7.pin (b,o) (Br _ (Br _ (VC f e)))).1,λb f=>?_,w7⟩;obtain⟨o,e,d⟩:=T.obj _ _ st5 b f;exact(I7.pin (b,o) (Br _ (Br _ (VC f e)))).2.1
   refine Ce (bts _ s6 L H6 _ I6 q6) (λokb s7 ⟨H7,I7,q7⟩=>?_) λ_ _ z=>z;cases okb with
   |false=>exact X7 I7 q7
   |true=>
    refine Ce (bel _ s7 L H7 _ I7 q7) (λv s8 ⟨y,H8,I8,r8,hD8,hz8,n8⟩=>?_) λ_ _ z=>z;refine Ce (aI (X:=ZN X N' scope (t++cl) s1 (upd H2 a.heap.objs.size (.lst [])) fp) _ s8 L H8 (.ref a.heap.objs.size) [y] (.ref a.heap.objs.size) [v] (λ_ H9=>N (acc++[y]) H9) I8 rfl (.cons r8 .nil)
     ⟨a.heap.objs.size,acc,y,rfl,rfl,hD8,hz8,n8⟩) (λ_ s9 ⟨_,H9,I9,_,n9⟩=>X7 I9 n9) λ_ _ z=>z
 have he:({newEnv scope s1.heap.objs.size X.env.globals (t++cl) X.env.qual b4 .none (b3 X.env) builtinsNs with scope:=relabel scope X.env}:Env)=compEnvC scope (t++cl) s1.heap.objs.size X.env:=rfl;exact codeAny_compStart_list (loop _ rfl) (T.self _ 0 _ _ _ st1 (loop _ rfl))
def jC{X:Cx}{tg iter d:Us}{a:List Us}{scope:Vb}{pos:Pos}{N':List Uq}{ix:List Nat}{nl:Nat}{l:TI}{g:TG}{n:TT}{te:TE}(hc:X.calm=ba)(S:N9 X N' ix scope)(i:N'.length=ix.length+nl)(hi:PI X tg iter l)(k:∀(cl:List (Uq×Ul)) (s1:Af) (H1:Hp) (fp:List Ul),Blk (ZN X N' scope cl s1 H1 fp) tg a d g n te)(v:∀x,Uy iter X.env x=pure x:=by intro _;rfl):PE X (.ListComp d [⟨tg,iter,a,0⟩] scope pos) (IE ix nl l g n te):=by intro aa s σ H Q I h;rw[eval_ListComp];obtain⟨cl,M,L,K⟩:=CT (env:=X.env) (scope:=scope) λy u B=>I.ok.has y.1 (S.free y u B);refine Kw (use:=b4) (cl:=cl) rfl v M S.kind S.names (Ce (hi aa s σ H _ I h) (λP p c=>Ce c (λt o b=>?_) λ_ _ e=>e) λ_ _ e=>e);obtain⟨it,fp,R,J,H2,e,N,T,f,f2,q⟩:=b;subst e;refine MX (Q:=Q) (RR:=λacc C=>compPost (Ur X.prog X.w) X.A X.xe b4 (EP X aa σ Q) acc C) hc S i L K k N T f f2 q ?_;intro D C s' H' O j G F E z;obtain⟨m,j⟩:=j;exact⟨m,j,λh'' r=>⟨.ref D,H',E σ s' h'' O r,rfl,z⟩⟩
section
variable{X:Cx}{K:Ah}{ml:List Nat}{pi pt pe pu:Bool}{pos:Pos}{ix:List Nat}{nl:Nat}{f:VF}
noncomputable def MW(N N':List Uq)(ix:List Nat)(names:List (Uq×Va))(k:Uq->Option Va):Bool:=
 names.all (λy=>y.2 != .cell || names.lookup y.1==b3 .cell)&&(names.all (λy=>y.2 != .local || names.lookup y.1==b3 .local)&&(names.all (λy=>y.2 != .free || (k y.1==b3 .cell || k y.1==b3 .free)) &&
  (decide N'.Nodup&&((Bf ix.length).all (λj=>N'[j]? ==(ix[j]?).bind λi=>N[i]?)&&(N'.take ix.length).all λx=>names.lookup x==b3 .free))))
def WZ{N':List Uq}{scope:Vb}(hk:scope.kind=.function)(h:MW X.N N' ix scope.names X.env.kindOf=ba):N9 X N' ix scope:=by unfold MW at h;simp only[Ad,Dn,Hu,bne_iff_ne,beq_iff_eq,decide_eq_true_eq,Db]at h;obtain⟨h1,h2,f,d,c,b⟩:=h;exact⟨hk,λy a e=>(h1 y a).resolve_left λz=>z e,λy a e=>(h2 y a).resolve_left λz=>z e,λy a e=>(f y a).resolve_left λz=>z e,d,c,b⟩
abbrev BlkC(X:Cx)(K:Ah)(N':List Uq)(ix:List Nat)(scope:Vb)(tg:Us)(a:List Us)(b:Us)(gg:VG)(pt:Bool)(tb:VB)(pe:Bool)(fe:VF):Prop:=N'.Nodup->∀(cl:List (Uq×Ul)) (s1:Af) (H1:Hp) (fp:List Ul),Blk (ZN X N' scope cl s1 H1 fp) tg a b (TGV K (Bf ix.length) gg) (TB K (Bf ix.length) pt tb) (TV K (Bf ix.length) pe ba ba fe)
def YY{tg iter c:Us}{a:List Us}{scope:Vb}{fi:VI}{gg:VG}{tb:VB}{fe:VF}(N':List Uq)(ix:List Nat)(nl:Nat)(hi:PI X tg iter (TIV K ml pi fi))(e:BlkC X K N' ix scope tg a c gg pt tb pe fe)(hc:X.calm=ba:=by rfl)(hk:scope.kind=.function:=by rfl)(b:MW X.N N' ix scope.names X.env.kindOf=ba:=by rfl)(d:N'.length=ix.length+nl:=by rfl)(hnd:ix.Nodup:=by decide)(f:∀x,Uy iter X.env x=pure x:=by intro _;rfl):PE X (.ListComp c [⟨tg,iter,a,0⟩] scope pos) (TN K ml (pi&&pt&&pe) (ZP ix nl fi gg tb fe)):=
 (jC hc (WZ hk b) d hi (e (WZ hk b).nd) f).imp λ_ _ _ h=>EF hnd h
def HJ{i:Nat}{y:Uq}{d U:Pos}{tg iter c:Us}{b:List Us}{scope:Vb}{N':List Uq}{M:TI}{g:TG}{O:TT}{te:TE}(hN:X.N.Nodup)(B:X.N[i]?=b3 y)(k:X.env.scope.names.lookup y=b3 .local)(hc:X.calm=ba)(S:N9 X N' ix scope)(t:N'.length=ix.length+nl)(hi:PI X tg iter M)(K:∀(cl:List (Uq×Ul)) (s1:Af) (H1:Hp) (fp:List Ul),Blk (ZN X N' scope cl s1 H1 fp) tg b c g O te)(o:Hm (.ListComp c [⟨tg,iter,b,0⟩] scope pos) (b3 (.Name y d)) U.line X.env=pure ba:=by rfl)(Z:∀x,Uy iter X.env x=pure x:=by intro _;rfl):PS X (.Assign [.Name y d] (.ListComp c [⟨tg,iter,b,0⟩] scope pos) U) (tAsg (IE ix nl M g O te) (CY i)):=by
 intro aa s σ H D I h;rw[exec_Assign_Name_used _ _ _ _ o];refine Ac (Gh (Ac ?_));show Uo _ X.A (do let _<-comprehension (.ListComp c [⟨tg,iter,b,0⟩] scope pos) scope X.env _ (newList []) bb (eval iter X.env) (b3 (assign (.Name y d) X.env))) _ _ s;obtain⟨cl,e1,e2,e3⟩:=CT (env:=X.env) (scope:=scope) λy k hf=>I.ok.has y.1 (S.free y k hf);refine Ac (Ce (Kw (use:=b3 (assign (.Name y d) X.env)) (cl:=cl) (Q:=λ_ s'=>SP X aa D .next s') rfl Z e1 S.kind S.names
  (Ce (hi aa s σ H _ I h) (λxv R j=>Ce j (λY P f=>?_) λ_ _ e=>e) λ_ _ e=>e)) (λ_ s' r=>Aj (Aj r)) λ_ _ e=>e)
 obtain⟨it,fp,tn,J,H2,e,I2,T,l,f2,q⟩:=f;subst e;refine MX (Q:=λv H'=>D.nx (σ.set i (b3 v)) H') (RR:=λacc C=>compPost (Ur X.prog X.w) X.A X.xe (b3 (assign (.Name y d) X.env)) (λ_ s'=>SP X aa D .next s') acc C) hc S t e2 e3 K I2 T l f2 q ?_;intro V C s' H' I' u G F hb r;obtain⟨m,u⟩:=u;show Uo _ X.A (assign (.Name y d) X.env (.ref V)) _ _ _;refine Hz (LW I' hN B (.inl k) (v:=.ref V) rfl (λn L ⟨a,p,ha⟩=>?_) (.inr k));have E:C≠a:=by
  rcases ha with z|z
  ·rw[z];exact G
  ·exact Di (F y a z)
 exact⟨m,u.sameBut p E,λh'' W=>⟨_,H',hb _ n h'' L W,r⟩⟩
def lI{i:Nat}{y:Uq}{j k:Pos}{tg iter b:Us}{a:List Us}{scope:Vb}{fi:VI}{gg:VG}{tb:VB}{fe:VF}(o:Bool)(p:X.N.Nodup)(N':List Uq)(ix:List Nat)(nl:Nat)(hi:PI X tg iter (TIV K ml pi fi))(g:BlkC X K N' ix scope tg a b gg pt tb pe fe)(f:X.N[i]?=b3 y:=by rfl)(l:X.env.scope.names.lookup y=b3 .local:=by rfl)(hc:X.calm=ba:=by rfl)(hk:scope.kind=.function:=by rfl)(c:MW X.N N' ix scope.names X.env.kindOf=ba:=by rfl)(e:N'.length=ix.length+nl:=by rfl)(hnd:ix.Nodup:=by decide)(n:i∉ml:=by decide)(d:Hm (.ListComp b [⟨tg,iter,a,0⟩] scope pos) (b3 (.Name y j)) k.line X.env=pure ba:=by rfl)(m:∀x,Uy iter X.env x=pure x:=by intro _;rfl):PS X (.Assign [.Name y j] (.ListComp b [⟨tg,iter,a,0⟩] scope pos) k) (WH K ml (aV i (if o then xO (ZP ix nl fi gg tb fe)else xV (ZP ix nl fi gg tb fe)))):=
 (HJ p f l hc (WZ hk c) e hi (g (WZ hk c).nd) d m).imp λD σ H h=>Xp (λσ H Q z=>EF hnd (Wo (pu:=pi&&pt&&pe) z)) n h
end
section
variable{X:Cx}{K:Ah}{ml:List Nat}{e a b c:Us}{es:List Us}{pi pt pe pu bt bi ps bs:Bool}{f:VF}{B B':Bs}{O:Nat->Option Ul}{H H0 H1 H':Hp}{σ:St}{δ δ':Ev}{v:V}{d:cU}{p:Ul}{pos:Pos}{ix:List Nat}{nl:Nat}
def lA(K:Ah)(N:Ul->Prop)(J:It)(H:Hp)(ds:List cU):Prop:=∃xs:List V,b9 K N H xs ds/\∀H2,bA H H2->(∀(i:Nat) (x:V),xs[i]?=b3 x->J.go i H2/\∀y a,J.yld i H2 y a->a=H2/\y=x)/\J.stop xs.length H2
inductive Xr(K:Ah)(ml:List Nat)(f:VI)(σ:St)(H:Hp)(R:It->Hp->Prop):Prop
 |mk (B:_) (O:_) (δ:_) (ds:_) (δ':_) (h0:aU K ml B O H σ δ) (h1:f δ=b3 (ds,δ')) (h2:∀J H',aU K ml B O H' σ δ'->bA H H'->lA K (Nn B O) J H' ds->R J H'):Xr K ml f σ H R
def TIVp(K:Ah)(ml:List Nat)(f:VI):TI:=λσ H R=>Xr K ml f σ H R
def pC{fi:VI}{gg:VG}{tb:VB}{fe:VF}(hnd:ix.Nodup){Q:VK}(h:TN K ml ba (ZP ix nl fi gg tb fe) σ H Q):IE ix nl (TIVp K ml fi) (TGV K (Bf ix.length) gg) (TB K (Bf ix.length) ba tb) (TV K (Bf ix.length) ba ba ba fe) σ H Q:=by obtain⟨B,O,δ,ds,δ',S,e,k⟩:=II (pi:=ba) (pt:=ba) (pe:=ba) hnd h;refine⟨B,O,δ,ds,δ',S,e,λJ H' m p w=>?_⟩;obtain⟨b,a,c⟩:=w;refine k J (b.zip ds) H' (m.keepV (W5 a)) p.fr (λ_=>p) λN H1 z f=>⟨λi d hd=>?_,by rw[<-a.length];exact(c H1 (f rfl)).2⟩;obtain⟨x,j,l⟩:=(VL a.length z).get hd;have w:=(c H1 (f rfl)).1 i x j;exact⟨w.1,λy n g=>by obtain⟨rfl,rfl⟩:=w.2 y n g;exact⟨.refl _,l⟩⟩
def bA.sqT{a:Ul}{xs:List V}(s:bA H H')(h:WL K H a xs):WL K H' a xs:=Fr.tup (P:=λ_=>False) s.fr h
def mJ{tg:Us}(n:X.K=K)(h:PE X e (TV K ml ba bt bi f))(o:bi=ba:=by rfl):PI X tg e (TIVp K ml (UX f)):=by
 subst o;refine((Yz (K:=K) n h).or (Xb (K:=K) n h)).imp λσ H R g=>?_;obtain⟨B,O,δ,ds,δ',S,q,k⟩:=g;unfold UX at q;obtain⟨⟨x,δ1⟩,h1,q⟩:=Aa.mp q;cases x with
 |lst m=>
  cases q;refine .inl ⟨B,O,δ,_,δ1,S,h1,λv H1 c=>?_⟩;obtain⟨a,xs,rfl,sq,r⟩:=c.rep.lstE;refine⟨a,rfl,⟨xs,sq⟩,k _ H1 c.sta (c.pur rfl) ⟨xs,r,λH2 b=>⟨λi x ex=>⟨⟨xs,x,b.seq sq,ex⟩,λy p d=>?_⟩,xs,b.seq sq,Ar _⟩⟩⟩;obtain⟨l,j⟩:=d;have:=j xs (b.seq sq)
  rw[ex]at this;cases this;exact⟨l,rfl⟩
 |tup m=>
  cases q;refine .inr ⟨B,O,δ,_,δ1,S,h1,λv H1 c=>?_⟩;obtain⟨a,xs,rfl,sq,r⟩:=c.rep.tupE;refine⟨a,rfl,⟨xs,sq⟩,k _ H1 c.sta (c.pur rfl) ⟨xs,r,λH2 b=>⟨λi x ex=>⟨⟨xs,x,b.sqT sq,ex⟩,λy p d=>?_⟩,xs,b.sqT sq,Ar _⟩⟩⟩;obtain⟨l,j⟩:=d;have:=j xs (b.sqT sq)
  rw[ex]at this;cases this;exact⟨l,rfl⟩
 |_=>cases q
def cY{i:Nat}{y:Uq}{j k:Pos}{tg iter b:Us}{a:List Us}{scope:Vb}{fi:VI}{gg:VG}{tb:VB}{fe:VF}(o:Bool)(q:X.N.Nodup)(N':List Uq)(ix:List Nat)(nl:Nat)(hi:PI X tg iter (TIVp K ml fi))(g:BlkC X K N' ix scope tg a b gg pt tb pe fe)(f:X.N[i]?=b3 y:=by rfl)(l:X.env.scope.names.lookup y=b3 .local:=by rfl)(hc:X.calm=ba:=by rfl)(hk:scope.kind=.function:=by rfl)(c:MW X.N N' ix scope.names X.env.kindOf=ba:=by rfl)(e:N'.length=ix.length+nl:=by rfl)(hnd:ix.Nodup:=by decide)(n:(pt&&pe)=ba:=by rfl)(p:i∉ml:=by decide)(d:Hm (.ListComp b [⟨tg,iter,a,0⟩] scope pos) (b3 (.Name y j)) k.line X.env=pure ba:=by rfl)(m:∀x,Uy iter X.env x=pure x:=by intro _;rfl):PS X (.Assign [.Name y j] (.ListComp b [⟨tg,iter,a,0⟩] scope pos) k) (WH K ml (aV i (if o then xO (ZP ix nl fi gg tb fe)else xV (ZP ix nl fi gg tb fe)))):=by obtain⟨h1,h2⟩:=(Ad _ _).mp n;subst h1 h2;exact(HJ q f l hc (WZ hk c) e hi (g (WZ hk c).nd) d m).imp λD σ H h=>Xp (λσ H Q z=>pC hnd (Wo (pu:=ba) z)) p h
end
section
variable{X:Cx}{K:Ah}{ml:List Nat}{e a b c:Us}{es:List Us}{pa ta ia pb tb ib pc tc ic pu bt bi ps bs:Bool}{fa fb fc f:VF}{B B':Bs}{O:Nat->Option Ul}{H H1 H':Hp}{σ:St}{δ δ':Ev}{v:V}{d:cU}{p:Ul}{pos:Pos}
noncomputable def E3(d0:cU)(i:Nat)(F:bP):bP:=λds=>(F (ds.take i++d0::ds.drop i)).map λq=>(q.1,q.2.dropLast)
def SJ.awayS{H2:Hp}{N N':Ul->Prop}{q:Ul}(c:H p=b4)(b:bA H H2)(e:∀a,N' a->N a∨a=p)(w:SJ K N H q d):SJ K N' H2 q d:=by
 cases w with
 |lst q r=>exact .lst (b _ _ q) ((r.away c _ _ e).same b)
 |dct q r=>exact .dct (b _ _ q) ((r.away c _ _ e).same b)
 |nst q r=>exact .nst (q.same b) ((r.away c _ _ e).same b)
def IB{d0:cU}{H2:Hp}{mF:List Nat}{i:Nat}{F:bP}{c:List V}{Q:VK}{E:XK}(s:∀j∈mF,j<i)(I:H p=b4)(M:bA H H2)(own:∀N,SJ K N H2 p d0)(h:spV K mF (i+1) (E3 d0 i F) (c++[v]) H Q E):spV K (mF++[i]) (i+2) F (c++[.ref p,v]) H2 Q E:=by
 obtain⟨Z,ds,r,os,hl,A,J,k⟩:=h;obtain⟨l,d,rfl⟩:∃l d,ds=l++[d]:=⟨ds.dropLast,ds.getLast (λz=>by rw[z]at hl;cases hl),(Jg _).symm⟩;have n:l.length=i:=by simpa using hl
 have B:c.length=i:=by have:=A.len;simp at this;lia
 unfold E3 at J;rw[Ru n,List.drop_left' n]at J;obtain⟨⟨r',R⟩,h0,J⟩:=Ap.mp J;cases J;have lo:∀(j:Nat),j<i->(c++[.ref p,v])[j]?=(c++[v])[j]? :=λj g=>by rw[Ao (by lia),Ao (by lia)]
 have t:(c++[.ref p,v])[i]?=b3 (.ref p):=by rw[Bo (by lia),B,Km];rfl
 have at2:(c++[.ref p,v])[i+1]?=b3 v:=by rw[Bo (by lia),B,show i+1-i=1 by lia];rfl
 have at3:(c++[v])[i]?=b3 v:=by rw[Bo (by lia),B,Km];rfl
 have L:∀(j:Nat),j<i->(l++d0::[d])[j]?=(l++[d])[j]? :=λj g=>by rw[Ao (by lia),Ao (by lia)]
 have dt1:(l++d0::[d])[i]?=b3 (d0):=by rw[Bo (by lia),n,Km];rfl
 have dt2:(l++d0::[d])[i+1]?=b3 d:=by rw[Bo (by lia),n,show i+1-i=1 by lia];rfl
 have dt3:(l++[d])[i]?=b3 d:=by rw[Bo (by lia),n,Km];rfl
 have hP:∀a,QL (mF++[i]) (c++[.ref p,v]) a->QL mF (c++[v]) a∨a=p:=λa q0=>by
  obtain⟨j,g,e⟩:=q0;rcases By.mp g with g|g
  ·exact .inl ⟨j,g,by rw[<-lo j (s j g)];exact e⟩
  ·rw[At.mp g,t]at e
   cases e;exact .inr rfl
 have Y:∀a,QL mF (c++[v]) a->QL (mF++[i]) (c++[.ref p,v]) a:=λa ⟨j,g,e⟩=>⟨j,Bq _ g,by rw[lo j (s j g)];exact e⟩;have X:∀a,Zp Z (mF++[i]) (c++[.ref p,v]) a->Zp Z mF (c++[v]) a∨a=p:=λa h=>by
  rcases h with h|h
  ·exact .inl (.inl h)
  ·exact(hP a h).imp .inr id
 have C:∀a,Zp Z mF (c++[v]) a->Zp Z (mF++[i]) (c++[.ref p,v]) a:=λa h=>h.imp id (Y a);have up:∀{u:V}{x:cU},bO K (Zp Z mF (c++[v])) H (Zp Z mF (c++[v])) u x->bO K (Zp Z (mF++[i]) (c++[.ref p,v])) H2 (Zp Z (mF++[i]) (c++[.ref p,v])) u x:=λr=>(r.away I _ _ X X).same (M);have D:∀{j:Nat},j∈mF->(c++[v])[j]? ≠b3 (.ref p):=λ{j} g e=>by have hj':=A.mem j g;obtain⟨a,m,w,_⟩:=A.ow j ((l++[d])[j]'hj') g (by simp);rw[e]at m;cases m;obtain⟨o,q,_⟩:=w.soft;rw[I]at q;cases q
 refine⟨Z,l++d0::[d],_,R,by simp[n],⟨by simp;lia,λj g=>?_,λj x g e=>?_,λj x g e=>?_,λS G a h1 h2 m y=>?_,λa h=>let ⟨o,q⟩:=A.zin a h;⟨o,M _ _ q⟩⟩,h0,λu H' f w rr=>k u H' (λb o W hc=>f b o (M _ _ W) λz=>?_) (λkk j a o m y O=>?_) (rr.mono C C)⟩
 ·rcases By.mp g with g|g
  ·have:=s j g
   simp;lia
  ·rw[At.mp g]
   simp;lia
 ·have T : j ∉ mF := λz => g (Bq _ z)
  have hji:j≠i:=λz=>g (Br _ (At.mpr z));by_cases h1:j<i
  ·rw[L j h1]at e
   obtain⟨u,m,P⟩:=A.va j x T e;exact⟨u,by rw[lo j h1];exact m,up P⟩
  ·have U:j=i+1:=by
    have:=(Ag.mp e).1
    simp at this;lia
   subst U;rw[dt2]at e;cases e;obtain⟨u,m,P⟩:=A.va i d (λz=>absurd (s i z) (Ck _)) dt3;rw[at3]at m;cases m;exact⟨v,at2,up P⟩
 ·rcases By.mp g with g|g
  ·rw[L j (s j g)]at e
   obtain⟨u,m,w1,z1⟩:=A.ow j x g e;exact⟨u,by rw[lo j (s j g)];exact m,w1.awayS I M X,z1⟩
  ·have:=At.mp g
   subst this;rw[dt1]at e;cases e;exact⟨p,t,own _,λz=>by obtain⟨o,q⟩:=A.zin p z;rw[I]at q;cases q⟩
 ·rcases By.mp h1 with h1|h1
  ·rw[lo S (s S h1)]at m
   rcases By.mp h2 with h2|h2
   ·rw[lo G (s G h2)]at y
    exact A.inj S G a h1 h2 m y
   ·rw[At.mp h2,t]at y
    cases y;exact absurd m (D h1)
  ·rcases By.mp h2 with h2|h2
   ·rw[lo G (s G h2)]at y
    rw[At.mp h1,t]at m;cases m;exact absurd y (D h2)
   ·rw[At.mp h1,At.mp h2]
 ·rcases hP b z with z|z
  ·exact hc z
  ·rw[z,I]at W
   cases W
 ·refine(w kk j a o ?_ ?_ ?_).mono C
  ·rw[Ao (Ag.mp m).1]
   exact m
  ·rw[lo j (s j (Dt m))]
   exact y
  ·rw[List.getElem?_dropLast]at O
   split at O
   ·exact O
   ·cases O
inductive Yi(K:Qe)(ml:List Nat)(pu:Bool)(W:Hp->Ul->Hp->Prop)(f:T1)(σ:St)(H:Hp)(Q:List V->Hp->Prop):Prop
 |mk (B:_) (O:_) (δ:_) (as:_) (δ':_) (h0:aU K ml B O H σ δ) (h1:f δ=b3 (as,δ')) (h2:∀vs H',ResG K ml B O H σ pu H' δ' vs as->∀vs1 v,vs=vs1++[v]->∀p H2,W H' p H2->Q (vs1++[.ref p,v]) H2):Yi K ml pu W f σ H Q
def F8(K:Qe)(ml:List Nat)(pu:Bool)(W:Hp->Ul->Hp->Prop)(f:T1):TA:=λσ H Q=>Yi K ml pu W f σ H Q
def WG(K:Ah)(d0:cU)(H:Hp)(p:Ul)(H2:Hp):Prop:=H p=b4/\bA H H2/\∀N,SJ K N H2 p d0
def WE(H:Hp)(p:Ul)(H2:Hp):Prop:=H p=b4/\H2=upd H p (.dK [])
abbrev TAGG(K:Ah)(ml:List Nat)(pu:Bool)(d0:cU)(f:T1):TA:=F8 K ml pu (WG K d0) f
def insD(i:Nat)(F:bP):bP:=E3 (.dct [] []) i F
def qu{mF:List Nat}{i:Nat}{F:bP}{a:List V}{Q:VK}{E:XK}(c:∀j∈mF,j<i)(b:H p=b4)(h:spV K mF (i+1) (insD i F) (a++[v]) H Q E):spV K (mF++[i]) (i+2) F (a++[.ref p,v]) (upd H p (.dK [])) Q E:=
 IB c b (cP b) (λ_=>.dct (kvs:=[]) cA .nil) h
abbrev TAGE(K:Ah)(ml:List Nat)(pu:Bool)(f:T1):TA:=F8 K ml pu WE f
def hU{j:Nat}{a:Pos}(i:PE X b (V8 j))(g:Um (.Dict [] [] a::b::[]) X.env=(bb,eval (.Dict [] [] a) X.env)::Um (b::[]) X.env:=by rfl)(c:SE X b []:=by rfl):
  PA X [.Dict [] [] a,b] (TAGE K ml ba (aE (fV j) b7)):=(bW HG (bW i Z9 c) g).imp λσ H Q f=>by
 obtain⟨B,O,δ,as,δ2,S,q,k⟩:=f;unfold aE at q;obtain⟨z,h1,q⟩:=Aa.mp q;cases q;unfold fV at h1;split at h1
 ·rename_i d hd
  cases h1;intro p h;obtain⟨v,e,r⟩:=S.va j _ hd;exact⟨v,e,k [v] H ⟨S,Fr.refl _ _,λ_=>bA.refl _,.d r .nil⟩ [] v rfl p _ ⟨h,rfl⟩⟩
 ·cases h1
def EH{W:Hp->Ul->Hp->Prop}{fs:T1}(n:PE X a (TV K ml pa ba ba fa))(l:PA X es (F8 K ml ps W fs))(j:SE X a es:=by rfl):PA X (a::es) (F8 K ml (pa&&ps) W (aE fa fs)):=(bW n l j).imp λσ H Q e=>by obtain⟨B,O,δ,as,δ2,S,q,k⟩:=e;unfold aE at q;obtain⟨⟨x,δ1⟩,h1,q⟩:=Aa.mp q;have q:((fs δ1).map λq=>(AV.d x::q.1,q.2))=b3 (as,δ2):=q;obtain⟨p2,h2,q⟩:=Ap.mp q;cases q;refine⟨B,O,δ,x,δ1,S,h1,λf H1 b=>⟨B,O,δ1,_,_,b.sta,h2,λvs H2 R2 c v i p m=>k (f::vs) H2 ⟨R2.sta,b.frm.trans R2.frm,λz=>?_,.d (b.rep.fr R2.frm (λa z=>.inr z) λa z=>.inr z) R2.rep⟩ (f::c) v (by rw[i];rfl) p m⟩⟩;obtain⟨h,g⟩:=(Ad _ _).mp z;exact(b.pur h).trans (R2.pur g)
def Zb{W:Hp->Ul->Hp->Prop}{fs:T1}{j:Nat}(l:PE X a (V8 j))(h:PA X es (F8 K ml ps W fs))(g:SE X a es:=by rfl):PA X (a::es) (F8 K ml ps W (aO j fs)):=(bW l h g).imp λσ H Q c=>by obtain⟨B,O,δ,as,δ2,S,q,k⟩:=c;unfold aO at q;obtain⟨d,h1,q⟩:=Aa.mp q;have q:((fs δ).map λq=>(AV.o j::q.1,q.2))=b3 (as,δ2):=q;obtain⟨p2,h2,q⟩:=Ap.mp q;cases q;obtain⟨v,e⟩:=S.slot h1;exact⟨v,e,B,O,δ,_,_,S,h2,λvs H2 R2 b u f p i=>k (v::vs) H2 ⟨R2.sta,R2.frm,R2.pur,.o e R2.rep⟩ (v::b) u (by rw[f];rfl) p i⟩
def nP{x:Uq}{d j i:Nat}{f:List Uq}{mF:List Nat}{F:bP}{u:Ul}{p':Pos}{fs:T1}(t:X.K=K)(D:Def X.prog X.w K X.mg X.base x d f (spV K (mF++[i]) (i+2) F) u)(n:∀j∈mF,j<i)(l:YT j X.A)(hk:d<=j)(o:Gl X x)(s:PA X (e::es) (TAGE K ml ps fs))(c:ND x:=by decide)(r:SE X e es:=by rfl)(b:(Fb pos (Um es X.env)).any (·.1)=bb:=by rfl):PE X (.Call (.Name x p') (e::es) [] pos) (TV K ml (ps&&mF.isEmpty) ba ba (cI (i+1) mF (insD i F) fs)):=by subst t;refine(NN D l hk o s c r b).imp λσ H Q h=>?_;obtain⟨B,O,δ,as,δ',S,q,k⟩:=OR h;refine⟨B,O,δ,as,δ',S,q,λvs H' R a v g p H2 hw=>?_⟩;obtain⟨m,rfl⟩:=hw;subst g;have z:spV X.K mF (i+1) (insD i F) ((a++[v])++[]) H' Q E0:=k _ H' R;show spV X.K (mF++[i]) (i+2) F ((a++[.ref p,v])++[]) (upd H' p (.dK [])) Q E0;rw[Eo]at z⊢;exact qu n m z
end
section
variable{X:Cx}{K:Ah}{ml:List Nat}{e a b c:Us}{es:List Us}{pa ta ia pb tb ib pc tc ic pu bt bi ps bs:Bool}{fa fb fc f:VF}{pos p':Pos}{d:cU}{x:Uq}
def vv(i:Nat)(c:X.N[i]?=b3 x:=by rfl)(b:Vis X.env.scope x:=by first|exact Cg rfl|exact Bk (Cg rfl)|exact Bk (Bk rfl))(hd:ND x:=by decide)(a:(x==("__classdict__":Uq))=bb:=by decide):PE X (.Name x pos) (TV K ml ba ba ba (fV i)):=qW (FI c b hd a)
def vo(i:Nat)(c:X.N[i]?=b3 x:=by rfl)(b:Vis X.env.scope x:=by first|exact Cg rfl|exact Bk (Cg rfl)|exact Bk (Bk rfl))(hd:ND x:=by decide)(a:(x==("__classdict__":Uq))=bb:=by decide):PE X (.Name x pos) (TV K ml ba bb ba (fO i)):=fJ (FI c b hd a)
def X3(d:X.A.units+1<cLine)(g:PE X a (TV K ml pa ta ia fa))(f:PE X b (TV K ml pb tb ib fb))(h:X.K=K:=by rfl)(c:W0 b:=by exact λ_ _=>rfl)(e:(pb || (ta&&ia))=ba:=by rfl):PE X (.Subscript a b pos) (TV K ml (pa&&pb) ia ia (f2 bE fa fb)):=
 eV (kIxA d h) nJ g f c e
def veq(c:X.A.units+64<cLine)(f:PE X a (TV K ml pa ta ia fa))(e:PE X b (TV K ml pb tb ib fb))(g:X.K=K:=by rfl)(d:(pb || (ta&&ia))=ba:=by rfl):PE X (.Compare a [.Eq] [b] pos) (TV K ml (pa&&pb) ba ba (f2 WD fa fb)):=
 XY (kEqD c g) s_eq f e (UG _) d
def VV(c:X.A.units+64<cLine)(f:PE X a (TV K ml pa ta ia fa))(e:PE X b (TV K ml pb tb ib fb))(g:X.K=K:=by rfl)(d:(pb || (ta&&ia))=ba:=by rfl):PT X (.Compare a [.Eq] [b] pos) (TB K ml (pa&&pb) (fB (f2 WD fa fb))):=
 bS (kEqD c g) s_eq f e (UG _) d
def bK{c j n:Nat}{d:List Uq}{mF:List Nat}{F:bP}{l:Ul}{fs:T1}(D:Def X.prog X.w K X.mg X.base x c d (spV K mF n F) l)(f:YT j X.A)(i:PA X (e::es) (CM K ml ps fs))(k:X.K=K:=by rfl)(hk:c<=j:=by decide)(g:Gl X x:=by rfl)(b:ND x:=by decide)(h:SE X e es:=by rfl)(a:(Fb pos (Um es X.env)).any (·.1)=bb:=by rfl):PE X (.Call (.Name x p') (e::es) [] pos) (TV K ml (ps&&mF.isEmpty) ba ba (cI n mF F fs)):=dZ k D f hk g i b h a
def XG(b:X.mg "len"=b4)(e:PE X a (TV K ml pa ta ia fa))(f:X.K=K:=by rfl)(c:Gl X "len":=by rfl)(d:SE X a []:=by rfl):PE X (.Call (.Name "len" p') [a] [] pos) (TV K ml pa ba ba (f1 Y1 fa)):=
 Vl (Zi f) dJ c b pW e (by decide) (by decide) d
def vty{n:String}(c:X.mg x=b4)(a:Bm x=b3 (.type n))(d:Gl X x:=by rfl)(b:x≠ "__name__":=by decide)(hd:ND x:=by decide):PE X (.Name x pos) (TV K ml ba ba ba (fC (.ty n))):=
 CC (iS (v:=.ty n) d c a rfl b hd) λ_ _ _=>.ty _
def KA(f:X.mg "isinstance"=b4)(j:PE X a (TV K ml pa ta ia fa))(i:PE X b (TV K ml pb tb ib fb))(k:X.K=K:=by rfl)(g:Gl X "isinstance":=by rfl)(h:SE X a [b]:=by rfl)(d:SE X b []:=by rfl)(c:(Fb pos (Um [b] X.env)).any (·.1)=bb:=by rfl)(e:(pb || (ta&&ia))=ba:=by rfl):PE X (.Call (.Name "isinstance" p') [a,b] [] pos) (TV K ml (pa&&pb) ba ba (f2 SU fa fb)):=X1 (kIsi k) kJ g f bU j i (by decide) (by decide) h d c e
end
def A4(K:Ah)(x:Uq)(st:Ux)(f:Ul):Prop:=∃(d:Uk) (od:Option Ul) (kV doc c:Uk) (e:Option Ul) (a ct:Uk) (b:Array (Option Uk)),Gs K Up x=b3 (b3 (.ref f))∧
 K.lookup f=b3 ⟨d,od,.func (Lx x x (YQ st) (aH st) (cO st) .none kV doc c e a ct),b⟩/\Of K a x=ba/\Jd K (.ref f)=ba
def a4{K:Ah}{x:Uq}{st:Ux}{f:Ul}{i:Uk}{od:Option Ul}{kV doc h:Uk}{j:Option Ul}{e ct:Uk}{g:Array (Option Uk)}(a:Gs K Up x=b3 (b3 (.ref f)))(b:K.lookup f=b3 ⟨i,od,.func (Lx x x (YQ st) (aH st) (cO st) .none kV doc h j e ct),g⟩)(c:Of K e x=ba)(d:Jd K (.ref f)=ba):A4 K x st f:=⟨i,od,kV,doc,h,j,e,ct,g,a,b,c,d⟩
def YL{P:Av}{w:Uu}{K:Ah}{mg:Uq->Option Uk}{base h:Uv}{x:Uq}{st:Ux}{f:Ul}{ps:List Uq}{sp:Sp}{k:Nat}(X:K.In h)(G:h.Ns Up mg)(p:A4 K x st f)(ok:∀{fd:Dw},XU K x x st f fd->aA P w K mg base CX0 k f fd ps sp)(m:∀{kV doc i:Uk}{j:Option Ul}{e ct:Uk}(g:List Uk),g.length=ps.length->Rf (Lx x x (YQ st) (aH st) (cO st) .none kV doc i j e ct) ⟨g,[]⟩=pure (ps.zip g)):Def P w K mg base x k ps sp f:=by obtain⟨n,od,kV,doc,i,j,e,ct,l,a,b,c,d⟩:=p;have U:=JI (st:=st) b c d;exact⟨Eh X G a,⟨_,ok U,U.binds λ_ _ _ _ _ _=>m⟩,d⟩
def RL(P:Av)(w:Uu)(K:Ah)(mg:Uq->Option Uk)(base:Uv){x qual:Uq}{st:Ux}{f:Ul}{fd:Dw}(N ps:List Uq)(k:Nat)(g:VS)(ml:List Nat)(F:XU K x qual st f fd)(S:b6 N ps (cO st))(d:∀(a:Uk) (A:Cc) (outer:List Env) (s:Af) (H:Hp) (E:XK) (b:YT k (A.deeper (envOfC qual (cO st) s.heap.objs.size f a))) (_:(A.deeper (envOfC qual (cO st) s.heap.objs.size f a)).units+64<cLine) (_:(A.deeper (envOfC qual (cO st) s.heap.objs.size f a)).units+1<cLine),WN (QS CX0 P w K mg base N qual (cO st) f a A outer s H E).nox (aH st) (WH K ml g))(c:ps.length<=N.length:=by decide):aA P w K mg base CX0 (k+1) f fd ps (spV K ml ps.length (Z2 N.length ml g)):=
 XU.okV F S c λa A outer s H E b=>d a A outer s H E b b.units (Ws b)
def Y0{N P:List Uq}{h:Vb}(a:h.kind=.function:=by rfl)(b:h.isCoroutine=bb:=by rfl)(c:h.isGenerator=bb:=by rfl)(d:N.Nodup:=by decide+kernel)(e:N.take P.length=P:=by rfl)(f:∀x∈P,h.names.lookup x=b3 .local∨h.names.lookup x=b3 .cell:=by decide+kernel)(g:∀y∈h.names,y.2≠Bu:=by decide+kernel):b6 N P h:=⟨a,b,c,d,e,f,g⟩
def KD{α:Type}:Vd α->Prop
 |.pure _=>True
 |.raise _=>True
 |.unsupported _=>True
 |.finish _=>True
 |.rule _ k=>KD (k ())
 |.at _ k=>KD (k ())
 |.load _ _ k=>∀o,KD (k o)
 |.update _ _ f k=>(∀o,(f o).dict=o.dict)/\KD (k ())
 |.alloc _ k=>∀a,KD (k a)
 |.loadIfAlive _ k=>∀o,KD (k o)
 |.point _ k=>KD (k ())
 |.stack k=>∀l,KD (k l)
 |.fresh k=>∀l,KD (k l)
 |.ask k=>∀l,KD (k l)
 |.handled _ k=>∀l,KD (k l)
 |_=>False
def Dc(e:Ul)(d:Option Ul)(h:Uv):Prop:=∃o,h.objs[e]?=b3 o/\o.dict=d
def Dc.of{e:Ul}{h:Uv}{o:Uw}(q:h.get? e=b3 o):Dc e o.dict h:=⟨o,(Op.mp q).1,rfl⟩
theorem Dc.at{e:Ul}{d:Option Ul}{h:Uv}{o:Uw}(D:Dc e d h)(q:h.get? e=b3 o):o.dict=d:=by obtain⟨o',a,b⟩:=D;rw[(Op.mp q).1]at a;cases a;exact b
def Dc.upd{e a:Ul}{d:Option Ul}{h:Uv}{f:Uw->Uw}(D:Dc e d h)(i:∀o,(f o).dict=o.dict):Dc e d (h.update a f):=by
 obtain⟨o,g,c⟩:=D;cases h;simp only[Dc,Heap.update,Array.getElem?_modify];by_cases b:a=e
 ·subst b
  exact⟨f o,by rw[if_pos rfl,g];rfl,(i o).trans c⟩
 ·exact⟨o,by rw[if_neg b];exact g,c⟩
def Dc.push{e:Ul}{d:Option Ul}{h:Uv}(o:Uw)(D:Dc e d h):Dc e d (h.push o):=by obtain⟨b,a,c⟩:=D;cases h;refine⟨b,?_,c⟩;simp only[Heap.push,Array.getElem?_push];rw[if_neg (Bb (Array.getElem?_eq_some_iff.mp a).1)];exact a
def mK{α:Type}{M:Ve}{i:PySem.Ctx}{e:Ul}{d:Option Ul}{E:Uk->Pos->Af->Prop}:∀(t:Vd α) (Q:α->Pos->Af->Prop) (p:Pos) (s:Af),KD t->Dc e d s.heap->Sem.wp M i t Q E p s->Sem.wp M i t (λa p s'=>Q a p s'/\Dc e d s'.heap) E p s:=by
 intro t;induction t with
 |pure a=>intro Q p s _ D h;simp only[Sem.wp_pure]at h⊢;exact⟨h,D⟩
 |raise v=>intro Q p s _ D h;simp only[Sem.wp_raise]at h⊢;exact h
 |unsupported w=>intro Q p s _ D h;simp only[Sem.wp_unsupported]at h
 |finish w=>intro Q p s _ D h;simp only[Sem.wp_finish]at h
 |rule g k c=>intro Q p s K D h;simp only[Sem.wp_rule]at h⊢;exact c () Q p s K D h
 | «at» q k c=>intro Q p s K D h;simp only[Sem.wp_at]at h⊢;exact c () Q q s K D h
 |load a b k c=>intro Q p s K D h;rw[Sem.wp_load]at h⊢;obtain⟨o,j,h⟩:=h;exact⟨o,j,c o Q p s (K o) D h⟩
 |update a b f k c=>intro Q p s K D h;rw[Sem.wp_update]at h⊢;exact⟨h.1,c () Q p _ K.2 (D.upd K.1) h.2⟩
 |alloc o k c=>intro Q p s K D h;simp only[Sem.wp_alloc]at h⊢;exact c _ Q p _ (K _) (D.push o) h
 |loadIfAlive a k c=>intro Q p s K D h;simp only[Sem.wp_loadIfAlive]at h⊢;exact c _ Q p s (K _) D h
 |point l k c=>intro Q p s K D h;simp only[Sem.wp_point]at h⊢;exact c () Q p s K D h
 |stack k c=>intro Q p s K D h;rw[Sem.wp]at h⊢;exact c _ Q p s (K _) D h
 |fresh k c=>intro Q p s K D h;simp only[Sem.wp_fresh]at h⊢;exact c _ Q p _ (K _) D h
 |ask k c=>intro Q p s K D h;simp only[Sem.wp_ask]at h⊢;exact c _ Q p s (K _) D h
 |handled o k c=>intro Q p s K D h;simp only[Sem.wp_handled]at h⊢;exact c _ Q p s (K _) D h
 |_=>intro Q p s K;exact K.elim
def IV{α:Type}{M:Ve}{A:Cc}{e:Ul}{d:Option Ul}{E:Uk->Af->Prop}{t:Vd α}{Q:α->Af->Prop}{s:Af}(K:KD t)(D:Dc e d s.heap)(h:Uo M A t (λa s'=>Dc e d s'.heap->Q a s') E s):Uo M A t Q E s:=λc p b=>
 Sem.wp_mono M c t (λa p s' z=>z.1 z.2) (λ_ _ _ z=>z) p s (mK t _ p s K D (h c p b))
def KD.bind{α β:Type}{f:α->Vd β}:∀{m:Vd α},KD m->(∀a,KD (f a))->KD (m>>=f):=by
 intro m;show KD m->_->KD (Sem.bind m f);induction m with
 |pure a=>intro _ h;exact h a
 |raise v=>intro _ h;exact trivial
 |unsupported w=>intro _ h;exact trivial
 |finish w=>intro _ h;exact trivial
 |rule g k c=>intro K h;exact c () K h
 | «at» q k c=>intro K h;exact c () K h
 |load a b k c=>intro K h o;exact c o (K o) h
 |update a b f k c=>intro K h;exact⟨K.1,c () K.2 h⟩
 |alloc o k c=>intro K h a;exact c a (K a) h
 |loadIfAlive a k c=>intro K h o;exact c o (K o) h
 |point l k c=>intro K h;exact c () K h
 |stack k c=>intro K h l;exact c l (K l) h
 |fresh k c=>intro K h l;exact c l (K l) h
 |ask k c=>intro K h l;exact c l (K l) h
 |handled o k c=>intro K h l;exact c l (K l) h
 |_=>intro K;exact K.elim
def fM(f:Array Uk->Array Uk)(o:Uw):(Tj f o).dict=o.dict:=by unfold Tj;split<;>rfl
def KD.field(v:Uk)(i:Nat):KD (field v i):=by unfold PySem.field fieldsOf;repeat (first|exact trivial|exact λ_=>trivial|with_reducible refine KD.bind ?_ ?_|intro _|split)
def KD.setField(v:Uk)(i:Nat)(x:Uk):KD (setField v i x):=by unfold Sg updateField;repeat (first|exact trivial|exact⟨fM _,trivial⟩|exact λ_=>trivial|with_reducible refine KD.bind ?_ ?_|intro _|split)
def KD.flight(e:Uk)(f:Option Ul):KD (setFlight e f):=by unfold setFlight;repeat (first|exact trivial|exact KD.field _ _|exact KD.setField _ _ _|with_reducible refine KD.bind ?_ ?_|intro _|split)
theorem KD.ready:∀l:List Env,KD (readyFrames l)
 |[]=>trivial
 |env::outer=>by have a:=KD.ready outer;unfold readyFrames behindIsImport keptBack;repeat (first|exact trivial|exact a|exact KD.field _ _|exact⟨λ_=>rfl,trivial⟩|exact λ_=>trivial|with_reducible refine KD.bind ?_ ?_|intro _|split)
def KD.frameOf(env:Env):KD (Oq env):=by have h1:=KD.ready;unfold Oq frameObject frameEnvs;repeat (first|exact trivial|exact h1 _|exact λ_=>trivial|with_reducible refine KD.bind ?_ ?_|intro _|split)
def KD.place(f:Ul)(b:Bool):KD (Qk f b):=by unfold Qk;repeat (first|exact trivial|exact λ_=>trivial|with_reducible refine KD.bind ?_ ?_|intro _|split)
def KD.entry(a b c d e:Uk)(l:List Uk):KD (Ny a b c d e l):=by show KD (if _ then unsupported _>>=λ_=>Su _ _ _ else Su _ _ _);have h:∀x:Data,KD (Su (.type "traceback") x b4):=λx=>λ_=>trivial;repeat (first|exact trivial|exact h _|split)
def KD.note(e:Uk)(env:Env):KD (noteFrame e env):=by have h2:∀head f,KD (Oq env>>=λa=>Qk f (head != .none)>>=λc=>Ny head a .none (rawInt f) .none c>>=λb=>Sg e 1 b):=λ_ _=>KD.bind (KD.frameOf _) λ_=>KD.bind (KD.place _ _) λ_=>KD.bind (KD.entry _ _ _ _ _ _) λ_=>KD.setField _ _ _;unfold noteFrame;repeat (first|exact trivial|exact h2 _ _|exact KD.field _ _|exact KD.setField _ _ _|exact λ_=>h2 _ _|with_reducible refine KD.bind ?_ ?_|intro _|split)
def KD.leave(e:Uk)(env:Env):KD (leaving env e):=KD.bind (KD.note e env) λ_=>KD.flight e b4
end L2
namespace L2
open PySem PySem.Spec PyProof.Rows PySem.W PySem.Builtin PySem.Builtin.ObjectAttr
noncomputable abbrev vbs:List Uk:=[.type "ValueError",.type "Exception",.type "BaseException",.type "object"]
structure XA(K:Ah)(C:Ul):Prop where
 mro:W.mroIn K C (.type "object")=b3 ba
 cls:Rc K (.ref C) "__class__"=b3 (b3 (.builtin "object.__class__"))
 get:W.specialIn K (.builtin "object.__class__") "__get__"=b3 (b3 (.builtin "getset_descriptor.__get__"))
 tak:W.takesIn K (.builtin "object.__class__")=b3 ba
 ga:Rc K (.ref C) "__getattribute__"=b3 (b3 (.builtin "BaseException.__getattribute__"))
 no:Rc K (.ref C) "__getattr__"=b3 b4
 sub:Tl K (.ref C) (.type "BaseException")=b3 ba
section
variable{prog:Av}{w:Uu}{A:Cc}{E:Uk->Af->Prop}{s:Af}{K:Frag}{C Cp N:Ul}{nm q:Uq}{v:Uk}{bs bm:List Uk}{hdct:Bool}{sn:List Uq}{sub:List Uk}{ab:Bool}{col:Option Bool}{dd:Option Ul}{k0 k1 k2 k3 k5:Option Uk}{cn qual txt:Uq}
 {mN mg:Uq->Option Uk}{fI:Ul}{st:Ux}{fd:Dw}{u:Uk}
end
end L2
namespace L2
open PySem PySem.Spec PyProof.Rows
end L2
namespace TS
open PySem PySem.W PyProof.Rows
structure En where
 prog:Av
 w:Uu
 A:Cc
 s:Af
 κ:Rh
 it:Array Keyed
def En.Ok(n:Nat)(ck:Nat->Nat->Bool)(e:En):Prop:=∀i j,i<n->j<n->∀C:Bool->Af->Prop,C (ck i j) e.s->kas_cmp e.prog e.w e.A e.κ e.it i j C e.s
abbrev En.at(e:En)(i:Nat):Keyed:=Jh e.it i
abbrev En.of(e:En)(p:Array Nat):Array Keyed:=p.map (Jh e.it)
structure Pu where
 p:Array Nat
 pd:Array (Nat×Nat×Nat)
 g:Nat
def B0(e:En)(x:Pu):Fg:=Jj e.κ (e.of x.p) x.pd x.g b4
section
variable{n:Nat}{ck:Nat->Nat->Bool}
def D(n:Nat)(ck:Nat->Nat->Bool){α:Type}(f:En->StateT Fg Vd α)(x:Pu)(a:En->α)(y:Pu):Prop:=
 ∀e:En,e.Ok n ck->∀(E:Uk->Af->Prop) (Q:α->Fg->Af->Prop),Q (a e) (B0 e y) e.s->kasC (Ur e.prog e.w) e.A E (f e) Q (B0 e x) e.s
def X(n:Nat)(ck:Nat->Nat->Bool){α a:Type}(f:En->StateT Fg Vd α)(x:Pu)(v:a->En->α)(R:a->Pu->Prop):Prop:=∃t y,R t y/\D n ck f x (v t) y
def D.pure{α:Type}{a:En->α}{x:Pu}:D n ck (λe=>Gw (a e)) x a x:=λe _ E Q h=>kasC_pure h
def D.bind{α β:Type}{f:En->StateT Fg Vd α}{k:En->α->StateT Fg Vd β}{x y z:Pu}{a:En->α}{b:En->β}(h1:D n ck f x a y)(h2:D n ck (λe=>k e (a e)) y b z):D n ck (λe=>f e>>=k e) x b z:=
 λe o E Q h=>Rv (h1 e o E _ (h2 e o E Q h))
def D.get{x:Pu}:D n ck (λ_=>MonadState.get) x (λe=>B0 e x) x:=λe _ E Q h=>kasC_get h
def D.modify{F:En->Fg->Fg}{x y:Pu}(h:∀e,F e (B0 e x)=B0 e y):D n ck (λe=>modify (F e)) x (λ_=>⟨⟩) y:=λe _ E Q q=>Rx (by rw[h e];exact q)
def D.rule{r:String}{x:Pu}:D n ck (λ_=>(liftM (PySem.rule r):StateT Fg Vd Unit)) x (λ_=>()) x:=λe _ E Q q=>kasC_lift (Ib q)
theorem D.elem{q:Array Nat}{i:Nat}{x:Pu}(hi:i<q.size):D n ck (λe=>elem' (e.of q) i) x (λe=>e.at (q.getD i 0)) x:=λe _ E Q h=>by
 have b:(e.of q)[i]?=b3 (e.at (q.getD i 0)):=by
  have a:q.getD i 0=q[i]:=by simp[Kx,hi]
  rw[a];simp[En.of,En.at,hi]
 show kasC _ _ _ (elem' (e.of q) i) Q _ _;rw[elem'_eq,b];exact kasC_pure h
theorem D.lt{i j:Nat}{x:Pu}(hi:i<n)(a:j<n):D n ck (λe=>lt' (e.at i) (e.at j)) x (λ_=>b3 (ck i j)) x:=λe o E Q h=>by show kasC _ _ _ (lt' (e.at i) (e.at j)) Q _ _;rw[lt'_eq];refine Rv (kasC_get ?_);refine Rv (kasC_lift (Ll (Ce (o i j hi a (λc s'=>c=ck i j/\s'=e.s) ⟨rfl,rfl⟩) (λc s' hc=>?_) λ_ _ b=>b.elim)));obtain⟨rfl,rfl⟩:=hc;exact kasC_pure h
theorem D.ltAt{i j:Nat}{x:Pu}(hi:i<x.p.size)(a:j<x.p.size)(bi:x.p.getD i 0<n)(b:x.p.getD j 0<n):D n ck (λ_=>ltAt' i j) x (λ_=>b3 (ck (x.p.getD i 0) (x.p.getD j 0))) x:=λe o E Q h=>by show kasC _ _ _ (ltAt' i j) Q _ _;rw[ltAt'_eq];refine Rv (kasC_get ?_);exact(D.bind (D.elem hi) (D.bind (D.elem a) (D.lt bi b)):D n ck (λe=>elem' (e.of x.p) i>>=λu=>elem' (e.of x.p) j>>=λv=>lt' u v) x _ x) e o E Q h
def D.rev{i j:Nat}{x:Pu}:D n ck (λ_=>reverseSlice' i j) x (λ_=>()) {x with p:=kas_rev x.p i j}:=λe o E Q h=>by show kasC _ _ _ (reverseSlice' i j) Q _ _;rw[reverseSlice'_eq];refine Rx ?_;have a:mirror (e.of x.p) i j ((j-i)/2)=e.of (mirror x.p i j ((j-i)/2)):=kas_swaps_map (Jh e.it) (λk=>i+k) (λk=>j-1-k) _ x.p;show Q () (Jj e.κ (mirror (e.of x.p) i j ((j-i)/2)) x.pd x.g b4) e.s;rw[a];exact h
def D.move{k l:Nat}{x:Pu}:D n ck (λ_=>moveDown' k l) x (λ_=>()) {x with p:=bubble x.p k (k-l)}:=λe o E Q h=>by show kasC _ _ _ (moveDown' k l) Q _ _;rw[moveDown'_eq];refine Rx ?_;have a:bubble (e.of x.p) k (k-l)=e.of (bubble x.p k (k-l)):=kas_swaps_map (Jh e.it) (λi=>k-i) (λi=>k-i-1) _ x.p;show Q () (Jj e.κ (bubble (e.of x.p) k (k-l)) x.pd x.g b4) e.s;rw[a];exact h
def X.ret{α b:Type}{a:En->α}{x:Pu}{v:b->En->α}{R:b->Pu->Prop}(t:b)(h:R t x)(c:∀e,a e=v t e:=by intro e;rfl):X n ck (λe=>Gw (a e)) x v R:=
 ⟨t,x,h,by rw[show a=v t from funext c];exact D.pure⟩
def X.go{α β b:Type}{f:En->StateT Fg Vd α}{k:En->α->StateT Fg Vd β}{x y:Pu}{a:En->α}{v:b->En->β}{R:b->Pu->Prop}(h1:D n ck f x a y)(h2:X n ck (λe=>k e (a e)) y v R):X n ck (λe=>f e>>=k e) x v R:=by obtain⟨t,z,h,d⟩:=h2;exact⟨t,z,h,D.bind h1 d⟩
def X.bind{α β b a:Type}{f:En->StateT Fg Vd α}{k:En->α->StateT Fg Vd β}{x:Pu}{u:a->En->α}{S:a->Pu->Prop}{v:b->En->β}{R:b->Pu->Prop}(h1:X n ck f x u S)(h2:∀t y,S t y->X n ck (λe=>k e (u t e)) y v R):X n ck (λe=>f e>>=k e) x v R:=by obtain⟨t,y,h,d⟩:=h1;exact X.go d (h2 t y h)
noncomputable def sv{β a:Type}(v:a->En->β):a ⊕ a->En->ForInStep β
 |.inl t,e=>.yield (v t e)
 |.inr t,e=>.done (v t e)
def sR{a:Type}(I J:a->Pu->Prop):a ⊕ a->Pu->Prop
 |.inl t,x=>I t x
 |.inr t,x=>J t x
theorem X.loop{β a:Type}{v:a->En->β}{I:Nat->a->Pu->Prop}{J:a->Pu->Prop}{f:En->Nat->β->StateT Fg Vd (ForInStep β)}(g:∀t x,I 0 t x->J t x):∀(l:List Nat) (t:a) (x:Pu),(∀i∈l,∀(k:Nat) (t:a) (x:Pu),I (k+1) t x->X n ck (λe=>f e i (v t e)) x (sv v) (sR (I k) J))->I l.length t x->X n ck (λe=>forIn l (v t e) (f e)) x v J
 |[],t,x,_,h=>⟨t,x,g t x h,λe o E Q q=>kasC_nil q⟩
 | i :: l,t,x,b,h => by
  obtain⟨r,y,c,d⟩:=b i Au l.length t x h;cases r with
  |inr t'=>exact⟨t',y,c,λe o E Q q=>kasC_cons (d e o E _ q)⟩
  |inl t'=>
   obtain⟨u,z,j,m⟩:=X.loop g l t' y (λi hi=>b i (An _ hi)) c;exact⟨u,z,j,λe o E Q q=>kasC_cons (d e o E _ (m e o E Q q))⟩
def X.range{β g:Type}{v:g->En->β}{I:Nat->g->Pu->Prop}{J:g->Pu->Prop}{f:En->Nat->β->StateT Fg Vd (ForInStep β)}{a b:Nat}{t:g}{x:Pu}{c:En->β}(l:∀t x,I 0 t x->J t x)(m:I (b-a) t x)(j:∀i,a<=i->i<b->∀(k:Nat) (t:g) (x:Pu),I (k+1) t x->X n ck (λe=>f e i (v t e)) x (sv v) (sR (I k) J))(hc:∀e,c e=v t e:=by intro e;rfl):X n ck (λe=>forIn [a:b] (c e) (f e)) x v J:=by
 rw[show c=v t from funext hc];obtain⟨u,z,h,d⟩:=X.loop l (List.range' a (b-a)) t x (λi hi=>by
  have:=List.mem_range'_1.mp hi
  exact j i this.1 (by omega)) (by rw[List.length_range'];exact m)
 exact⟨u,z,h,λe o E Q q=>kasC_range (d e o E Q q)⟩
def X.yield{β b:Type}{v:b->En->β}{I J:b->Pu->Prop}{a:En->β}{x:Pu}(t:b)(h:I t x)(c:∀e,a e=v t e:=by intro e;rfl):X n ck (λe=>Gw (Dv (a e))) x (sv v) (sR I J):=
 X.ret (.inl t) h λe=>by rw[c e];rfl
def X.done{β b:Type}{v:b->En->β}{I J:b->Pu->Prop}{a:En->β}{x:Pu}(t:b)(h:J t x)(c:∀e,a e=v t e:=by intro e;rfl):X n ck (λe=>Gw (ForInStep.done (a e))) x (sv v) (sR I J):=
 X.ret (.inr t) h λe=>by rw[c e];rfl
end
section
variable{n:Nat}{ck:Nat->Nat->Bool}
def X.ite{α d:Type}{c:Prop}{f:En->Decidable c}{a b:En->StateT Fg Vd α}{x:Pu}{v:d->En->α}{R:d->Pu->Prop}(h1:c->X n ck a x v R)(h2:¬c->X n ck b x v R):X n ck (λe=> @_root_.ite _ c (f e) (a e) (b e)) x v R:=by
 by_cases h:c
 ·simpa only[if_pos h]using h1 h
 ·simpa only[if_neg h]using h2 h
def Pm(n:Nat)(p:Array Nat):Prop:=p.toList.Perm (Bf n)
def Pm.sz{p:Array Nat}(h:Pm n p):p.size=n:=by
 have:=h.length_eq
 simpa using this
def Pm.lt{p:Array Nat}(h:Pm n p){i:Nat}(hi:i<n):p.getD i 0<n:=by
 have b:=h.sz;have a:i<p.size:=by lia
 have e:p.getD i 0=p[i]:=by simp[Kx,a]
 rw[e];exact Db.mp (h.mem_iff.mp (by simp))
def Pm.rev{p:Array Nat}(h:Pm n p)(i j:Nat):Pm n (kas_rev p i j):=Jx (Kg.mp (mirror_perm p i j _)) h
def Pm.move{p:Array Nat}(h:Pm n p)(i j:Nat):Pm n (bubble p i j):=Jx (Kg.mp (bubble_perm p i j)) h
def Pm.cmp{x:Pu}(h:Pm n x.p){i j:Nat}(hi:i<n)(a:j<n):D n ck (λ_=>ltAt' i j) x (λ_=>b3 (ck (x.p.getD i 0) (x.p.getD j 0))) x:=
 D.ltAt (by rw[h.sz];exact hi) (by rw[h.sz];exact a) (h.lt hi) (h.lt a)
def X.st{α a:Type}{f:En->StateT Fg Vd α}{x z:Pu}{v:a->En->α}{R:a->Pu->Prop}{P:Pu->Pu->Prop}(h:∀z,P x z->X n ck f z v R)(hz:P x z):X n ck f z v R:=h z hz
def Kp(n:Nat)(x y:Pu):Prop:=Pm n y.p/\y.pd=x.pd
def count{lo m:Nat}{x:Pu}(d:Pm n x.p)(h1:1<=m)(e:lo+m<=n):X n ck (λ_=>countRun' lo m) x (λt _=>b3 t) (λt y=>1<=t/\t<=m/\Kp n x y):=by
 refine X.bind (u:=λ(t:Nat) _=>(b4,t)) (S:=λt y=>1<=t/\t<=m/\y=x) ?_ ?_
 ·refine X.range (I := λk t y => 1 <= t /\ t + k = m /\ y = x) (t := 1) (λt y h => ⟨h.1,by lia,h.2.2⟩) ⟨by lia,by lia,rfl⟩ λi _ _ k t y ⟨b,c,a⟩ => ?_
  subst a;refine X.go (d.cmp (by lia) (by lia)) ?_;refine X.ite (λ_=>X.done t ⟨b,by lia,rfl⟩) λ_=>X.yield (t+1) ⟨by lia,by lia,rfl⟩
 ·rintro t y ⟨b,c,rfl⟩
  have k0:Kp n y y:=⟨d,rfl⟩;refine X.ite (λ_=>X.ret t ⟨b,c,k0⟩) λq0=>?_;have q1:t+1<=m:=by
   have:t≠m:=λz=>q0 (by rw[z];exact beq_self_eq_true _)
   lia
  refine X.ite (λq2=>X.go (d.cmp (by lia) (by lia)) (X.ite (λ_=>X.ret t ⟨b,c,k0⟩) λ_=>X.go D.rev (X.st (P:=Kp n) (x:=y) ?_ ⟨d.rev _ _,rfl⟩))) λq2=>X.st (P:=Kp n) (x:=y) ?_ k0
  all_goals
   intro z hz;refine X.go D.rule ?_;refine X.bind (u:=λ(t:Nat×Nat) _=>(b4,t)) (S:=λt z=>1<=t.1/\t.1<=m/\Kp n y z) ?_ ?_
   ·refine X.range (I := λk t z => 1 <= t.1 /\ t.1 + k = m /\ Kp n y z) (t := (t + 1,0)) (λt y h => ⟨h.1,by lia,h.2.2⟩) ⟨by lia,by dsimp only;lia,hz⟩ λi _ _ k t y ⟨b,c,a⟩ => ?_
    obtain⟨t,q⟩:=t;dsimp only at b c;refine X.go (a.1.cmp (by dsimp only;lia) (by dsimp only;lia)) ?_;refine X.ite (λ_=>X.ite (λ_=>X.go D.rev (X.yield (t+1,0) ⟨by dsimp only;lia,by dsimp only;lia,a.1.rev _ _,a.2⟩)) λ_=>X.yield (t+1,0) ⟨by dsimp only;lia,by dsimp only;lia,a⟩) λ_=>?_;refine X.go (a.1.cmp (by dsimp only;lia) (by dsimp only;lia)) ?_;exact X.ite (λ_=>X.done (t,q) ⟨b,by dsimp only;lia,a⟩) λ_=>X.yield (t+1,q+1) ⟨by dsimp only;lia,by dsimp only;lia,a⟩
   ·rintro ⟨t,q⟩ z ⟨b,c,a⟩
    dsimp only at b c;refine X.ite (λ_=>X.go D.rev (X.st (P:=Kp n) (x:=y) ?_ ⟨a.1.rev _ _,a.2⟩)) λ_=>X.st (P:=Kp n) (x:=y) ?_ a
    all_goals
     intro z hz;refine X.go D.rev ?_;refine X.bind (u:=λ(t:Nat) _=>(b4,t)) (S:=λt z=>1<=t/\t<=m/\Kp n y z) ?_ λt z h=>X.ret t h;refine X.range (I:=λk t z=>1<=t/\t+k=m/\Kp n y z) (t:=t) (λt y h=>⟨h.1,by lia,h.2.2⟩) ⟨by lia,by dsimp only;lia,hz.1.rev _ _,hz.2⟩ λi _ _ k t y ⟨b,c,a⟩=>?_;refine X.go (a.1.cmp (by lia) (by lia)) ?_;exact X.ite (λ_=>X.done t ⟨b,by lia,a⟩) λ_=>X.yield (t+1) ⟨by lia,by lia,a⟩
def bin{lo m ok:Nat}{x:Pu}(c:Pm n x.p)(g:lo+m<=n):X n ck (λ_=>binarySort' lo m ok) x (λ(_:Unit) _=>ba) (λ_ y=>Kp n x y):=by
 refine X.bind (u:=λ(_:Unit) _=>(b4,())) (S:=λ_ y=>Kp n x y) ?_ λt z h=>X.ret () h;refine X.range (I:=λ_ _ z=>Kp n x z) (t:=()) (λt y h=>h) ⟨c,rfl⟩ λj f e k t y b=>?_;refine X.bind (u:=λ(t:Nat×Nat) _=>(b4,t)) (S:=λt z=>t.2<=j/\z=y) ?_ ?_
 ·refine X.range (I := λ_ t z => t.2 <= j /\ z = y) (t := (0,j)) (λt y h => h) ⟨Ar _,rfl⟩ λi _ _ k t z ⟨a,d⟩ => ?_
  obtain⟨l,r⟩:=t;dsimp only at a;subst d;refine X.ite (λ_=>X.done (l,r) ⟨a,rfl⟩) λq=>?_;refine X.go (b.1.cmp (by dsimp only at q⊢;lia) (by dsimp only at q⊢;lia)) ?_;exact X.ite (λ_=>X.yield (l,(l+r)/2) ⟨by dsimp only at q⊢;lia,rfl⟩) λ_=>X.yield ((l+r)/2+1,r) ⟨a,rfl⟩
 ·rintro ⟨l,r⟩ z ⟨a,rfl⟩
  exact X.go D.move (X.yield () ⟨b.1.move _ _,b.2⟩)
end
def C0:Bool->Keyed->Array Keyed->Nat->Nat->Nat->StateT Fg Vd (Option Nat):=sortPriv% PySem.Builtin.gallop
def G3:Array Keyed->Array Keyed->StateT Fg Vd (Array Keyed):=sortPriv% PySem.Builtin.mergeLo
def G2:Array Keyed->Array Keyed->StateT Fg Vd (Array Keyed):=sortPriv% PySem.Builtin.mergeHi
section
variable{n:Nat}{ck:Nat->Nat->Bool}
noncomputable def bey(left:Bool)(key:Nat)(q:Array Nat)(i:Nat)(e:En):StateT Fg Vd (Option Bool):=
 elem' (e.of q) i>>=λz=>if left=ba then lt' z (e.at key)else lt' (e.at key) z>>=λr=>pure (r.map (λb=> !b))
def pQ{left:Bool}{key:Nat}{q:Array Nat}{x:Pu}(hk:key<n){i:Nat}(hi:i<q.size)(a:q.getD i 0<n):∃c,D n ck (bey left key q i) x (λ_=>b3 c) x:=by
 cases left with
 |true=>exact⟨_,D.bind (D.elem hi) (D.lt a hk)⟩
 |false=>exact⟨_,D.bind (D.elem hi) (D.bind (D.lt hk a) D.pure)⟩
def gal{left:Bool}{key:Nat}{q:Array Nat}{b m h:Nat}{x:Pu}(hk:key<n)(j:h<m)(p:b+m<=q.size)(f:∀i,i<q.size->q.getD i 0<n):X n ck (λe=>C0 left (e.at key) (e.of q) b m h) x (λt _=>b3 t) (λt y=>t<=m/\y=x):=by
 have ask:∀i,i<m->∃c,D n ck (bey left key q (b+i)) x (λ_=>b3 c) x:=λi hi=>pQ hk (by lia) (f _ (by lia));obtain⟨c,hc⟩:=ask h j;refine X.go hc ?_;refine X.ite (λ_=>?_) λ_=>?_
 ·refine X.bind (u := λ(t : Nat × Nat) _ => (b4,t)) (S := λt z => z = x) ?_ ?_
  ·refine X.range (I := λ_ t z => z = x) (t := (0,1)) (λt y h => h) rfl λi _ _ k t z g => ?_
   obtain⟨l,o⟩:=t;subst g;refine X.ite (λ_=>X.done (l,o) rfl) λq=>?_;obtain⟨c,hc⟩:=ask (h+o) (by dsimp only at q;lia);exact X.go hc (X.ite (λ_=>X.done (l,o) rfl) λ_=>X.yield (o,2*o+1) rfl)
  ·rintro ⟨l,o⟩ z rfl
   refine X.bind (u:=λ(t:Nat×Nat) _=>(b4,t)) (S:=λt y=>t.2<=m/\y=z) ?_ λt y h=>X.ret t.2 h;refine X.range (I:=λ_ t y=>t.2<=m/\y=z) (t:=(h+l+1,h+min o (m-h))) (λt y h=>h) ⟨by dsimp only;lia,rfl⟩ λi _ _ k t y ⟨a,d⟩=>?_;obtain⟨lo,hi⟩:=t;subst d;dsimp only at a;refine X.ite (λ_=>X.done (lo,hi) ⟨a,rfl⟩) λq=>?_;obtain⟨c,hc⟩:=ask (lo+(hi-lo)/2) (by dsimp only at q;lia);exact X.go hc (X.ite (λ_=>X.yield (lo+(hi-lo)/2+1,hi) ⟨a,rfl⟩) λ_=>X.yield (lo,lo+(hi-lo)/2) ⟨by dsimp only at q⊢;lia,rfl⟩)
 ·refine X.bind (u := λ(t : Nat × Nat) _ => (b4,t)) (S := λt z => z = x) ?_ ?_
  ·refine X.range (I := λ_ t z => z = x) (t := (0,1)) (λt y h => h) rfl λi _ _ k t z g => ?_
   obtain⟨l,o⟩:=t;subst g;refine X.ite (λ_=>X.done (l,o) rfl) λq=>?_;obtain⟨c,hc⟩:=ask (h-o) (by lia);exact X.go hc (X.ite (λ_=>X.done (l,o) rfl) λ_=>X.yield (o,2*o+1) rfl)
  ·rintro ⟨l,o⟩ z rfl
   refine X.bind (u:=λ(t:Nat×Nat) _=>(b4,t)) (S:=λt y=>t.2<=m/\y=z) ?_ λt y h=>X.ret t.2 h;refine X.range (I:=λ_ t y=>t.2<=m/\y=z) (t:=(h+1-min o (h+1),h-l)) (λt y h=>h) ⟨by dsimp only;lia,rfl⟩ λi _ _ k t y ⟨a,d⟩=>?_;obtain⟨lo,hi⟩:=t;subst d;dsimp only at a;refine X.ite (λ_=>X.done (lo,hi) ⟨a,rfl⟩) λq=>?_;obtain⟨c,hc⟩:=ask (lo+(hi-lo)/2) (by dsimp only at q;lia);exact X.go hc (X.ite (λ_=>X.yield (lo+(hi-lo)/2+1,hi) ⟨a,rfl⟩) λ_=>X.yield (lo,lo+(hi-lo)/2) ⟨by dsimp only at q⊢;lia,rfl⟩)
def galE{left:Bool}{key:Nat}{q:Array Nat}{b h:Nat}{m:En->Nat}{x:Pu}(a:Nat)(d:∀e,m e=a)(hk:key<n)(f:h<a)(g:b+a<=q.size)(c:∀i,i<q.size->q.getD i 0<n):X n ck (λe=>C0 left (e.at key) (e.of q) b (m e) h) x (λt _=>b3 t) (λt y=>t<=a/\y=x):=by rw[show m=λ_=>a from funext d];exact gal hk f g c
def X.eqSize{α c:Type}{m:Nat}{q:Array Nat}{a b:En->StateT Fg Vd α}{x:Pu}{v:c->En->α}{R:c->Pu->Prop}(h1:m=q.size->X n ck a x v R)(h2:m≠q.size->X n ck b x v R):X n ck (λe=>if(m==(e.of q).size)=ba then a e else b e) x v R:=by simp only[En.of,Array.size_map];exact X.ite (λh=>h1 (by simpa using h)) λh=>h2 (by simpa using h)
def X.rangeE{β a:Type}{v:a->En->β}{I:Nat->a->Pu->Prop}{J:a->Pu->Prop}{f:En->Nat->β->StateT Fg Vd (ForInStep β)}{b:En->Nat}{t:a}{x:Pu}{c:En->β}(g:Nat)(o:∀e,b e=g)(m:∀t x,I 0 t x->J t x)(p:I g t x)(l:∀(k:Nat) (t:a) (x:Pu),k<g->I (k+1) t x->∀i,X n ck (λe=>f e i (v t e)) x (sv v) (sR (I k) J))(hc:∀e,c e=v t e:=by intro e;rfl):X n ck (λe=>forIn [0:b e] (c e) (f e)) x v J:=by
 rw[show b=λ_=>g from funext o];refine X.range (I:=λk t x=>k<=g/\I k t x) (λt x h=>m t x h.2) ⟨by lia,p⟩ (λi _ _ k t x h=>?_) hc;obtain⟨r,y,j,d⟩:=l k t x (by lia) h.2 i;refine⟨r,y,?_,d⟩;cases r with
 |inl t=>exact⟨by lia,j⟩
 |inr t=>exact j
def jQ:Nat->StateT Fg Vd Unit:=sortPriv% PySem.Builtin.setMinGallop
def D.setMin{g:Nat}{x:Pu}:D n ck (λ_=>jQ g) x (λ_=>()) {x with g:=g}:=D.modify (F:=λ_ s=>_) λe=>rfl
def Iv(a b o:Array Nat)(ia ib:Nat):Prop:=o.toList.Perm (a.toList.take ia++b.toList.take ib)
def IF{a:Array Nat}{i:Nat}(h:i<a.size):a.toList.take (i+1)=a.toList.take i++[a.getD i 0]:=by
 have e:a.getD i 0=a[i]:=by simp[Kx,h]
 rw[e,Sh];simp[h]
def Iv.pushB{a b o:Array Nat}{ia ib:Nat}(h:Iv a b o ia ib)(c:ib<b.size):Iv a b (o.push (b.getD ib 0)) ia (ib+1):=by unfold Iv at h⊢;rw[IF c,Gz,<-Ay];exact h.append_right _
def Iv.pushA{a b o:Array Nat}{ia ib:Nat}(h:Iv a b o ia ib)(c:ia<a.size):Iv a b (o.push (a.getD ia 0)) (ia+1) ib:=by unfold Iv at h⊢;rw[IF c,Gz,Ay];refine(h.append_right _).trans ?_;rw[Ay];exact Dj _ Cq
def LZ(l:List Nat)(i k:Nat):l.take (i+k)=l.take i++(l.take (i+k)).drop i:=by have e:=Dk i (l.take (i+k));rw[Nl,Hv (by lia)]at e;exact e.symm
def XO(a:Array Nat)(i j:Nat):(a.extract i j).toList=(a.toList.take j).drop i:=by simp[Si]
def Iv.extB{a b o:Array Nat}{ia ib:Nat}(h:Iv a b o ia ib)(k:Nat):Iv a b (o++b.extract ib (ib+k)) ia (ib+k):=by unfold Iv at h⊢;rw[LZ b.toList ib k,Cj,XO,<-Ay];exact h.append_right _
def Iv.extA{a b o:Array Nat}{ia ib:Nat}(h:Iv a b o ia ib)(k:Nat):Iv a b (o++a.extract ia (ia+k)) (ia+k) ib:=by unfold Iv at h⊢;rw[LZ a.toList ia k,Cj,XO,Ay];refine(h.append_right _).trans ?_;rw[Ay];exact Dj _ Cq
def OH(a:Array Nat)(i:Nat):(a.extract i a.size).toList=a.toList.drop i:=by rw[XO,show a.size=a.toList.length from rfl,List.take_length]
def Iv.all{a b o:Array Nat}{ia ib:Nat}(h:Iv a b o ia ib):(o.toList++(a.toList.drop ia++b.toList.drop ib)).Perm (a.toList++b.toList):=by refine(h.append_right _).trans ?_;have d:=Dk ia a.toList;have c:=Dk ib b.toList;generalize a.toList.take ia=i at*;generalize a.toList.drop ia=g at*;generalize b.toList.take ib=f at*;generalize b.toList.drop ib=e at*;rw[<-d,<-c,Ay,Ay];refine Dj _ ?_;rw[<-Ay,<-Ay];exact Gq _ Cq
def Iv.done{a b o:Array Nat}{ia ib:Nat}(h:Iv a b o ia ib):(o++a.extract ia a.size++b.extract ib b.size).toList.Perm (a.toList++b.toList):=by rw[Cj,Cj,OH,OH,Ay];exact h.all
def Iv.lastA{a b o:Array Nat}{ia ib:Nat}(h:Iv a b o ia ib):(o++b.extract ib b.size++a.extract ia a.size).toList.Perm (a.toList++b.toList):=by rw[Cj,Cj,OH,OH,Ay];exact(Dj _ Cq).trans h.all
end
section
variable{n:Nat}{ck:Nat->Nat->Bool}
def Sd(x y:Pu):Prop:=y.p=x.p/\y.pd=x.pd
def Al(n:Nat)(a:Array Nat):Prop:=∀i,i<a.size->a.getD i 0<n
def Lf(a b:Array Nat)(x:Pu)(m:Nat)(r:Option (Array Nat))(o:Array Nat)(ia ib:Nat)(y:Pu):Prop:=r=b4/\Iv a b o ia ib/\ia+1<a.size/\ib<b.size/\m<=ia+ib/\Sd x y
def Td(a b:Array Nat)(x:Pu)(r:Option (Array Nat))(y:Pu):Prop:=∃t,r=b3 t/\t.toList.Perm (a.toList++b.toList)/\Sd x y
noncomputable def vG{β:Type}(t:Option (Array Nat)×Array Nat×β)(e:En):Option (Array Keyed)×Array Keyed×β:=(t.1.map e.of,e.of t.2.1,t.2.2)
def aQ(e:En)(o:Array Nat)(i:Nat):(e.of o).push (e.at i)=e.of (o.push i):=by simp[En.of,En.at]
def ZF(e:En)(o:Array Nat)(q:Array Nat):e.of o++e.of q=e.of (o++q):=by simp[En.of]
def ZW(e:En)(o:Array Nat)(i j:Nat):(e.of o).extract i j=e.of (o.extract i j):=by simp[En.of]
def UI(e:En)(o:Array Nat):(e.of o).size=o.size:=by simp[En.of]
def SF(e:En)(o:Array Nat):(e.of o).reverse=e.of o.reverse:=by simp[En.of]
def P9(e:En)(i:Nat): #[e.at i]=e.of #[i]:=by simp[En.of,En.at]
def X.yieldG{β:Type}{tail:β}{o:Array Nat}{O:En->Array Keyed}{I J:Option (Array Nat)×Array Nat×β->Pu->Prop}{y:Pu}(h:I (b4,o,tail) y)(a:∀e,O e=e.of o):X n ck (λe=>Gw (Dv (b4,O e,tail))) y (sv vG) (sR I J):=
 X.yield (b4,o,tail) h λe=>by rw[a];rfl
def X.doneG{β:Type}{tail:β}{o:Array Nat}{O:En->Array Keyed}{I J:Option (Array Nat)×Array Nat×β->Pu->Prop}{y:Pu}(h:J (b4,o,tail) y)(a:∀e,O e=e.of o):X n ck (λe=>Gw (ForInStep.done (b4,O e,tail))) y (sv vG) (sR I J):=
 X.done (b4,o,tail) h λe=>by rw[a];rfl
def X.tellD{β:Type}{tail:β}{a b o:Array Nat}{ia ib:Nat}{O:En->Array Keyed}{I J:Option (Array Nat)×Array Nat×β->Pu->Prop}{x y:Pu}(q:Iv a b o ia ib)(c:Sd x y)(d:∀e,O e=e.of o)(f:∀t,Td a b x t.1 y->J t y):X n ck (λe=>Gw (ForInStep.done (b3 (O e++(e.of a).extract ia (e.of a).size++(e.of b).extract ib (e.of b).size),O e,tail))) y (sv vG) (sR I J):=
 X.done (b3 (o++a.extract ia a.size++b.extract ib b.size),o,tail) (f _ ⟨_,rfl,q.done,c⟩) λe=>by rw[d,UI,UI,ZW,ZW,ZF,ZF];rfl
def X.tellL{β:Type}{tail:β}{a b o:Array Nat}{ia ib:Nat}{O:En->Array Keyed}{I J:Option (Array Nat)×Array Nat×β->Pu->Prop}{x y:Pu}(q:Iv a b o ia ib)(c:Sd x y)(d:∀e,O e=e.of o)(f:∀t,Td a b x t.1 y->J t y):X n ck (λe=>Gw (ForInStep.done (b3 (O e++(e.of b).extract ib (e.of b).size++(e.of a).extract ia (e.of a).size),O e,tail))) y (sv vG) (sR I J):=
 X.done (b3 (o++b.extract ib b.size++a.extract ia a.size),o,tail) (f _ ⟨_,rfl,q.lastA,c⟩) λe=>by rw[d,UI,UI,ZW,ZW,ZF,ZF];rfl
def all5{A B C D E:Type}{P:A×B×C×D×E->Prop}(h:∀a b c d e,P (a,b,c,d,e)):∀t,P t:=λ⟨a,b,c,d,e⟩=>h a b c d e
def all6{A B C D E F:Type}{P:A×B×C×D×E×F->Prop}(h:∀a b c d e f,P (a,b,c,d,e,f)):∀t,P t:=λ⟨a,b,c,d,e,f⟩=>h a b c d e f
def all7{A B C D E F G:Type}{P:A×B×C×D×E×F×G->Prop}(h:∀a b c d e f g,P (a,b,c,d,e,f,g)):∀t,P t:=λ⟨a,b,c,d,e,f,g⟩=>h a b c d e f g
def X.join1{α b:Type}{c:Prop}{f:En->Decidable c}{a:En->StateT Fg Vd α}{F:Nat->En->StateT Fg Vd α}{p g:Nat}{x:Pu}{v:b->En->α}{R:b->Pu->Prop}(key:∀g,X n ck (F g) x v R)(d:∀e,a e=F p e):X n ck (λe=> @_root_.ite _ c (f e) (a e) (F g e)) x v R:=X.ite (λ_=>by rw[show a=F p from funext d];exact key p) λ_=>key g
def X.join2{α b:Type}{c:Prop}{g:En->Decidable c}{a:En->StateT Fg Vd α}{F:Array Nat->Nat->En->StateT Fg Vd α}{o:Array Nat}{j:Nat}{x:Pu}{v:b->En->α}{R:b->Pu->Prop}(P:Array Nat->Nat->Prop)(key:∀o j,P o j->X n ck (F o j) x v R)(f:(∀o j,P o j->X n ck (F o j) x v R)->c->X n ck a x v R)(d:P o j):X n ck (λe=> @_root_.ite _ c (g e) (a e) (F o j e)) x v R:=X.ite (f key) λ_=>key _ _ d
def X.cg{α c:Type}{a b:En->StateT Fg Vd α}{x:Pu}{v:c->En->α}{R:c->Pu->Prop}(e:∀e,a e=b e)(h:X n ck b x v R):X n ck a x v R:=by rw[show a=b from funext e];exact h
def oU{a b:Array Nat}{x:Pu}(N:Al n a)(M:Al n b)(a1:1<=a.size)(b1:1<=b.size):X n ck (λe=>G3 (e.of a) (e.of b)) x (λt e=>e.of t) (λt y=>t.toList.Perm (a.toList++b.toList)/\Sd x y):=by
 have K:Iv a b #[b.getD 0 0] 0 1:=by
  have e:Iv a b #[] 0 0:=by unfold Iv;simp
  exact e.pushB (by lia)
 refine X.go D.rule ?_;refine X.go (D.elem (q:=b) (i:=0) (by lia)) ?_;refine X.eqSize (λh=>X.ret (#[b.getD 0 0]++a.extract 0 a.size++b.extract 1 b.size) ⟨K.done,rfl,rfl⟩ λe=>?_) λh=>?_
 ·simp only[<-ZF,<-ZW,UI,P9]
 refine X.eqSize (λh=>X.ret (#[b.getD 0 0]++b.extract 1 b.size++a.extract 0 a.size) ⟨K.lastA,rfl,rfl⟩ λe=>?_) λh2=>?_
 ·simp only[<-ZF,<-ZW,UI,P9]
 refine X.go D.get ?_;have G:∀e:En,(e.of a).size+(e.of b).size=a.size+b.size:=λe=>by simp only[UI]
 refine X.bind (u:=vG) (S:=λt y=>Td a b x t.1 y) ?_ ?_
 ·refine X.rangeE (v := vG) (I := λk t y => Lf a b x (a.size + b.size-k) t.1 t.2.1 t.2.2.1 t.2.2.2.1 y) (t := (b4,#[b.getD 0 0],0,1,x.g)) (a.size + b.size) G ?_ ⟨rfl,K,by dsimp only;lia,by dsimp only;lia,by dsimp only;lia,rfl,rfl⟩ ?_ λe => ?_
  ·rintro t y ⟨_,_,R,Q,P,_⟩
   exact absurd P (by lia)
  ·refine λk => all5 λr o ia ib g y hk c i => ?_
   obtain rfl:=c.1;have h2:=c.2.1;have R:=c.2.2.1;have Q:=c.2.2.2.1;have P:=c.2.2.2.2.1;have Y:=c.2.2.2.2.2;dsimp only at h2 R Q P;dsimp only[vG];refine X.bind (u:=vG) (S:=λt z=>Td a b x t.1 z∨Lf a b x (ia+ib+1) t.1 t.2.1 t.2.2.1 t.2.2.2.1 z) ?_ ?_
   ·refine X.rangeE (v := vG) (I := λk t y => Lf a b x (ia + ib + if k < a.size + b.size then 1 else 0) t.1 t.2.1 t.2.2.1 t.2.2.2.1 y) (t := (b4,o,ia,ib,0,0)) (a.size + b.size) G ?_ ⟨rfl,h2,R,Q,by rw [if_neg (by lia)];exact Ar _,Y⟩ ?_
    ·intro t y h
     rw[if_pos (by lia)]at h;exact .inr h
    ·refine λk => all6 λr o f s ac H y hk c i => ?_
     obtain rfl:=c.1;have A:=c.2.1;have C:=c.2.2.1;have m:=c.2.2.2.1;have E:=c.2.2.2.2.1;have l:=c.2.2.2.2.2;dsimp only at A C m E;dsimp only[vG];have Z:ia+ib<=f+s:=by split at E<;>lia
     refine X.go (D.elem (q:=b) (i:=s) m) (X.go (D.elem (q:=a) (i:=f) (by lia)) (X.go (D.lt (M _ m) (N _ (by lia))) ?_));refine X.ite (λ_=>?_) λ_=>?_
     ·refine X.go (D.elem (q:=b) (i:=s) m) ?_
      have q:=A.pushB m;refine X.eqSize (λ_=>X.tellD q l (λe=>aQ e _ _) λt h=>.inl h) λz=>?_;exact X.ite (λ_=>X.doneG (.inr ⟨rfl,q,C,by dsimp only;lia,by dsimp only;lia,l⟩) λe=>aQ e _ _) λ_=>X.yieldG ⟨rfl,q,C,by dsimp only;lia,by dsimp only;rw[if_pos hk];lia,l⟩ λe=>aQ e _ _
     ·refine X.go (D.elem (q := a) (i := f) (by lia)) ?_
      have q:=A.pushA (show f<a.size by lia);refine X.eqSize (λ_=>X.tellL q l (λe=>aQ e _ _) λt h=>.inl h) λz=>?_;exact X.ite (λ_=>X.doneG (.inr ⟨rfl,q,by dsimp only;lia,m,by dsimp only;lia,l⟩) λe=>aQ e _ _) λ_=>X.yieldG ⟨rfl,q,by dsimp only;lia,m,by dsimp only;rw[if_pos hk];lia,l⟩ λe=>aQ e _ _
   ·refine all6 λr o f s ac H z c => c.elim (λc => ?_) λc => ?_
    ·obtain⟨t,B,L⟩:=c
     dsimp only at B;subst B;exact X.done (b3 t,o,f,s,g) ⟨t,rfl,L⟩
    ·have B:=c.1
     have A:=c.2.1;have C:=c.2.2.1;have m:=c.2.2.2.1;have E:=c.2.2.2.2.1;have l:=c.2.2.2.2.2;dsimp only at B A C m E;subst B;dsimp only[vG];refine X.go D.rule ?_;refine X.bind (u:=vG) (S:=λt z=>Td a b x t.1 z∨Lf a b x (ia+ib+1) t.1 t.2.1 t.2.2.1 t.2.2.2.1 z) ?_ ?_
     ·refine X.rangeE (v := vG) (I := λ_ t y => Lf a b x (ia + ib + 1) t.1 t.2.1 t.2.2.1 t.2.2.2.1 y) (t := (b4,o,f,s,g + 1,ac,H)) (a.size + b.size) G (λt y h => .inr h) ⟨rfl,A,C,m,E,l⟩ ?_
      refine λk=>all7 λr o f s g ac H y hk c i=>?_;obtain rfl:=c.1;have A:=c.2.1;have C:=c.2.2.1;have m:=c.2.2.2.1;have E:=c.2.2.2.2.1;have l:=c.2.2.2.2.2;dsimp only at A C m E;dsimp only[vG];apply X.join1 (p:=g-1) (g:=g);rotate_left
      ·exact λ_=>rfl
      intro g;refine X.go D.setMin (X.go (D.elem (q:=b) (i:=s) m) (X.bind (galE (a.size-f) (λe=>by simp only[UI]) (M _ m) (by lia) (by lia) N) ?_));rintro d z ⟨hd,rfl⟩;dsimp only;apply X.join2 (o:=o) (j:=f) (λo j=>Iv a b o j s/\j+1<a.size/\ia+ib+1<=j+s)
      ·rintro o f ⟨A,C,E⟩
       refine X.go (D.elem (q:=b) (i:=s) m) ?_;have r:=A.pushB m;have J:∀e:En,(e.of o).push (e.at (b.getD s 0))=e.of (o.push (b.getD s 0)):=λe=>aQ e _ _;refine X.eqSize (λ_=>X.tellD r l J λt h=>.inl h) λz3=>?_;refine X.go (D.elem (q:=a) (i:=f) (by lia)) (X.bind (galE (b.size-(s+1)) (λe=>by simp only[UI]) (N _ (by lia)) (by lia) (by lia) M) ?_);rintro U z ⟨W,rfl⟩;refine X.ite (λ_=>?_) λ_=>?_
       ·have u:=r.extB U
        have T:∀e:En,_=e.of _:=λe=>((congrArg (λO=>O++(e.of b).extract (s+1) (s+1+U)) (J e)).trans (by rw[ZW])).trans (ZF e _ _);refine X.eqSize (λ_=>X.tellD u l T λt h=>.inl h) λz4=>?_;refine X.go (D.elem (q:=a) (i:=f) (by lia)) ?_;have w:=u.pushA (show f<a.size by lia);have F:∀e:En,_=e.of _:=λe=>(congrArg (λO=>O.push (e.at (a.getD f 0))) (T e)).trans (aQ e _ _);refine X.eqSize (λ_=>X.tellL w l F λt h=>.inl h) λV=>?_;exact X.ite (λ_=>X.doneG (.inr ⟨rfl,w,by dsimp only;lia,by dsimp only;lia,by dsimp only;lia,l⟩) F) λ_=>X.yieldG ⟨rfl,w,by dsimp only;lia,by dsimp only;lia,by dsimp only;lia,l⟩ F
       ·refine X.go (D.elem (q := a) (i := f) (by lia)) ?_
        have w:=r.pushA (show f<a.size by lia);have F:∀e:En,_=e.of _:=λe=>(congrArg (λO=>O.push (e.at (a.getD f 0))) (J e)).trans (aQ e _ _);refine X.eqSize (λ_=>X.tellL w l F λt h=>.inl h) λV=>?_;exact X.ite (λ_=>X.doneG (.inr ⟨rfl,w,by dsimp only;lia,by dsimp only;lia,by dsimp only;lia,l⟩) F) λ_=>X.yieldG ⟨rfl,w,by dsimp only;lia,by dsimp only;lia,by dsimp only;lia,l⟩ F
      ·intro key _
       have q:=A.extA d;have qO:∀e:En,e.of o++(e.of a).extract f (f+d)=e.of (o++a.extract f (f+d)):=λe=>by rw[ZW,ZF]
       refine X.eqSize (λ_=>X.tellL q l qO λt h=>.inl h) λz1=>X.eqSize (λ_=>X.tellD q l qO λt h=>.inl h) λz2=>?_;exact X.cg (λe=>by rw[qO e];rfl) (key (o++a.extract f (f+d)) (f+d) ⟨q,by lia,by lia⟩)
      ·exact⟨A,C,E⟩
     ·refine all7 λr o f s g ac H z c => c.elim (λc => ?_) λc => ?_
      ·obtain⟨t,B,L⟩:=c
       dsimp only at B;subst B;exact X.done (b3 t,o,f,s,g) ⟨t,rfl,L⟩
      ·have B:=c.1
       have A:=c.2.1;have C:=c.2.2.1;have m:=c.2.2.2.1;have E:=c.2.2.2.2.1;have l:=c.2.2.2.2.2;dsimp only at B A C m E;subst B;dsimp only[vG];refine X.go D.setMin ?_;exact X.yieldG ⟨rfl,A,C,m,by dsimp only;lia,l⟩ λe=>rfl
  ·simp only[P9]
   rfl
 ·refine all5 λr o ia ib g y c => ?_
  obtain⟨t,B,h⟩:=c;dsimp only at B;subst B;exact X.ret t h
end
section
variable{n:Nat}{ck:Nat->Nat->Bool}
def Iw(a b o:Array Nat)(d c:Nat):Prop:=o.toList.Perm (a.toList.drop d++b.toList.drop c)
def GJ{a:Array Nat}{i:Nat}(b:0<i)(h:i<=a.size):a.toList.drop (i-1)=a.getD (i-1) 0::a.toList.drop i:=by
 have h1:i-1<a.size:=by lia
 have e:a.getD (i-1) 0=a[i-1]:=by simp[Kx,h1]
 rw[e,Fy (by simpa using h1),show i-1+1=i by lia];simp
def Iw.pushA{a b o:Array Nat}{c d:Nat}(h:Iw a b o c d)(e:0<c)(h1:c<=a.size):Iw a b (o.push (a.getD (c-1) 0)) (c-1) d:=by unfold Iw at h⊢;rw[GJ e h1,Gz,Iz];exact Cq.trans (Sj _ h)
def Iw.pushB{a b o:Array Nat}{d c:Nat}(h:Iw a b o d c)(e:0<c)(h1:c<=b.size):Iw a b (o.push (b.getD (c-1) 0)) d (c-1):=by unfold Iw at h⊢;rw[GJ e h1,Gz];exact(Cq.trans (Sj _ h)).trans List.perm_middle.symm
def PU(l:List Nat)(i j:Nat)(h:i<=j):l.drop i=(l.take j).drop i++l.drop j:=by have e:=Dk (j-i) (l.drop i);rw[Sk,show i+(j-i)=j by lia,<-Si]at e;exact e.symm
def Iw.extA{a b o:Array Nat}{c d:Nat}(h:Iw a b o c d){t:Nat}(e:t<=c):Iw a b (o++(a.extract t c).reverse) t d:=by unfold Iw at h⊢;rw[PU a.toList t c e,Cj,Ha,XO,Ay];exact Cq.trans (Qt (Ky _) h)
def Iw.extB{a b o:Array Nat}{d c:Nat}(h:Iw a b o d c){t:Nat}(e:t<=c):Iw a b (o++(b.extract t c).reverse) d t:=by unfold Iw at h⊢;rw[PU b.toList t c e,Cj,Ha,XO];generalize (b.toList.take c).drop t=u at*;refine(Qt h (Ky u)).trans ?_;rw[Ay];exact Dj _ Cq
def Iw.all{a b o:Array Nat}{d c:Nat}(h:Iw a b o d c):((a.toList.take d++b.toList.take c)++o.toList.reverse).Perm (a.toList++b.toList):=by refine(Dj _ ((Ky _).trans h)).trans ?_;have f:=Dk d a.toList;have e:=Dk c b.toList;generalize a.toList.take d=k at*;generalize a.toList.drop d=j at*;generalize b.toList.take c=i at*;generalize b.toList.drop c=g at*;rw[<-f,<-e,Ay,Ay];refine Dj _ ?_;rw[<-Ay,<-Ay];exact Gq _ Cq
def JF(a:Array Nat)(i:Nat):(a.extract 0 i).toList=a.toList.take i:=by rw[XO];rfl
def Iw.done{a b o:Array Nat}{d c:Nat}(h:Iw a b o d c):(a.extract 0 d++b.extract 0 c++o.reverse).toList.Perm (a.toList++b.toList):=by rw[Cj,Cj,JF,JF,Ha];exact h.all
def Iw.first{a b o:Array Nat}{d c:Nat}(h:Iw a b o d c):(b.extract 0 c++a.extract 0 d++o.reverse).toList.Perm (a.toList++b.toList):=by rw[Cj,Cj,JF,JF,Ha];exact(Gq _ Cq).trans h.all
def Lh(a b:Array Nat)(x:Pu)(m:Nat)(r:Option (Array Nat))(o:Array Nat)(d c:Nat)(y:Pu):Prop:=r=b4/\Iw a b o d c/\0<d/\d<=a.size/\1<c/\c<=b.size/\d+c<=m/\Sd x y
abbrev HT(β:Type):=Option (Array Nat)×Nat×Nat×Array Nat×β
noncomputable def vH{β:Type}(t:HT β)(e:En):Option (Array Keyed)×Nat×Nat×Array Keyed×β:=(t.1.map e.of,t.2.1,t.2.2.1,e.of t.2.2.2.1,t.2.2.2.2)
def X.yieldH{β:Type}{tail:β}{o:Array Nat}{b a:Nat}{O:En->Array Keyed}{I J:HT β->Pu->Prop}{y:Pu}(h:I (b4,b,a,o,tail) y)(c:∀e,O e=e.of o):X n ck (λe=>Gw (Dv (b4,b,a,O e,tail))) y (sv vH) (sR I J):=
 X.yield (b4,b,a,o,tail) h λe=>by rw[c];rfl
def X.doneH{β:Type}{tail:β}{o:Array Nat}{b a:Nat}{O:En->Array Keyed}{I J:HT β->Pu->Prop}{y:Pu}(h:J (b4,b,a,o,tail) y)(c:∀e,O e=e.of o):X n ck (λe=>Gw (ForInStep.done (b4,b,a,O e,tail))) y (sv vH) (sR I J):=
 X.done (b4,b,a,o,tail) h λe=>by rw[c];rfl
def X.tellE{β:Type}{tail:β}{a b o:Array Nat}{d c:Nat}{O:En->Array Keyed}{I J:HT β->Pu->Prop}{x y:Pu}(q:Iw a b o d c)(f:Sd x y)(g:∀e,O e=e.of o)(h:∀t,Td a b x t.1 y->J t y):X n ck (λe=>Gw (ForInStep.done (b3 ((e.of a).extract 0 d++(e.of b).extract 0 c++(O e).reverse),d,c,O e,tail))) y (sv vH) (sR I J):=
 X.done (b3 (a.extract 0 d++b.extract 0 c++o.reverse),d,c,o,tail) (h _ ⟨_,rfl,q.done,f⟩) λe=>by rw[g,ZW,ZW,SF,ZF,ZF];rfl
def X.tellF{β:Type}{tail:β}{a b o:Array Nat}{d c:Nat}{O:En->Array Keyed}{I J:HT β->Pu->Prop}{x y:Pu}(q:Iw a b o d c)(f:Sd x y)(g:∀e,O e=e.of o)(h:∀t,Td a b x t.1 y->J t y):X n ck (λe=>Gw (ForInStep.done (b3 ((e.of b).extract 0 c++(e.of a).extract 0 d++(O e).reverse),d,c,O e,tail))) y (sv vH) (sR I J):=
 X.done (b3 (b.extract 0 c++a.extract 0 d++o.reverse),d,c,o,tail) (h _ ⟨_,rfl,q.first,f⟩) λe=>by rw[g,ZW,ZW,SF,ZF,ZF];rfl
def X.is{α c:Type}{m k:Nat}{d:En->Decidable ((m==k)=ba)}{a b:En->StateT Fg Vd α}{x:Pu}{v:c->En->α}{R:c->Pu->Prop}(h1:m=k->X n ck a x v R)(h2:m≠k->X n ck b x v R):X n ck (λe=> @_root_.ite _ ((m==k)=ba) (d e) (a e) (b e)) x v R:=
 X.ite (λh=>h1 (by simpa using h)) λh=>h2 (by simpa using h)
def X.iteE{α d:Type}{c:En->Prop}{f:(e:En)->Decidable (c e)}{a b:En->StateT Fg Vd α}{x:Pu}{v:d->En->α}{R:d->Pu->Prop}{c0:Prop}(hc:∀e,c e=c0)(h1:c0->X n ck a x v R)(h2:¬c0->X n ck b x v R):X n ck (λe=> @_root_.ite _ (c e) (f e) (a e) (b e)) x v R:=by obtain rfl:c=λ_=>c0:=funext hc;exact X.ite h1 h2
def hV{a b:Array Nat}{x:Pu}(R:Al n a)(Q:Al n b)(a1:1<=a.size)(b1:1<=b.size):X n ck (λe=>G2 (e.of a) (e.of b)) x (λt e=>e.of t) (λt y=>t.toList.Perm (a.toList++b.toList)/\Sd x y):=by
 have W:Iw a b #[a.getD (a.size-1) 0] (a.size-1) b.size:=by
  have e:Iw a b #[] a.size b.size:=by unfold Iw;rw[show a.size=a.toList.length from rfl,show b.size=b.toList.length from rfl,He,He];exact .refl _
  exact e.pushA (by lia) (Ar _)
 refine X.go D.rule ?_;simp only[UI];refine X.go (D.elem (q:=a) (i:=a.size-1) (by lia)) ?_;refine X.is (λh=>X.ret (a.extract 0 (a.size-1)++b.extract 0 b.size++ #[a.getD (a.size-1) 0].reverse) ⟨W.done,rfl,rfl⟩ λe=>?_) λh=>?_
 ·simp only[<-ZF,<-ZW,<-SF,P9]
 refine X.is (λh=>X.ret (b.extract 0 b.size++a.extract 0 (a.size-1)++ #[a.getD (a.size-1) 0].reverse) ⟨W.first,rfl,rfl⟩ λe=>?_) λh2=>?_
 ·simp only[<-ZF,<-ZW,<-SF,P9]
 refine X.go D.get ?_;refine X.bind (u:=vH) (S:=λt y=>Td a b x t.1 y) ?_ ?_
 ·refine X.rangeE (v := vH) (I := λk t y => Lh a b x k t.1 t.2.2.2.1 t.2.1 t.2.2.1 y) (t := (b4,a.size-1,b.size,#[a.getD (a.size-1) 0],x.g)) (a.size + b.size) (λe => rfl) ?_ ⟨rfl,W,by dsimp only;lia,by dsimp only;lia,by dsimp only;lia,by dsimp only;lia,by dsimp only;lia,rfl,rfl⟩ ?_ λe => ?_
  ·rintro t y ⟨_,_,h3,h4,Z,h6,h7,_⟩
   exact absurd h7 (by lia)
  ·refine λk => all5 λr na nb o g y hk c i => ?_
   obtain rfl:=c.1;have h2:=c.2.1;have h3:=c.2.2.1;have P:=c.2.2.2.1;have h4:=c.2.2.2.2.1;have N:=c.2.2.2.2.2.1;have Z:=c.2.2.2.2.2.2.1;have h6:=c.2.2.2.2.2.2.2;dsimp only at h2 h3 P h4 N Z;dsimp only[vH];refine X.bind (u:=vH) (S:=λt z=>Td a b x t.1 z∨Lh a b x k t.1 t.2.2.2.1 t.2.1 t.2.2.1 z) ?_ ?_
   ·refine X.rangeE (v := vH) (I := λj t y => Lh a b x (if j < a.size + b.size then k else k + 1) t.1 t.2.2.2.1 t.2.1 t.2.2.1 y) (t := (b4,na,nb,o,0,0)) (a.size + b.size) (λe => rfl) ?_ ⟨rfl,h2,h3,P,h4,N,by rw [if_neg (by lia)];exact Z,h6⟩ ?_
    ·intro t y h
     rw[if_pos (by lia)]at h;exact .inr h
    ·refine λj => all6 λr A s o ac T y hk c i => ?_
     obtain rfl:=c.1;have E:=c.2.1;have F:=c.2.2.1;have m:=c.2.2.2.1;have G:=c.2.2.2.2.1;have l:=c.2.2.2.2.2.1;have H:=c.2.2.2.2.2.2.1;have f:=c.2.2.2.2.2.2.2;dsimp only at E F m G l H;dsimp only[vH];have g5':A+s<=k+1:=by split at H<;>lia
     refine X.go (D.elem (q:=b) (i:=s-1) (by lia)) (X.go (D.elem (q:=a) (i:=A-1) (by lia)) (X.go (D.lt (Q _ (by lia)) (R _ (by lia))) ?_));refine X.ite (λ_=>?_) λ_=>?_
     ·refine X.go (D.elem (q := a) (i := A-1) (by lia)) ?_
      have q:=E.pushA F m;refine X.is (λ_=>X.tellE q f (λe=>aQ e _ _) λt h=>.inl h) λz=>?_;exact X.ite (λ_=>X.doneH (.inr ⟨rfl,q,by dsimp only;lia,by dsimp only;lia,G,l,by dsimp only;lia,f⟩) λe=>aQ e _ _) λ_=>X.yieldH ⟨rfl,q,by dsimp only;lia,by dsimp only;lia,G,l,by dsimp only;rw[if_pos hk];lia,f⟩ λe=>aQ e _ _
     ·refine X.go (D.elem (q := b) (i := s-1) (by lia)) ?_
      have q:=E.pushB (by lia) l;refine X.is (λ_=>X.tellF q f (λe=>aQ e _ _) λt h=>.inl h) λz=>?_;exact X.ite (λ_=>X.doneH (.inr ⟨rfl,q,F,m,by dsimp only;lia,by dsimp only;lia,by dsimp only;lia,f⟩) λe=>aQ e _ _) λ_=>X.yieldH ⟨rfl,q,F,m,by dsimp only;lia,by dsimp only;lia,by dsimp only;rw[if_pos hk];lia,f⟩ λe=>aQ e _ _
   ·refine all6 λr A s o ac T z c => c.elim (λc => ?_) λc => ?_
    ·obtain⟨t,C,Y⟩:=c
     dsimp only at C;subst C;exact X.done (b3 t,A,s,o,g) ⟨t,rfl,Y⟩
    ·have C:=c.1
     have E:=c.2.1;have F:=c.2.2.1;have m:=c.2.2.2.1;have G:=c.2.2.2.2.1;have l:=c.2.2.2.2.2.1;have H:=c.2.2.2.2.2.2.1;have f:=c.2.2.2.2.2.2.2;dsimp only at C E F m G l H;subst C;dsimp only[vH];refine X.go D.rule ?_;refine X.bind (u:=vH) (S:=λt z=>Td a b x t.1 z∨Lh a b x k t.1 t.2.2.2.1 t.2.1 t.2.2.1 z) ?_ ?_
     ·refine X.rangeE (v := vH) (I := λ_ t y => Lh a b x k t.1 t.2.2.2.1 t.2.1 t.2.2.1 y) (t := (b4,A,s,o,g + 1,ac,T)) (a.size + b.size) (λe => rfl) (λt y h => .inr h) ⟨rfl,E,F,m,G,l,H,f⟩ ?_
      refine λj=>all7 λr A s o g ac T y hk c i=>?_;obtain rfl:=c.1;have E:=c.2.1;have F:=c.2.2.1;have m:=c.2.2.2.1;have G:=c.2.2.2.2.1;have l:=c.2.2.2.2.2.1;have H:=c.2.2.2.2.2.2.1;have f:=c.2.2.2.2.2.2.2;dsimp only at E F m G l H;dsimp only[vH];apply X.join1 (p:=g-1) (g:=g);rotate_left
      ·exact λ_=>rfl
      intro g;refine X.go D.setMin (X.go (D.elem (q:=b) (i:=s-1) (by lia)) (X.bind (gal (Q _ (by lia)) (by lia) (by lia) R) ?_));rintro d z ⟨hd,rfl⟩;refine X.ite (λ_=>?_) λ_=>?_
      ·have q:=E.extA hd
       have qO:∀e:En,e.of o++((e.of a).extract d A).reverse=e.of (o++(a.extract d A).reverse):=λe=>by rw[ZW,SF,ZF]
       refine X.is (λ_=>X.tellE q f qO λt h=>.inl h) λz1=>?_;refine X.go (D.elem (q:=b) (i:=s-1) (by lia)) ?_;have r:=q.pushB (show 0<s by lia) l;have K:∀e:En,_=e.of _:=λe=>(congrArg (λO=>O.push (e.at (b.getD (s-1) 0))) (qO e)).trans (aQ e _ _);refine X.is (λ_=>X.tellF r f K λt h=>.inl h) λz3=>?_;refine X.go (D.elem (q:=a) (i:=d-1) (by lia)) (X.bind (gal (R _ (by lia)) (by lia) (by lia) Q) ?_);rintro M z ⟨L,rfl⟩;refine X.ite (λ_=>?_) λ_=>?_
       ·have u:=r.extB L
        have J:∀e:En,_=e.of _:=λe=>((congrArg (λO=>O++((e.of b).extract M (s-1)).reverse) (K e)).trans (by rw[ZW,SF])).trans (ZF e _ _);refine X.is (λ_=>X.tellF u f J λt h=>.inl h) λz4=>X.is (λ_=>X.tellE u f J λt h=>.inl h) λV=>?_;refine X.go (D.elem (q:=a) (i:=d-1) (by lia)) ?_;have w:=u.pushA (show 0<d by lia) (by lia);have B:∀e:En,_=e.of _:=λe=>(congrArg (λO=>O.push (e.at (a.getD (d-1) 0))) (J e)).trans (aQ e _ _);refine X.is (λ_=>X.tellE w f B λt h=>.inl h) λU=>?_;exact X.iteE (c0:=(decide (A-d<7)&&decide (s-1-M<7))=ba) (λe=>rfl) (λ_=>X.doneH (.inr ⟨rfl,w,by dsimp only;lia,by dsimp only;lia,by dsimp only;lia,by dsimp only;lia,by dsimp only;lia,f⟩) B) λ_=>X.yieldH ⟨rfl,w,by dsimp only;lia,by dsimp only;lia,by dsimp only;lia,by dsimp only;lia,by dsimp only;lia,f⟩ B
       ·skip
        refine X.go (D.elem (q:=a) (i:=d-1) (by lia)) ?_;have w:=r.pushA (show 0<d by lia) (by lia);have B:∀e:En,_=e.of _:=λe=>(congrArg (λO=>O.push (e.at (a.getD (d-1) 0))) (K e)).trans (aQ e _ _);refine X.is (λ_=>X.tellE w f B λt h=>.inl h) λU=>?_;exact X.iteE (c0:=(decide (A-d<7)&&decide (s-1-M<7))=ba) (λe=>rfl) (λ_=>X.doneH (.inr ⟨rfl,w,by dsimp only;lia,by dsimp only;lia,by dsimp only;lia,by dsimp only;lia,by dsimp only;lia,f⟩) B) λ_=>X.yieldH ⟨rfl,w,by dsimp only;lia,by dsimp only;lia,by dsimp only;lia,by dsimp only;lia,by dsimp only;lia,f⟩ B
      ·have qO : ∀ e : En,e.of o = e.of o := λe => rfl
       refine X.go (D.elem (q:=b) (i:=s-1) (by lia)) ?_;have r:=E.pushB (show 0<s by lia) l;have K:∀e:En,_=e.of _:=λe=>(congrArg (λO=>O.push (e.at (b.getD (s-1) 0))) (qO e)).trans (aQ e _ _);refine X.is (λ_=>X.tellF r f K λt h=>.inl h) λz3=>?_;refine X.go (D.elem (q:=a) (i:=A-1) (by lia)) (X.bind (gal (R _ (by lia)) (by lia) (by lia) Q) ?_);rintro M z ⟨L,rfl⟩;refine X.ite (λ_=>?_) λ_=>?_
       ·have u:=r.extB L
        have J:∀e:En,_=e.of _:=λe=>((congrArg (λO=>O++((e.of b).extract M (s-1)).reverse) (K e)).trans (by rw[ZW,SF])).trans (ZF e _ _);refine X.is (λ_=>X.tellF u f J λt h=>.inl h) λz4=>X.is (λ_=>X.tellE u f J λt h=>.inl h) λV=>?_;refine X.go (D.elem (q:=a) (i:=A-1) (by lia)) ?_;have w:=u.pushA (show 0<A by lia) (by lia);have B:∀e:En,_=e.of _:=λe=>(congrArg (λO=>O.push (e.at (a.getD (A-1) 0))) (J e)).trans (aQ e _ _);refine X.is (λ_=>X.tellE w f B λt h=>.inl h) λU=>?_;exact X.iteE (c0:=(decide (A-d<7)&&decide (s-1-M<7))=ba) (λe=>rfl) (λ_=>X.doneH (.inr ⟨rfl,w,by dsimp only;lia,by dsimp only;lia,by dsimp only;lia,by dsimp only;lia,by dsimp only;lia,f⟩) B) λ_=>X.yieldH ⟨rfl,w,by dsimp only;lia,by dsimp only;lia,by dsimp only;lia,by dsimp only;lia,by dsimp only;lia,f⟩ B
       ·skip
        refine X.go (D.elem (q:=a) (i:=A-1) (by lia)) ?_;have w:=r.pushA (show 0<A by lia) (by lia);have B:∀e:En,_=e.of _:=λe=>(congrArg (λO=>O.push (e.at (a.getD (A-1) 0))) (K e)).trans (aQ e _ _);refine X.is (λ_=>X.tellE w f B λt h=>.inl h) λU=>?_;exact X.iteE (c0:=(decide (A-d<7)&&decide (s-1-M<7))=ba) (λe=>rfl) (λ_=>X.doneH (.inr ⟨rfl,w,by dsimp only;lia,by dsimp only;lia,by dsimp only;lia,by dsimp only;lia,by dsimp only;lia,f⟩) B) λ_=>X.yieldH ⟨rfl,w,by dsimp only;lia,by dsimp only;lia,by dsimp only;lia,by dsimp only;lia,by dsimp only;lia,f⟩ B
     ·refine all7 λr A s o g ac T z c => c.elim (λc => ?_) λc => ?_
      ·obtain⟨t,C,Y⟩:=c
       dsimp only at C;subst C;exact X.done (b3 t,A,s,o,g) ⟨t,rfl,Y⟩
      ·have C:=c.1
       have E:=c.2.1;have F:=c.2.2.1;have m:=c.2.2.2.1;have G:=c.2.2.2.2.1;have l:=c.2.2.2.2.2.1;have H:=c.2.2.2.2.2.2.1;have f:=c.2.2.2.2.2.2.2;dsimp only at C E F m G l H;subst C;dsimp only[vH];refine X.go D.setMin ?_;exact X.yieldH ⟨rfl,E,F,m,G,l,H,f⟩ λe=>rfl
  ·simp only[P9]
   rfl
 ·refine all5 λr na nb o g y c => ?_
  obtain⟨t,C,h⟩:=c;dsimp only at C;subst C;exact X.ret t h
end
section
variable{n:Nat}{ck:Nat->Nat->Bool}
def Ch:List (Nat×Nat×Nat)->Nat->Nat->Prop
 |[],s,e=>s=e
 |u::l,s,e=>u.1=s/\1<=u.2.1/\Ch l (s+u.2.1) e
theorem Ch.le:∀{l:List (Nat×Nat×Nat)}{s e:Nat},Ch l s e->s<=e
 |[],s,e,h=>Nat.le_of_eq h
 |u::l,s,e,h=>by have:=Ch.le h.2.2;lia
theorem Ch.two:∀{l:List (Nat×Nat×Nat)}{s e i:Nat}{u v:Nat×Nat×Nat},Ch l s e->l[i]?=b3 u->l[i+1]?=b3 v->v.1=u.1+u.2.1/\1<=u.2.1/\1<=v.2.1/\v.1+v.2.1<=e
 |[],s,e,i,u,v,h,h1,h2=>by simp at h1
 |[w],s,e,i,u,v,h,h1,h2=>by simp at h2
 |w::a::l,s,e,0,u,v,h,h1,h2=>by
  simp at h1 h2;subst h1 h2;obtain⟨f,c,d,a4,b⟩:=h;have:=b.le
  exact⟨by lia,c,a4,by lia⟩
 |w::a::l,s,e,i+1,u,v,h,h1,h2=>by exact Ch.two (l:=a::l) h.2.2 (by simpa using h1) (by simpa using h2)
theorem Ch.join:∀{l:List (Nat×Nat×Nat)}{s e i:Nat}{u v:Nat×Nat×Nat},Ch l s e->l[i]?=b3 u->l[i+1]?=b3 v->Ch ((l.set i (u.1,u.2.1+v.2.1,u.2.2)).eraseIdx (i+1)) s e
 |[],s,e,i,u,v,h,h1,h2=>by simp at h1
 |[w],s,e,i,u,v,h,h1,h2=>by simp at h2
 |w::a::l,s,e,0,u,v,h,h1,h2=>by simp at h1 h2;subst h1 h2;obtain⟨d,g,f,a4,b⟩:=h;exact⟨d,by dsimp only;lia,by rw[Tn]at b;exact b⟩
 |w::a::l,s,e,i+1,u,v,h,h1,h2=>by have c:=Ch.join (l:=a::l) h.2.2 (by simpa using h1) (by simpa using h2);exact⟨h.1,h.2.1,c⟩
theorem Ch.more:∀{l:List (Nat×Nat×Nat)}{s e m:Nat},Ch l s e->1<=m->Ch (l++[(e,m,0)]) s (e+m)
 |[],s,e,m,h,h1=>⟨h.symm,h1,by rw[h];rfl⟩
 |u::l,s,e,m,h,h1=>⟨h.1,h.2.1,Ch.more h.2.2 h1⟩
theorem Ch.mod{f:Nat×Nat×Nat->Nat×Nat×Nat}(a:∀u,(f u).1=u.1/\(f u).2.1=u.2.1):∀{l:List (Nat×Nat×Nat)}{s e:Nat}(i:Nat),Ch l s e->Ch (l.modify i f) s e
 |[],s,e,i,h=>by simpa using h
 |u::l,s,e,0,h=>by rw[List.modify_zero_cons];exact⟨(a u).1.trans h.1,by rw[(a u).2];exact h.2.1,by rw[(a u).2];exact h.2.2⟩
 |u::l,s,e,i+1,h=>by rw[List.modify_succ_cons];exact⟨h.1,h.2.1,Ch.mod a i h.2.2⟩
def put{α:Type}(p:Array α)(s:Nat)(l:List α)(k:Nat):Array α:=(l.zipIdx k).foldl (λa x=>a.setIfInBounds (s+x.2) x.1) p
theorem DQ{α β:Type}(f:α->β)(s:Nat):∀(l:List α) (k:Nat) (p:Array α),put (p.map f) s (l.map f) k=(put p s l k).map f
 |[],k,p=>rfl
 |q::l,k,p=>by
  have e:(p.map f).setIfInBounds (s+k) (f q)=(p.setIfInBounds (s+k) q).map f:=by simp
  show put ((p.map f).setIfInBounds (s+k) (f q)) s (l.map f) (k+1)=_;rw[e];exact DQ f s l (k+1) _
theorem HK{α:Type}(s:Nat):∀(l:List α) (k:Nat) (p:Array α),s+k+l.length<=p.size->(put p s l k).toList=p.toList.take (s+k)++l++p.toList.drop (s+k+l.length)
 |[],k,p,h=>by simp[put]
 | q :: l,k,p,h => by
  simp only[Bx]at h;have a:=HK s l (k+1) (p.setIfInBounds (s+k) q) (by simp;lia);show(put (p.setIfInBounds (s+k) q) s l (k+1)).toList=_;have hk:s+k<p.toList.length:=by simp;lia
  rw[a,Array.toList_setIfInBounds,show s+(k+1)=s+k+1 by lia,List.drop_set_of_lt (by lia),List.take_set,Sh,Cs hk];simp only[Bx,Option.toList_some];rw[show s+k+(l.length+1)=s+k+1+l.length by lia];have b:(p.toList.take (s+k)++[p.toList[s+k]]).set (s+k) q=p.toList.take (s+k)++[q]:=by
   have c:(p.toList.take (s+k)).length=s+k:=by rw[Cr];lia
   rw[Fu _ _ (by lia),c,Km];rfl
  rw[b];simp
def Wf(n:Nat)(lo:Nat)(x:Pu):Prop:=Pm n x.p/\Ch x.pd.toList 0 lo/\lo<=n
def Pm.put{p:Array Nat}(b:Pm n p){s m e:Nat}{t:Array Nat}(h1:s<=m)(h2:m<=e)(i:e<=n)(a:t.toList.Perm ((p.extract s m).toList++(p.extract m e).toList)):Pm n (TS.put p s t.toList 0):=by
 have h:=b.sz;have hl:t.toList.length=e-s:=by rw[a.length_eq];simp;lia
 unfold Pm;rw[HK s t.toList 0 p (by lia)];refine Jx ?_ b;rw[hl,show s+0+(e-s)=e by lia,Nat.add_zero];have g:=Dk e p.toList;have d:=Dk s (p.toList.take e);have c:=PU (p.toList.take e) s m h1;rw[Nl,Hv h2]at c;rw[Nl,Hv (by lia)]at d;rw[XO,XO,<-c]at a;have f:p.toList=p.toList.take s++(p.toList.take e).drop s++p.toList.drop e:=by rw[d,g]
 refine Jx (Gq _ (Dj _ a)) ?_;rw[<-f]
def D.set{F:En->Fg}{x y:Pu}(h:∀e,F e=B0 e y):D n ck (λe=>(MonadStateOf.set (F e):StateT Fg Vd PUnit)) x (λ_=>⟨⟩) y:=λe _ E Q q=>by show kasC _ _ _ (MonadStateOf.set (F e):StateT Fg Vd PUnit) Q _ _;rw[h e];unfold kasC;exact Aj q
def pO{a b:Array Nat}{x:Pu}{A B:En->Array Keyed}(g:∀e,A e=e.of a)(f:∀e,B e=e.of b)(d:Al n a)(c:Al n b)(i:1<=a.size)(h:1<=b.size):X n ck (λe=>G3 (A e) (B e)) x (λt e=>e.of t) (λt y=>t.toList.Perm (a.toList++b.toList)/\Sd x y):=by rw[show A=λe=>e.of a from funext g,show B=λe=>e.of b from funext f];exact oU d c i h
def qy{a b:Array Nat}{x:Pu}{A B:En->Array Keyed}(g:∀e,A e=e.of a)(f:∀e,B e=e.of b)(d:Al n a)(c:Al n b)(i:1<=a.size)(h:1<=b.size):X n ck (λe=>G2 (A e) (B e)) x (λt e=>e.of t) (λt y=>t.toList.Perm (a.toList++b.toList)/\Sd x y):=by rw[show A=λe=>e.of a from funext g,show B=λe=>e.of b from funext f];exact hV d c i h
def Pm.al{p:Array Nat}(h:Pm n p):Al n p:=λi hi=>h.lt (by rw[<-h.sz];exact hi)
def Al.ext{p:Array Nat}(h:Al n p)(i j:Nat):Al n (p.extract i j):=λk hk=>by
 have a:k<min j p.size-i:=by simpa using hk
 have e:(p.extract i j).getD k 0=p.getD (i+k) 0:=by
  have h1:i+k<p.size:=by lia
  have c:p.getD (i+k) 0=p[i+k]:=by simp[Kx,h1]
  have b:(p.extract i j).getD k 0=(p.extract i j)[k]:=by simp[Kx,a]
  rw[c,b,Array.getElem_extract]
 rw[e];exact h _ (by lia)
def Vp{i lo:Nat}{x:Pu}(h:Wf n lo x)(hi:i+1<x.pd.size):X n ck (λ_=>mergeAt' i) x (λ(_:Unit) _=>ba) (λ_ y=>Wf n lo y):=by
 obtain⟨f,hc,hl⟩:=h;have hsz:=f.sz;obtain⟨c,j,pw,I⟩:∃c j pw,x.pd[i]'(by lia)=(c,j,pw):=⟨_,_,_,rfl⟩;obtain⟨d,l,qw,H⟩:∃d l qw,x.pd[i+1]'hi=(d,l,qw):=⟨_,_,_,rfl⟩;have G:x.pd[i]?=b3 (c,j,pw):=by rw[<-I];simp
 have F:x.pd[i+1]?=b3 (d,l,qw):=by rw[<-H];simp
 have r:x.pd.toList[i]?=b3 (c,j,pw):=by rw[<-G];simp
 have o:x.pd.toList[i+1]?=b3 (d,l,qw):=by rw[<-F];simp
 obtain⟨O,N,M,L⟩:=hc.two r o;dsimp only at O N M L;have E:=hc.join r o;dsimp only at E;have u:Wf n lo {x with pd:=(x.pd.setIfInBounds i (c,j+l,pw)).eraseIdxIfInBounds (i+1)}:=⟨f,by show Ch ((x.pd.setIfInBounds i (c,j+l,pw)).eraseIdxIfInBounds (i+1)).toList 0 lo;rw[show((x.pd.setIfInBounds i (c,j+l,pw)).eraseIdxIfInBounds (i+1)).toList=(x.pd.toList.set i (c,j+l,pw)).eraseIdx (i+1) by simp[Kv,hi]];exact E,hl⟩
 generalize C:({x with pd:=(x.pd.setIfInBounds i (c,j+l,pw)).eraseIdxIfInBounds (i+1)}:Pu)=y at u;refine X.go D.get ?_;have B:∀e:En,pendingOf (B0 e x)=x.pd:=λe=>rfl;simp only[B,G,F];refine X.go (D.set (y:=y) λe=>by rw[<-C];rfl) ?_;have v:y.p=x.p:=by rw[<-C]
 refine X.go (D.elem (q:=x.p) (i:=d) (by lia)) (X.bind (gal (f.lt (by lia)) (by lia) (by lia) f.al) ?_);rintro k z ⟨hk,rfl⟩;refine X.is (λ_=>X.ret () u) λK=>?_;refine X.go (D.elem (q:=x.p) (i:=c+k+(j-k)-1) (by lia)) (X.bind (gal (f.lt (by lia)) (by lia) (by lia) f.al) ?_);rintro m z ⟨P,rfl⟩;refine X.is (λ_=>X.ret () u) λJ=>?_;have A:∀(t:Array Nat) (z':Pu),t.toList.Perm ((x.p.extract (c+k) d).toList++(x.p.extract d (d+m)).toList)->Sd z z'->Wf n lo {z' with p:=TS.put z'.p (c+k) t.toList 0}:=λt z' w s=>by refine⟨?_,by rw[s.2];exact u.2.1,hl⟩;rw[s.1,v];exact f.put (by lia) (by lia) (by lia) w
 have WM:∀(e:En) (t:Array Nat) (z':Pu),((e.of t).toList.zipIdx.foldl (λa x=>a.setIfInBounds (c+k+x.2) x.1) (e.of z'.p))=e.of (TS.put z'.p (c+k) t.toList 0):=λe t z'=>by have h:=DQ (Jh e.it) (c+k) t.toList 0 z'.p;rw[show t.toList.map (Jh e.it)=(e.of t).toList by simp[En.of]]at h;exact h
 refine X.ite (λ_=>X.bind (pO (a:=x.p.extract (c+k) d) (b:=x.p.extract d (d+m)) (λe=>ZW e _ _ _) (λe=>ZW e _ _ _) (f.al.ext _ _) (f.al.ext _ _) (by simp;lia) (by simp;lia)) ?_) λ_=>X.bind (qy (a:=x.p.extract (c+k) d) (b:=x.p.extract d (d+m)) (λe=>ZW e _ _ _) (λe=>ZW e _ _ _) (f.al.ext _ _) (f.al.ext _ _) (by simp;lia) (by simp;lia)) ?_
 all_goals
  rintro t z' ⟨w,s⟩;refine X.go (D.modify (y:={z' with p:=TS.put z'.p (c+k) t.toList 0}) λe=>?_) (X.go D.get (X.ret () (A t z' w s)));show Jj e.κ ((e.of t).toList.zipIdx.foldl (λa x=>a.setIfInBounds (c+k+x.2) x.1) (e.of z'.p)) z'.pd z'.g b4=_;rw[WM];rfl
end
section
variable{n:Nat}{ck:Nat->Nat->Bool}
theorem Wf.pw{x:Pu}{lo:Nat}(h:Wf n lo x)(i pw:Nat):Wf n lo {x with pd:=x.pd.modify i λu=>(u.1,u.2.1,pw)}:=by refine⟨h.1,?_,h.2.2⟩;show Ch (x.pd.modify i λu=>(u.1,u.2.1,pw)).toList 0 lo;rw[Array.toList_modify];exact Ch.mod (f:=λu=>(u.1,u.2.1,pw)) (λu=>⟨rfl,rfl⟩) i h.2.1
def Wf.more{x:Pu}{lo m:Nat}(h:Wf n lo x)(h1:1<=m)(h2:lo+m<=n):Wf n (lo+m) {x with pd:=x.pd.push (lo,m,0)}:=by refine⟨h.1,?_,h2⟩;show Ch (x.pd.push (lo,m,0)).toList 0 (lo+m);rw[Gz];exact h.2.1.more h1
def runs{x:Pu}(h:Wf n 0 x):X n ck (λ_=>sortRuns') x (λ(_:Unit) _=>()) (λ_ y=>Pm n y.p):=by
 refine X.go D.get ?_;have G:∀e:En,(arrOf (B0 e x)).size=n:=λe=>by show(e.of x.p).size=n;rw[UI,h.1.sz]
 have f:∀(e:En) (y:Pu),pendingOf (B0 e y)=y.pd:=λe y=>rfl;simp only[G];generalize (sortPriv% PySem.Builtin.minRun) n n 0=o;refine X.bind (u:=λ(t:Nat) _=>(b4,t)) (S:=λt y=>Wf n t y) ?_ ?_
 ·refine X.range (I := λ_ t y => Wf n t y) (t := 0) (λt y h => h) h λi _ _ k lo y hw => ?_
  refine X.ite (λ_=>X.done lo hw) λq=>?_;dsimp only at q;refine X.bind (count hw.1 (by dsimp only;omega) (by dsimp only;omega)) ?_;rintro m z ⟨M,L,hz⟩;have g:Wf n lo z:=⟨hz.1,by rw[hz.2];exact hw.2.1,hw.2.2⟩;dsimp only at L;have last:∀(m:Nat) (z:Pu),1<=m->lo+m<=n->Wf n lo z->1<=m/\lo+m<=n/\Wf n lo z:=λm z a b c=>⟨a,b,c⟩;refine X.ite (λ_=>X.go D.rule (X.bind (bin g.1 (by dsimp only;omega)) λ_ C A=>X.ite (λl=>absurd l (by simp)) λ_=>?_)) λ_=>?_
  ·have w := last (min (n-lo) o) C (by omega) (by omega) ⟨A.1,by rw [A.2];exact g.2.1,g.2.2⟩
   obtain⟨v,s,r⟩:=w;refine X.go D.get ?_;simp only[f];cases O:C.pd.back? with
   |none=>exact X.go (D.modify (y:={C with pd:=C.pd.push (lo,(min (n-lo) o),0)}) λe=>rfl) (X.yield (lo+(min (n-lo) o)) (r.more v s))
   |some u=>
    obtain⟨s1,j,q1⟩:=u;dsimp only;generalize E:(sortPriv% PySem.Builtin.power) n (2*s1+j) (2*s1+j+j+min (n-lo) o) n=pw;refine X.bind (u:=λ(_:Unit) _=>(b4,())) (S:=λ_ y=>Wf n lo y) ?_ λ_ y d=>?_
    ·refine X.range (I := λ_ _ y => Wf n lo y) (t := ()) (λt y h => h) r λi _ _ k _ y d => ?_
     refine X.go D.get ?_;simp only[f];by_cases B:y.pd.size>1
     ·rw[if_pos B]
      cases N:y.pd[y.pd.size-2]? with
      |none=>exact X.done () d
      |some u=>
       obtain⟨K,J,H⟩:=u;dsimp only;exact X.ite (λ_=>X.done () d) λ_=>X.bind (Vp d (by omega)) λ_ y h=>X.ite (λl=>absurd l (by simp)) λ_=>X.yield () h
     ·rw[if_neg B]
      exact X.done () d
    ·refine X.go (D.modify (y := { y with pd := y.pd.modify (y.pd.size-1) λu => (u.1,u.2.1,pw) }) λe => rfl) ?_
     exact X.go (D.modify (y:={y with pd:=(y.pd.modify (y.pd.size-1) λu=>(u.1,u.2.1,pw)).push (lo,(min (n-lo) o),0)}) λe=>rfl) (X.yield (lo+min (n-lo) o) ((d.pw _ pw).more v s))
  ·have w := last m z M (by omega) g
   obtain⟨v,s,r⟩:=w;refine X.go D.get ?_;simp only[f];cases O:z.pd.back? with
   |none=>exact X.go (D.modify (y:={z with pd:=z.pd.push (lo,m,0)}) λe=>rfl) (X.yield (lo+m) (r.more v s))
   |some u=>
    obtain⟨s1,j,q1⟩:=u;dsimp only;generalize E:(sortPriv% PySem.Builtin.power) n (2*s1+j) (2*s1+j+j+m) n=pw;refine X.bind (u:=λ(_:Unit) _=>(b4,())) (S:=λ_ y=>Wf n lo y) ?_ λ_ y d=>?_
    ·refine X.range (I := λ_ _ y => Wf n lo y) (t := ()) (λt y h => h) r λi _ _ k _ y d => ?_
     refine X.go D.get ?_;simp only[f];by_cases B:y.pd.size>1
     ·rw[if_pos B]
      cases N:y.pd[y.pd.size-2]? with
      |none=>exact X.done () d
      |some u=>
       obtain⟨K,J,H⟩:=u;dsimp only;exact X.ite (λ_=>X.done () d) λ_=>X.bind (Vp d (by omega)) λ_ y h=>X.ite (λl=>absurd l (by simp)) λ_=>X.yield () h
     ·rw[if_neg B]
      exact X.done () d
    ·refine X.go (D.modify (y := { y with pd := y.pd.modify (y.pd.size-1) λu => (u.1,u.2.1,pw) }) λe => rfl) ?_
     exact X.go (D.modify (y:={y with pd:=(y.pd.modify (y.pd.size-1) λu=>(u.1,u.2.1,pw)).push (lo,m,0)}) λe=>rfl) (X.yield (lo+m) ((d.pw _ pw).more v s))
 ·intro lo y hw
  refine X.bind (u:=λ(_:Unit) _=>(b4,())) (S:=λ_ y=>Wf n lo y) ?_ λ_ y h=>X.ret () h.1;refine X.range (I:=λ_ _ y=>Wf n lo y) (t:=()) (λt y h=>h) hw λi _ _ k _ y hw=>?_;refine X.go D.get ?_;simp only[f];refine X.ite (λ_=>X.done () hw) λq=>?_;have F:∀(c:Prop) [Decidable c],(if c then y.pd.size-2-1 else y.pd.size-2)+1<y.pd.size:=by intro c _;split<;>omega
  exact X.bind (Vp hw (F _)) λ_ y h=>X.ite (λl=>absurd l (by simp)) λ_=>X.yield () h
end
def Pm.id(n:Nat):Pm n (Bf n).toArray:=by unfold Pm;simp
def xS(n:Nat):Pu:=⟨(Bf n).toArray,#[],7⟩
def HQ(n:Nat)(ck:Nat->Nat->Bool):∃y:Pu,Pm n y.p/\D n ck (λ_=>sortRuns') (xS n) (λ_=>()) y:=by obtain⟨t,y,h,d⟩:=runs (n:=n) (ck:=ck) (x:=xS n) ⟨Pm.id n,rfl,Er _⟩;exact⟨y,h,d⟩
noncomputable def srt(n:Nat)(ck:Nat->Nat->Bool):List Nat:=if 2<=n then(HQ n ck).choose.p.toList else Bf n
def ID(n:Nat)(ck:Nat->Nat->Bool):(srt n ck).Perm (Bf n):=by
 unfold srt;split
 ·exact(HQ n ck).choose_spec.1
 ·exact .refl _
section
variable{prog:Av}{w:Uu}{A:Cc}{E:Uk->Af->Prop}{s:Af}
def BR(vs:List Uk):(Bf vs.length).map (λi=>vs.getD i Value.none)=vs:=by
 refine Pp λi=>?_;by_cases h:i<vs.length
 ·simp[h]
 ·simp[h]
def BZ{a:Ul}{vs:List Uk}{z:Nat}{κ:Rh}{ck:Nat->Nat->Bool}{P:PySem.Fin->Af->Prop}(g:s.heap.get? a=b3 (Hk "list" vs.toArray z))(hz:vs.length<=sizeLine)(hk:2<=vs.length->∀h':Uv,(∀b o,b≠a->s.heap.get? b=b3 o->h'.get? b=b3 o)->∀u:Rh->Af->Prop,u κ {s with heap:=h'}->Uo (Ur prog w) A (keyKind' vs.toArray) u E {s with heap:=h'})(hc:∀h':Uv,(∀b o,b≠a->s.heap.get? b=b3 o->h'.get? b=b3 o)->∀i j,i<vs.length->j<vs.length->∀C:Bool->Af->Prop,C (ck i j) {s with heap:=h'}->Uo (Ur prog w) A (keyLt' κ (vs.getD i Value.none) (vs.getD j Value.none)) C (λ_ _=>False) {s with heap:=h'})(h:P (.done (.ret .none)) {s with heap:=sortedHeap s.heap a vs ((srt vs.length ck).map λi=>vs.getD i Value.none).toArray}):Uo (Ur prog w) A (Ej.«list.sort» ⟨[.ref a],[]⟩) P E s:=by
 have lt:=Aq g;have hsz:vs.toArray.size=vs.length:=by simp
 obtain⟨I,f⟩:∃k,(s.heap.update a (Dg λ_=> #[])).get? a=b3 (Hk "list" #[] k):=⟨_,get?_update_seq g (λ_=> #[])⟩;have keep:∀b o,b≠a->s.heap.get? b=b3 o->(((s.heap.update a (Dg λ_=> #[])).push (Hk "tuple" vs.toArray 0)).push (Hk "list" #[] 0)).get? b=b3 o:=λb o H m=>
  Ae _ (Ae _ (by rw[Nz _ _ _ _ H];exact m))
 have c:(((s.heap.update a (Dg λ_=> #[])).push (Hk "tuple" vs.toArray 0)).push (Hk "list" #[] 0)).get? a=b3 (Hk "list" #[] I):=Ae _ (Ae _ f);have J:∀l:List Uk,l.length=vs.length->l.toArray.size<=sizeLine+1:=λl hl=>by rw[Ak];lia
 rw[list_sort_plain];refine(Ac (listItems_at g rfl ?_));refine(Ac (Ot g rfl ?_ (by rw[Ak];lia) (Er _)));refine(Ac (Ry f rfl ?_));refine(Ac (wpAny_newTuple ?_ (by show vs.length<=_;exact hz)));refine(Ac (wpAny_newList (Bt ?_) (Er _)))
 ·show (Uo (Ur prog w) A _ P E { s with heap := (((s.heap.update a (Dg λ_ => #[])).push (Hk "tuple" vs.toArray 0)).push (Hk "list" #[] 0)) })
  dsimp only;have K:((srt vs.length ck).map λi=>vs.getD i Value.none).length=vs.length:=by rw[Ci,(ID _ _).length_eq,Ih]
  by_cases h2:vs.toArray.size<2
  ·have G : ((srt vs.length ck).map λi => vs.getD i Value.none) = vs := by unfold srt;rw[if_neg (by lia)];exact BR vs
   rw[G]at h;rw[if_pos h2,if_pos h2];refine(Ac (Aj ?_));rw[StateT.run_pure];refine(Ac (Aj ?_));dsimp only;have D:(vs.toArray.zip vs.toArray).map (·.2)=vs.toArray:=by apply Qu.mp;simp;exact List.map_snd_zip (Ar _)
   rw[D];refine(Ac (Ry c rfl (Ac (Ot c rfl ?_ (hsz2:=by rw[Ak];lia)))));simp only[bne_self_eq_false,De,if_false];exact Aj h
  ·rw[if_neg h2,if_neg h2]
   refine(Ac (hk (by lia) _ keep _ ?_));have B:2<=vs.length:=by lia
   have spec:=(HQ vs.length ck).choose_spec;have t:srt vs.length ck=(HQ vs.length ck).choose.p.toList:=by unfold srt;rw[if_pos B]
   generalize (HQ vs.length ck).choose=y at spec t;let e:En:=⟨prog,w,A,{s with heap:=(((s.heap.update a (Dg λ_=> #[])).push (Hk "tuple" vs.toArray 0)).push (Hk "list" #[] 0))},κ,Pt vs⟩
   have r:e.Ok vs.length ck:=λi j hi F C q=>by show Uo (Ur prog w) A (keyLt' κ (Jh (Pt vs) i).1 (Jh (Pt vs) j).1) C _ _;rw[Rz,Rz];exact hc _ keep i j hi F C q
   have n:Jj κ (vs.toArray.zip vs.toArray) #[] 7 b4=B0 e (xS vs.length):=by have q:=kas_range (Pt vs);rw[pairsOf_size]at q;show Jj κ (Pt vs) #[] 7 b4=Jj κ ((List.toArray (Bf vs.length)).map (Jh (Pt vs))) #[] 7 b4;rw[q]
   rw[n];have v:(e.of y.p).map (·.2)=((srt vs.length ck).map λi=>vs.getD i Value.none).toArray:=by apply Qu.mp;rw[t,Array.map_map,Array.toList_map];exact Ju λi _=>by show(Jh (Pt vs) i).2=_;rw[Rz]
   have run:=spec.2 e r E (λ_ d s'=>d=B0 e y/\s'=e.s) ⟨rfl,rfl⟩;refine(Ac (Ce run ?_ λ_ _ x=>x));rintro ⟨⟨⟩,d⟩ s' ⟨rfl,rfl⟩;show(Uo (Ur prog w) A _ P E {s with heap:=(((s.heap.update a (Dg λ_=> #[])).push (Hk "tuple" vs.toArray 0)).push (Hk "list" #[] 0))});dsimp only;rw[show(arrOf (B0 e y))=e.of y.p from rfl,v];refine(Ac (Ry c rfl (Ac (Ot c rfl ?_ (hsz2:=by rw[Ak];lia)))));rw[show failedOf (B0 e y)=b4 from rfl];simp only[bne_self_eq_false,De,if_false];exact Aj h
end
section
variable{prog:Av}{w:Uu}{A:Cc}{E:Uk->Af->Prop}{s:Af}
def IA{l:Ul}{vs:List Uk}{κ:Rh}{ck:Nat->Nat->Bool}{Q:Uk->Af->Prop}(hl:s.heap.IsList l vs.toArray)(hz:vs.length<=sizeLine)(hk:2<=vs.length->∀(A:Cc) (E:Uk->Af->Prop) (h':Uv),(∀b o,s.heap.get? b=b3 o->h'.get? b=b3 o)->∀e:Rh->Af->Prop,e κ {s with heap:=h'}->Uo (Ur prog w) A (keyKind' vs.toArray) e E {s with heap:=h'})(hc:∀(A:Cc) (h':Uv),(∀b o,s.heap.get? b=b3 o->h'.get? b=b3 o)->∀i j,i<vs.length->j<vs.length->∀C:Bool->Af->Prop,C (ck i j) {s with heap:=h'}->Uo (Ur prog w) A (keyLt' κ (vs.getD i Value.none) (vs.getD j Value.none)) C (λ_ _=>False) {s with heap:=h'})(h:Q (.ref (s.heap.objs.size+1)) {s with heap:=sortedAll s.heap vs ((srt vs.length ck).map λi=>vs.getD i Value.none).toArray}):Uo (Ur prog w) A (call (.builtin "sorted") [.ref l]) Q E s:=by
 refine(Calls.call_function_entry kind_sorted plain_sorted entry_sorted (args_sorted1 _) ?_);unfold Ej.«sorted»;refine(Ac (m:=checkCount "sorted" 1 1 _) (Aj (Ac (collect_list hl (Ac (wpAny_newList ?_ (by exact hz))) hz))));have c:((s.heap.push (Hk "list" #[] 0)).update s.heap.objs.size (Dg (· ++vs.toArray))).objs.size=s.heap.objs.size+1:=by rw[Heap.size_update,size_push']
 have d:(((s.heap.push (Hk "list" #[] 0)).update s.heap.objs.size (Dg (· ++vs.toArray))).push (Hk "list" vs.toArray 0)).get? (s.heap.objs.size+1)=b3 (Hk "list" vs.toArray 0):=by rw[<-c];exact As _ rfl
 have keep:∀b o,s.heap.get? b=b3 o->(((s.heap.push (Hk "list" #[] 0)).update s.heap.objs.size (Dg (· ++vs.toArray))).push (Hk "list" vs.toArray 0)).get? b=b3 o/\b≠s.heap.objs.size+1:=λb o q=>by have a:b<s.heap.objs.size:=Aq q;refine⟨?_,Bb (Pw a)⟩;rw[Ii _ _ _ (by rw[c];exact(Bb (Pw a))),Nz _ _ _ _ (Bb a),Ii _ _ _ (Bb a)];exact q
 show(Uo _ _ _ _ _ {s with heap:=((s.heap.push (Hk "list" #[] 0)).update s.heap.objs.size (Dg (· ++vs.toArray))).push (Hk "list" vs.toArray 0)});rw[c];refine(Ac (Bt (Et slot_list_sort ⟨_,d,rfl⟩ entry_list_sort (BZ (κ:=κ) (ck:=ck) d hz (λf h' k'=>hk f _ _ h' λb o q=>k' b o (keep b o q).2 (keep b o q).1) (λh' k'=>hc _ h' λb o q=>k' b o (keep b o q).2 (keep b o q).1) ⟨_,rfl,?_⟩) (args_list_sort _))));exact(Aj ⟨_,rfl,h⟩)
def GW(p q:Int×Int):Bool:=if p.1=q.1 then decide (p.2<q.2)else decide (p.1<q.1)
def oZ{x y:Ul}{a b c d:Int}{t u t' j:Vf}{C:Bool->Af->Prop}(i:IsTup s.heap x #[.int a t,.int b u])(g:IsTup s.heap y #[.int c t',.int d j])(h:C (GW (a,b) (c,d)) s):Uo (Ur prog w) A (keyLt' (tuples' ba) (.ref x) (.ref y)) C E s:=by
 obtain⟨o,i,_,n,dx⟩:=i;obtain⟨l,g,_,m,k⟩:=g;refine kat_lt i dx g k ?_;refine kat_cons (Lv (kat_go (λe=>kat_yes ?_) λe=>kat_no ?_))
 ·have e : a = c := by simpa using e
  refine kat_cons (Lv (kat_go (λf=>kat_yes (kat_nil ?_)) λf=>kat_no ?_))
  ·have f : b = d := by simpa using f
   have:GW (a,b) (c,d)=bb:=by simp[GW,e,f]
   rw[this]at h;exact h
  ·refine kat_one _ _ (lt_int ?_)
   have:GW (a,b) (c,d)=decide (b<d):=by simp[GW,e]
   rw[this]at h;exact h
 ·have e : ¬ a = c := by simpa using e
  have:GW (a,b) (c,d)=decide (a<c):=by simp[GW,e]
  rw[this]at h;exact oneLt_int h
def PrI(h:Uv):List Uk->List (Int×Int)->Prop
 |[],[]=>True
 |v::vs,p::ps=>(∃a t u,v=.ref a/\IsTup h a #[.int p.1 t,.int p.2 u])/\PrI h vs ps
 |_,_=>False
theorem PrI.keep{h h':Uv}(k:∀b o,h.get? b=b3 o->h'.get? b=b3 o):∀{vs:List Uk}{ps:List (Int×Int)},PrI h vs ps->PrI h' vs ps
 |[],[],_=>trivial
 |_::_,_::_,⟨⟨a,t,u,e,q⟩,r⟩=>⟨⟨a,t,u,e,q.keeps k⟩,PrI.keep k r⟩
 |[],_::_,r=>r.elim
 |_::_,[],r=>r.elim
theorem PrI.at{h:Uv}:∀{vs:List Uk}{ps:List (Int×Int)}{i:Nat},PrI h vs ps->i<vs.length->∃a t u,vs.getD i Value.none=.ref a/\IsTup h a #[.int (ps.getD i (0,0)).1 t,.int (ps.getD i (0,0)).2 u]
 |[],[],i,_,hi=>by simp at hi
 |_::_,_::_,0,r,_=>r.1
 |v::vs,p::ps,i+1,r,hi=>by
  have:=PrI.at (i:=i) r.2 (by simpa using hi)
  simpa using this
 |[],_::_,i,r,_=>r.elim
 |_::_,[],i,r,_=>r.elim
theorem PrI.tups{h:Uv}:∀{vs:List Uk}{ps:List (Int×Int)},PrI h vs ps->∃fs,KatTups h vs fs/\fs.length=vs.length/\∀v∈fs,∃i t,v=.int i t
 |[],[],_=>⟨[],trivial,rfl,λ_ h=>by cases h⟩
 |_::_,_::_,⟨⟨a,t,u,e,o,d,c,n,hd⟩,r⟩=>by
  obtain⟨fs,h1,h2,f⟩:=PrI.tups r;subst e;refine⟨.int _ t::fs,KatTups.cons d c hd rfl h1,by simp[h2],λv b=>?_⟩;rcases Am.mp b with rfl|b
  ·exact⟨_,_,rfl⟩
  ·exact f v b
 |[],_::_,r=>r.elim
 |_::_,[],r=>r.elim
def ckP(ps:List (Int×Int))(i j:Nat):Bool:=GW (ps.getD i (0,0)) (ps.getD j (0,0))
def J7{l:Ul}{vs:List Uk}{ps:List (Int×Int)}{Q:Uk->Af->Prop}(hl:s.heap.IsList l vs.toArray)(hz:vs.length<=sizeLine)(c:PrI s.heap vs ps)(h:Q (.ref (s.heap.objs.size+1)) {s with heap:=sortedAll s.heap vs ((srt vs.length (ckP ps)).map λi=>vs.getD i Value.none).toArray}):Uo (Ur prog w) A (call (.builtin "sorted") [.ref l]) Q E s:=by
 refine IA (κ:=tuples' ba) hl hz (λp A E h' k' r q=>?_) (λA h' k' i j hi g C q=>?_) h
 ·obtain⟨fs,h1,h2,k⟩:=(c.keep k').tups
  refine kat_kind (s:={s with heap:=h'}) (T:=.type "int") h1 (by lia) (λv f=>?_) (by decide) q;obtain⟨i,t,rfl⟩:=k v f;exact Looks.now
 ·obtain⟨a,t,u,n,e⟩:=(c.keep k').at hi
  obtain⟨b,t',o,m,d⟩:=(c.keep k').at g;rw[n,m];exact oZ (s:={s with heap:=h'}) e d q
end
end TS
namespace L2
open PySem PySem.Spec PyProof.Rows
variable{X:Cx}{K:Ah}
noncomputable def prD:cU->Option (Int×Int)
 |.tup [.int a,.int b]=>b3 (a,b)
 |_=>b4
def NR:List cU->Option (List (Int×Int))
 |[]=>b3 []
 |d::ds=>(prD d).bind λp=>(NR ds).map λps=>p::ps
def PrV(K:Ah)(H:Hp):List V->List (Int×Int)->Prop
 |[],[]=>True
 |v::vs,p::ps=>(∃a,v=.ref a/\WL K H a [.int p.1,.int p.2])/\PrV K H vs ps
 |_,_=>False
def kB{d:cU}{p:Int×Int}(h:prD d=b3 p):d=.tup [.int p.1,.int p.2]:=by
 unfold prD at h;split at h
 ·cases h;rfl
 ·cases h
theorem DN{H:Hp}{N:Ul->Prop}:∀{xs:List V}{ds:List cU}{ps:List (Int×Int)},b9 K N H xs ds->NR ds=b3 ps->PrV K H xs ps
 |_,_,_,.nil,h=>by cases h;trivial
 | _,_,ps,@b9.cons _ _ _ v vs d ds h t,e => by
  have e:(prD d).bind (λp=>(NR ds).map λps=>p::ps)=b3 ps:=e;cases h1:prD d with
  |none=>rw[h1]at e;cases e
  |some p=>
   rw[h1]at e;have e:(NR ds).map (λps=>p::ps)=b3 ps:=e;cases h2:NR ds with
   |none=>rw[h2]at e;cases e
   |some c=>
    rw[h2]at e;cases e;have:=kB h1
    subst this;refine⟨?_,DN t h2⟩;cases h.onT with
    |tup sq r=>
     cases r with
     |cons b r=>
      cases b.onI;cases r with
      |cons a r=>
       cases a.onI;cases r;exact⟨_,rfl,sq⟩
theorem PrV.prI{H:Hp}{aa:List (Ul×Uw)}{σ:St}{s:Af}(I:cF X aa σ H s):∀{xs:List V}{c:List Uk}{ps:List (Int×Int)},PrV X.K H xs ps->bQ xs c->TS.PrI s.heap c ps
 |[],_,[],_,.nil=>trivial
 | _ :: _,_,_ :: _,⟨⟨a,e,q⟩,r⟩,.cons h t => by
  subst e;cases h;obtain⟨its,b,j,_⟩:=I.tuple q;cases b with
  |cons i b=>
   obtain⟨f,rfl⟩:=i;cases b with
   |cons g b=>
    obtain⟨d,rfl⟩:=g;cases b;exact⟨⟨a,f,d,rfl,j⟩,PrV.prI I r t⟩
 |[],_,_::_,h,_=>h.elim
 |_::_,_,[],h,_=>h.elim
theorem PrV.len{H:Hp}:∀{xs:List V}{ps:List (Int×Int)},PrV K H xs ps->xs.length=ps.length
 |[],[],_=>rfl
 |_::_,_::_,r=>by simp[PrV.len r.2]
 |[],_::_,r=>r.elim
 |_::_,[],r=>r.elim
theorem L8{xs:List V}{a:List Uk}(r:bQ xs a):∀l:List Nat,(∀i∈l,i<xs.length)->bQ (l.map λi=>xs.getD i .non) (l.map λi=>a.getD i Value.none)
 |[],_=>.nil
 |i::l,h=>by
  have hi:=h i Au;obtain⟨u,h1,h2⟩:=bQ.get (i:=i) (x:=xs[i]) r (by simp[hi]);refine .cons ?_ (L8 r l λj b=>h j (An _ b));have d:xs.getD i .non=xs[i]:=by simp[hi]
  have c:a.getD i Value.none=u:=by simp[h1]
  show bV (xs.getD i .non) (a.getD i Value.none);rw[d,c];exact h2
noncomputable def IC(ps:List (Int×Int)):List Nat:=TS.srt ps.length (TS.ckP ps)
def TY(ps:List (Int×Int)):(IC ps).Perm (Bf ps.length):=TS.ID _ _
def Ww(K:Ah):RC:=λxs H Q=>∃(p:Ul) (ys:List V) (ps:List (Int×Int)),xs=[.ref p]/\X2 K H p ys/\PrV K H ys ps/\∀l:Ul,H l=b4->Q (.ref l) (upd H l (.lst ((IC ps).map λi=>ys.getD i .non)))
def jZ(h:X.K=K:=by rfl):Z6 X (.builtin "sorted") (Ww K):=by
 subst h;intro aa s σ H xs n Q I r h;obtain⟨p,ys,ps,rfl,j,d,q⟩:=h;obtain⟨u,rfl,f⟩:=SQ r;cases f;obtain⟨its,c,g,hz⟩:=I.list j;have t:=c.length;have k:=d.len;have l:H (s.heap.objs.size+1)=b4:=I.hok.fresh (Ij _);refine TS.J7 g.isList (by lia) (d.prI I c) ?_;rw[show its.length=ps.length by lia];obtain⟨e,m⟩:=sortedAll_at s.heap its ((TS.srt ps.length (TS.ckP ps)).map λi=>its.getD i Value.none).toArray;refine⟨.ref (s.heap.objs.size+1),_,I.laid (a:=s.heap.objs.size+1) (o:=.lst ((IC ps).map λi=>ys.getD i .non)) (t':=s.toks) (λb o=>sortedAll_old) (Ij _) ?_,rfl,q _ l⟩;refine⟨by rw[Ci,(TY ps).length_eq,Ih];lia,(IC ps).map λi=>its.getD i Value.none,e,L8 c _ λi hi=>?_,?_⟩
 ·have:=Db.mp ((TY ps).mem_iff.mp hi)
  lia
 ·rw[m]
  rfl
noncomputable def FD:cU->Option cU
 |.lst ds=>(NR ds).bind λps=>b3 (.lst ((IC ps).map λi=>ds.getD i .non))
 |_=>b4
theorem LQ{H:Hp}{N:Ul->Prop}{xs:List V}{ds:List cU}(r:b9 K N H xs ds):∀l:List Nat,b9 K N H (l.map λi=>xs.getD i .non) (l.map λi=>ds.getD i .non)
 |[]=>.nil
 | i :: l => by
  have one:∀{xs:List V}{ds:List cU}(i:Nat),b9 K N H xs ds->bO K N H N (xs.getD i .non) (ds.getD i .non):=by
   intro xs ds i r;induction r using b9.rec (motive_1:=λ_ _ _ _=>True) generalizing i with
   |nil=>simpa using bO.non
   |cons h t _ a=>cases i with
    |zero=>simpa using h
    |succ i=>simpa using a i
   |_=>trivial
  exact .cons (one i r) (LQ r l)
def qt:CalN K (Ww K) FD:=by
 intro H N M x d c Q e h k;cases d with
 |lst ds=>
  have h:((NR ds).bind λps=>b3 (cU.lst ((IC ps).map λi=>ds.getD i .non)))=b3 c:=h;cases h1:NR ds with
  |none=>rw[h1]at h;cases h
  |some ps=>
   rw[h1]at h;cases h;obtain⟨a,xs,rfl,sq,r⟩:=e.lstE;exact⟨a,xs,ps,rfl,sq,DN r h1,λl b=>k l _ _ b (LQ r _) rfl⟩
 |_=>cases h
def A7:typeLookup (.type "list") ("keys":Uq)=pure b4:=am_miss_of_fast (by decide+kernel)
section
variable{prog:Av}{w:Uu}{A:Cc}{E:Uk->Af->Prop}{s:Af}
def A3{a:Ul}{o:Uw}{xs:Array Uk}{k:Nat}{Q:Option Uk->Af->Prop}(l:s.heap.get? a=b3 o)(hc:o.cls=.type "list")(n:o.data=.seq xs k)(hd:o.dict=b4)(r:A.handled=b4)(h:∀h' tk,(∀b j,s.heap.get? b=b3 j->h'.get? b=b3 j)->Q b4 {s with heap:=h',toks:=tk}):Uo (Ur prog w) A (To (.ref a) "keys") Q E s:=by
 obtain⟨c,dct,dat,p⟩:=o;simp only at hc n hd;subst hc n hd;obtain⟨q,g,d,tk,os⟩:=s;have m:∀f,(⟨q,g,d,f,os⟩:Af).TypeIs (.ref a) "list":=λ_=>⟨_,l,rfl⟩;have f1:=sub_AttributeError;have f3:=F.slot_list_getattribute.lookup;have y:=F.slot_list_getattribute.bind (.ref a);have x:=am_list_getattr_none;unfold To getAttrBy? getAttrBy
 (repeat (any_goals (first|assumption|exact m _|((with_reducible show Uo _ _ (call (Value.builtin "list.__getattribute__") _ _) _ _ _);refine Fk F.slot_list_getattribute (m _) am_entry_list_getattribute (F.args_list_getattribute_2 _ _) (meets_getattribute_miss_list a xs k p "keys" _ A7 (by decide) (by size_fits)) ⟨l,r,λh' f e i=>?_⟩)|wp_step)))
 obtain⟨u,t,v⟩:=i.there;show(Uo _ _ (Ov _ _ _ _ _ _ _) _ _ _);unfold Ov
 (repeat (any_goals (first|assumption|wp_step)))
 exact h _ _ i.keeps
end
def K2:entryFor table "dict.update.loop"=b3 Ej.«dict.update.loop» :=entryFor_of_tree (by kernel_rfl)
def TU:plainId "dict.update.loop"=ba:=by decide+kernel
def PrK(prog:Av)(w:Uu)(h:Uv):List Uk->List (aR×Uk)->Prop
 |[],[]=>True
 |v::vs,p::ps=>(∃a key,v=.ref a/\IsTup h a #[key,p.2]/\(aW prog w).is p.1 key=ba)/\PrK prog w h vs ps
 |_,_=>False
section
variable{prog:Av}{w:Uu}{A:Cc}{E:Uk->Af->Prop}{s:Af}
theorem PrK.keep{h h':Uv}{C:Ul->Prop}(k:∀b o,C b->h.get? b=b3 o->h'.get? b=b3 o):∀{vs:List Uk}{ps:List (aR×Uk)},(∀a,Bv a∈vs->C a)->PrK prog w h vs ps->PrK prog w h' vs ps
 |[],[],_,_=>trivial
 |_::_,_::_,c,⟨⟨a,key,e,⟨o,f,r⟩,q⟩,d⟩=>⟨⟨a,key,e,⟨o,k a o (c a (by rw[e];exact Au)) f,r⟩,q⟩,PrK.keep k (λa g=>c a (An _ g)) d⟩
 |[],_::_,_,r=>r.elim
 |_::_,[],_,r=>r.elim
def FG{a:Ul}{k v:Uk}{Q:List Uk->Af->Prop}(h:IsTup s.heap a #[k,v])(q:Q [k,v] s):Uo (Ur prog w) A (Me (.ref a)) Q E s:=by obtain⟨o,b,hc,n,hd⟩:=h;unfold Me;refine(Ac (Kl (T:= "tuple") ⟨o,b,hc⟩ ?_));rw[if_pos (by decide)];exact(Ac (Fi b hd (Aj q)))
theorem Wg{R:Result->Af->Prop}{I D:Ul}{fp wr:List Ul}{items:Array Uk}{St:Nat->Uv->Prop}(W:Walks prog w A.in1 I fp wr items.size (λi v=>items[i]?=b3 v) St)(c:D∉fp):∀(vs:List Uk) (ps:List (aR×Uk)) (j:Nat) (i:Int) (s:Af) (kvs:List (aR×Uk)),items.toList.drop j=vs->j+vs.length=items.size->St j s.heap->s.heap.DictOf (aW prog w) D kvs->kvs.length+vs.length<=sizeLine->PrK prog w s.heap vs ps->(∀a,Bv a∈vs->a∉wr/\a≠D)->(∀g tk,g.DictOf (aW prog w) D (ps.foldl (λl p=>Tw l p.1 p.2) kvs)->(∀b o,b∉wr->b≠D->s.heap.get? b=b3 o->g.get? b=b3 o)->R (.ok (.ret .none)) {s with heap:=g,toks:=tk})->Jq (Ur prog w) A (.builtin "dict.update.loop" ⟨[.ref D,.ref I,rawInt i,.none],[]⟩) R s
 | [],ps,j,i,s,kvs,e,E,f,hd,hz,m,u,H => by
  have d:D∉wr:=λz=>c (W.sub _ z);cases ps with
  |cons p ps=>exact m.elim
  |nil=>
   refine Ms K2 (by rw[Nc TU _];show(Uo _ A.in1 (pyNext (.ref I)>>=_) _ _ s);refine(Ac (W.done s _ _ (by rw[show items.size=j by simpa using E.symm];exact f) λg tk kept=>?_));show(Uo _ A.in1 (Builtin.Dict.addKeywords D []>>=_) _ _ _);refine(Ac (Aj (Aj ?_)));obtain⟨o,es,J,B,r⟩:=hd;exact H g tk ⟨o,es,J,kept _ _ d B,r⟩ λb o k _ e=>kept b o k e)
 | v :: vs,ps,j,i,s,kvs,e,E,f,hd,hz,m,u,H => by
  have d:D∉wr:=λz=>c (W.sub _ z);cases ps with
  |nil=>exact m.elim
  |cons p ps=>
   obtain⟨⟨a,key,rfl,Q,hk⟩,m⟩:=m;obtain⟨O,X⟩:=u a Au;simp only[Bx]at E hz;have U:items[j]?=b3 (.ref a):=by
    have:=congrArg (λl=>l[0]?) e
    simpa using this
   have V:items.toList.drop (j+1)=vs:=by
    have:=congrArg List.tail e
    simpa using this
   refine Ms K2 (by
    rw[Nc TU _];show(Uo _ A.in1 (pyNext (.ref I)>>=_) _ _ s);refine(Ac (W.item j s _ _ (by lia) f λv g tk pv M kept=>?_));obtain rfl:v=.ref a:=by rw[U]at pv;cases pv;rfl
    obtain⟨o,B,r⟩:=Q;obtain⟨N,es,J,y,L⟩:=hd;refine(Ac (Bt (Ac (wpAny_tryCatch (FG (s:={s with heap:=g,toks:=tk}) ⟨o,kept _ _ O B,r⟩ ?_)))));refine(Bt (wpAny_dictSet_pairs (s:={s with heap:=g,toks:=tk}) (kvs:=kvs) hk ⟨N,es,J,kept _ _ d y,L⟩ (λT G n=>?_) (by lia)));have K:∀b o,b∉wr->b≠D->s.heap.get? b=b3 o->T.get? b=b3 o:=λb o k q e=>(n.2 b q).trans (kept b o k e);refine(Aj ⟨plainId_quiet TU _,Wg W c vs ps (j+1) (i+1) _ (Tw kvs p.1 p.2) V (by lia) (W.frame _ _ _ M λb t o e=>(n.2 b (λz=>c (by rw[<-z];exact t))).trans e) G ?_ (PrK.keep (C:=λb=>b∉wr/\b≠D) (λb o t e=>K b o t.1 t.2 e) (λa h=>u a (An _ h)) m) (λa h=>u a (An _ h)) ?_⟩)
    ·have:=stored_length_le kvs p.1 p.2
     lia
    ·exact λS x F P=>H S x F λb o k q e=>P b o k q (K b o k q e))
end
section
variable{prog:Av}{w:Uu}{A:Cc}{E:Uk->Af->Prop}{s:Af}
def EW{l:Ul}{vs:List Uk}{ps:List (aR×Uk)}{Q:Uk->Af->Prop}(K:A.handled=b4)(N:PlainL s.heap l vs.toArray)(hz:vs.length<=sizeLine)(u:PrK prog w s.heap vs ps)(h:∀g tk,g.DictOf (aW prog w) s.heap.objs.size (ps.foldl (λl p=>Tw l p.1 p.2) [])->(∀b o,s.heap.get? b=b3 o->g.get? b=b3 o)->Q (.ref s.heap.objs.size) {s with heap:=g,toks:=tk}):Uo (Ur prog w) A (call (.type "dict") [.ref l]) Q E s:=by
 refine(callType_codes (Q₁:=λobj d=>obj=.ref s.heap.objs.size/\d={s with heap:=s.heap.push {cls:=.type "dict",data:=.dict #[]}}) F.kt_called_dict (F.kt_typeCall_dict_1 _) F.entry_dict_init (kt_code_dict_new _ ⟨rfl,rfl⟩) ?_);rintro obj d ⟨rfl,rfl⟩;have H:(s.heap.push {cls:=.type "dict",data:=.dict #[]}).DictOf (aW prog w) s.heap.objs.size []:=Rp s.heap;obtain⟨o,n,J,hc,hd,L⟩:=N;have r:(s.heap.push {cls:=.type "dict",data:=.dict #[]}).get? l=b3 o:=Ae _ J;refine⟨H.typeIs,F.args_dict_init_2 _ _,?_⟩;unfold Ej.«dict.__init__»;refine(Ac ?_);unfold Builtin.Dict.selfAndRest;refine(Ac (wpAny_notOrdered_dict H.typeIs ?_));show(Uo _ _ (pure (s.heap.objs.size,[Bv l])) _ _ _);refine(Aj ?_);show(Uo _ _ (Lo "dict.__init__" s.heap.objs.size (.ref l) [] .none) _ _ _);unfold Lo;refine(Ac (Kl (T:= "list") ⟨o,r,hc⟩ ?_));rw[if_pos (by decide)];refine(Ac (A3 r hc L hd (by simp[K]) λf y k1=>?_));simp only[Option.isNone_none,if_true];refine(Ac (Ib ?_));have P:f.get? l=b3 o:=k1 _ _ r;have od:f.get? s.heap.objs.size=b3 {cls:=.type "dict",data:=.dict #[]}:=k1 _ _ (As _ rfl);have j:s.heap.objs.size<f.objs.size:=Aq od;have k:l<s.heap.objs.size:=Aq J;have x:f.IsList l vs.toArray:=⟨o,P,hc,n,L⟩;have I:∀b c,s.heap.get? b=b3 c->f.get? b=b3 c:=λb c q=>k1 b c (Ae _ q);have i:∀b c,s.heap.get? b=b3 c->b∉[f.objs.size]/\b≠s.heap.objs.size:=λb c q=>by
  have:=Aq q
  exact⟨λz=>by rw[At.mp z]at this;exact absurd (Qi this j) (Ck _),λz=>by rw[z]at this;exact Ck _ this⟩
 have D:∀{vs:List Uk}{ps:List (aR×Uk)},PrK prog w s.heap vs ps->∀a,Bv a∈vs->∃c,s.heap.get? a=b3 c:=by
  intro vs;induction vs with
  |nil=>intro ps _ a t;cases t
  |cons v vs R=>
   intro ps u a t;cases ps with
   |nil=>exact u.elim
   |cons p ps=>
    rcases Am.mp t with e|t
    ·obtain⟨⟨b,key,U,⟨c,m,_⟩,_⟩,_⟩:=u
     rw[U]at e;cases e;exact⟨c,m⟩
    ·exact R u.2 a t
 refine(Ac (Gy (s:={s with heap:=f,toks:=y}) x ?_));have W:=Walks.list (prog:=prog) (w:=w) (A:=A.in1.in1) (by simp[K]) f.objs.size l (Bb (Qi k j)) vs.toArray;refine(Aj ⟨plainId_quiet TU _,Wg (A:=A.in1) W (λz=>?_) vs ps 0 0 _ [] (by simp) (by simp) ⟨⟨_,As _ rfl,rfl,rfl⟩,x.push _⟩ ?_ (by simpa using hz) (PrK.keep (C:=λ_=>True) (λb c _ q=>Ae _ (I b c q)) (λ_ _=>trivial) u) (λa t=>?_) λg tk G kept=>⟨rfl,h g tk G λb c q=>?_⟩⟩)
 ·rcases Am.mp z with z|z
  ·exact absurd j (by rw[<-z];exact Ck _)
  ·rw[<- At.mp z]at k
   exact Ck _ k
 ·obtain⟨O,es,S,B,M⟩:=H
  exact⟨O,es,S,Ae _ (k1 _ _ B),M⟩
 ·obtain⟨c,m⟩:=D u a t
  exact i a c m
 ·exact kept b c (i b c q).1 (i b c q).2 (Ae _ (I b c q))
end
variable{X:Cx}{K:Ah}{H:Hp}{σ:St}{s:Af}{aa:List (Ul×Uw)}{ml:List Nat}{pa ta ia:Bool}{fa:VF}{a:Us}{p' pos:Pos}
def kprD:cU->Option (aR×cU)
 |.tup [k,v]=>(V2 k).map λa=>(a,v)
 |_=>b4
def QX:List cU->Option (List (aR×cU))
 |[]=>b3 []
 |d::ds=>(kprD d).bind λp=>(QX ds).map λps=>p::ps
def IU(K:Ah)(H:Hp):List V->List (aR×V)->Prop
 |[],[]=>True
 |v::vs,p::ps=>(∃a,v=.ref a/\WL K H a [kV p.1,p.2])/\IU K H vs ps
 |_,_=>False
def qj{d:cU}{p:aR×cU}(h:kprD d=b3 p):∃k,d=.tup [k,p.2]/\V2 k=b3 p.1:=by
 unfold kprD at h;split at h
 ·rename_i k v
  cases e:V2 k with
  |none=>rw[e]at h;cases h
  |some a=>rw[e]at h;cases h;exact⟨k,rfl,e⟩
 ·cases h
theorem GU{N:Ul->Prop}:∀{xs:List V}{ds:List cU}{kds:List (aR×cU)},b9 K N H xs ds->QX ds=b3 kds->∃kvs:List (aR×V),IU K H xs kvs/\kvs.map Dh=kds.map Dh/\b9 K N H (kvs.map Es) (kds.map Es)
 |_,_,_,.nil,h=>by cases h;exact⟨[],trivial,rfl,.nil⟩
 | _,_,kds,@b9.cons _ _ _ v vs d ds h t,e => by
  have e:(kprD d).bind (λp=>(QX ds).map λps=>p::ps)=b3 kds:=e;obtain⟨p,h1,e⟩:=Aa.mp e;have e:(QX ds).map (λps=>p::ps)=b3 kds:=e;obtain⟨j,h2,e⟩:=Ap.mp e;cases e;obtain⟨kvs,g,f,c⟩:=GU t h2;obtain⟨k,rfl,hk⟩:=qj h1;cases h.onT with
  |tup sq r=>
   cases r with
   |cons b r=>
    cases r with
    |cons a r=>
     cases r;have i:=b.key hk;subst i;exact⟨(p.1,_)::kvs,⟨⟨_,rfl,sq⟩,g⟩,by simp[f],.cons a c⟩
theorem IU.prK(I:cF X aa σ H s):∀{xs:List V}{c:List Uk}{kvs:List (aR×V)},IU X.K H xs kvs->bQ xs c->∃ps:List (aR×Uk),KV kvs ps/\PrK X.prog X.w s.heap c ps
 |[],_,[],_,.nil=>⟨[],.nil,trivial⟩
 | _ :: _,_,p :: _,⟨⟨b,e,q⟩,r⟩,.cons h t => by
  subst e;cases h;obtain⟨ps,i,g⟩:=IU.prK I r t;obtain⟨its,a,j,_⟩:=I.tuple q;cases a with
  |cons f a=>
   cases a with
   |cons d a=>
    cases a;exact⟨(p.1,_)::ps,.cons ⟨rfl,d⟩ i,⟨b,_,rfl,j,LB f⟩,g⟩
 |[],_,_::_,h,_=>h.elim
 |_::_,_,[],h,_=>h.elim
theorem IU.len:∀{xs:List V}{ps:List (aR×V)},IU K H xs ps->xs.length=ps.length
 |[],[],_=>rfl
 |_::_,_::_,r=>by simp[IU.len r.2]
 |[],_::_,r=>r.elim
 |_::_,[],r=>r.elim
def Xq(K:Ah):RC:=λxs H Q=>∃(p:Ul) (ys:List V) (kvs:List (aR×V)),xs=[.ref p]/\X2 K H p ys/\IU K H ys kvs/\(kvs.map Dh).Nodup/\∀l:Ul,H l=b4->Q (.ref l) (upd H l (.dK kvs))
def qY(hc:X.calm=ba)(h:X.K=K:=by rfl):Z6 X (.type "dict") (Xq K):=by subst h;intro aa s σ H xs t Q I r h;obtain⟨p,ys,kvs,rfl,l,d,k,q⟩:=h;obtain⟨u,rfl,e⟩:=SQ r;cases e;obtain⟨its,c,j,hz⟩:=I.list l;have v:=c.length;have m:=d.len;obtain⟨ps,i,f⟩:=d.prK I c;refine EW (I.ok.hd hc) j (by lia) f λg tk hd kept=>?_;have n:NI [] kvs=kvs:=LG (acc:=[]) (by simpa using k);have b:=KV.merge i (kvs:=[]) (vs:=[]) .nil;rw[n]at b;exact⟨.ref s.heap.objs.size,_,I.laid (a:=s.heap.objs.size) (o:=.dK kvs) (t':=tk) kept (Ar _) (Xa (by lia) (beq_eq_false_iff_ne.mpr (Di (Bb I.big))) b hd),rfl,q _ (I.hok.fresh (Ar _))⟩
def DD:cU->Option cU
 |.lst ds=>(QX ds).bind λkds=>if(kds.map Dh).Nodup then b3 (.dct (kds.map Dh) (kds.map Es))else b4
 |_=>b4
def CalD(K:Ah)(r:RC)(o:cU->Option cU):Prop:=∀(H:Hp) (N M:Ul->Prop) (x:V) (d c:cU) (Q:VK),bO K N H M x d->o d=b3 c->
 (∀p (kvs:List (aR×V)) ds,H p=b4->b9 K N H (kvs.map Es) ds->c=.dct (kvs.map Dh) ds->Q (.ref p) (upd H p (.dK kvs)))->r [x] H Q
def jK:CalD K (Xq K) DD:=by
 intro H N M x d c Q j h k;cases d with
 |lst ds=>
  have h:((QX ds).bind λkds=>if(kds.map Dh).Nodup then b3 (cU.dct (kds.map Dh) (kds.map Es))else b4)=b3 c:=h;obtain⟨kds,h1,h⟩:=Aa.mp h;have h:(if(kds.map Dh).Nodup then b3 (cU.dct (kds.map Dh) (kds.map Es))else b4)=b3 c:=h;split at h
  ·rename_i i
   cases h;obtain⟨a,xs,rfl,sq,r⟩:=j.lstE;obtain⟨kvs,g,e,f⟩:=GU r h1;exact⟨a,xs,kvs,rfl,sq,g,by rw[e];exact i,λl b=>k l kvs _ b f (by rw[e])⟩
  ·cases h
 |_=>cases h
def mkDK{B:Bs}{O:Nat->Option Ul}{H1:Hp}{δ':Ev}{p:Ul}{pu:Bool}{kvs:List (aR×V)}{ds:List cU}(S:aU K ml B O H1 σ δ')(f:Fr (OA O) H H1)(s:pu=ba->bA H H1)(a:H1 p=b4)(r:b9 K (Nn B O) H1 (kvs.map Es) ds):ResN K ml B O H σ pu (upd H1 p (.dK kvs)) δ' p (.dct (kvs.map Dh) ds):=
 ⟨S.laid a,f.trans (cP a).fr,λz=>(s z).trans (cP a),.dct cA ((r.away a _ _ W4).same (cP a)),S.new a,S.fresh a⟩
def CF(r:X.K=K)(hc:X.calm=ba)(n:Gl X "dict")(m:X.mg "dict"=b4)(g:Bm "dict"=b3 (.type "dict"))(o:PE X a (TV K ml pa ta ba fa))(l:("dict":Uq)≠ "__name__":=by decide)(e:(("dict":Uq)==("__debug__":Uq))=bb:=by decide)(b:SE X a []:=by rfl):PE X (.Call (.Name "dict" p') [a] [] pos) (TN K ml pa (f1 DD fa)):=
 (V5 (qY hc r) n m g (bW o Z9 b) l e b).imp λσ H Q h=>by obtain⟨B,O,δ,d,δ',S,q,k⟩:=h;obtain⟨x,h1,h2⟩:=M4 q;refine⟨B,O,δ,x,δ',S,h1,λf H1 c=>jK H1 _ _ f x d Q c.rep h2 λp kvs ds j i b=>?_⟩;subst b;exact k p _ (mkDK c.sta c.frm c.pur j i)
noncomputable def OX:List (Option Nat)->List cU->Nat->Option cU
 |none::_,d::_,0=>b3 d
 |none::sh,_::ds,j+1=>OX sh ds j
 |some k::sh,ds,j+1=>OX sh (ds.drop k) j
 |_,_,_=>b4
section
variable{X:Cx}{K:Ah}{ml:List Nat}{a b:Us}{es:List Us}{H:Hp}{ps:Bool}{δ:Ev}{pos ai:Pos}{i j jj:Nat}
theorem RH.getV{sub:Ul->Option (List V)}{N:Ul->Prop}:∀{xs vs:List V}{sh:List (Option Nat)}{ds:List cU}{d:cU}{j:Nat},RH sub xs sh vs->b9 K N H vs ds->OX sh ds j=b3 d->∃v,xs[j]?=b3 v/\bO K N H N v d
 |_,_,_,_,_,_,.nil,_,h=>by simp[OX]at h
 |_,_,_,_,_,0,.val _ _,.cons r _,h=>by simp only[OX,Ku]at h;subst h;exact⟨_,rfl,r⟩
 |_,_,_,_,_,j+1,.val _ t,.cons _ r,h=>by obtain⟨v,b,a⟩:=RH.getV (j:=j) t r (by simpa[OX]using h);exact⟨v,by simpa using b,a⟩
 |_,_,_,_,_,0,.lst _ _ _,_,h=>by simp[OX]at h
 |_,_,_,ds,_,j+1,.lst (zs:=zs) _ _ t,r,h=>by
  have:=r.drop zs.length
  rw[Iq]at this;obtain⟨v,b,a⟩:=RH.getV (j:=j) t this (by simpa[OX]using h);exact⟨v,by simpa using b,a⟩
def KI{α:Type}{xs:List α}{j:Nat}{v:α}(h:xs[j]?=b3 v):T2 xs (j:Int)=b3 v:=by have hl:=(Ag.mp h).1;unfold T2 AZ;rw[if_pos (by lia),if_pos (by lia)];simpa using h
def fNv(i j:Nat):VF:=λδ=>match δ[i]? with
 |some (.ow (.nst sh ds))=>(OX sh ds j).map λd=>(d,δ)
 |_=>b4
def Vm(l:PE X a (V8 i))(h:PE X b (tC (.int (j:Int))))(m:X.K=K:=by rfl)(g:W0 b:=by exact λ_ _=>rfl):PE X (.Subscript a b pos) (TV K ml ba ba ba (fNv i j)):=by
 refine(NO (A0 m) l h g).imp λσ H Q c=>?_;obtain⟨B,O,δ,d,δ',S,q,k⟩:=c;unfold fNv at q;split at q
 ·rename_i sh ds hd
  obtain⟨d',h1,q⟩:=Ap.mp q;cases q;obtain⟨x,p,o,w⟩:=S.ow i _ hd;cases w with
  |nst q0 r=>
   obtain⟨xs,sub,e,_,sp⟩:=q0;obtain⟨v,n,f⟩:=sp.getV r h1;exact⟨.ref x,o,x,xs,j,v,rfl,rfl,.inl (.inl (.inr ⟨xs,sub,xs,rfl,.inr ⟨e,rfl⟩⟩)),KI n,k v H (Res.refl S f)⟩
 ·cases q
def fNl(i j:Nat):VF:=λδ=>(part δ i j).map λd=>(d,δ)
def Xv(l:PE X a (V8 i))(h:PE X b (tC (.int (j:Int))))(m:X.K=K:=by rfl)(g:W0 b:=by exact λ_ _=>rfl):PE X (.Subscript a b pos) (TV K ml ba bb ba (fNl i j)):=by
 refine(NO (A0 m) l h g).imp λσ H Q c=>?_;obtain⟨B,O,δ,d,δ',S,q,k⟩:=c;unfold fNl at q;obtain⟨d',h1,q⟩:=Ap.mp q;cases q;obtain⟨sh,ds,es,o,n,rfl⟩:=V4 h1;obtain⟨x,u,t,w⟩:=S.ow i _ o;cases w with
 |nst q0 r=>
  obtain⟨xs,sub,e,ow,sp⟩:=q0;obtain⟨p,zs,s,f,rz⟩:=sp.getL r n;exact⟨.ref x,t,x,xs,j,.ref p,rfl,rfl,.inl (.inl (.inr ⟨xs,sub,xs,rfl,.inr ⟨e,rfl⟩⟩)),KI s,k _ H (Res.refl S (.fzm (xs:=zs) (.inr ⟨x,xs,sub,ow p zs f,e,λz=>z,f⟩) rz))⟩
def aP(i j:Nat)(fs:T1):T1:=λδ=>(part δ i j).bind λ_=>(fs δ).map λq=>(.p i j::q.1,q.2)
def Yu{fs:T1}{as:List AV}{δ':Ev}(q:aP i j fs δ=b3 (as,δ')):∃d a,part δ i j=b3 d/\fs δ=b3 (a,δ')/\as=.p i j::a:=by unfold aP at q;obtain⟨d,h1,q⟩:=Aa.mp q;obtain⟨p2,h2,q⟩:=Ap.mp q;cases q;exact⟨d,_,h1,h2,rfl⟩
def TR{B:Bs}{O:Nat->Option Ul}{σ:St}{d:cU}(S:aU K ml B O H σ δ)(h:part δ i j=b3 d):∃x xs sub v,σ[i]?=b3 (b3 (.ref x))/\H x=b3 (.nst xs sub)/\xs[j]?=b3 v:=by
 obtain⟨sh,ds,es,b,a,rfl⟩:=V4 h;obtain⟨x,k,f,w⟩:=S.ow i _ b;cases w with
 |nst q0 r=>
  obtain⟨xs,sub,e,ow,sp⟩:=q0;obtain⟨p,zs,c,g,rz⟩:=sp.getL r a;exact⟨x,xs,sub,_,f,e,c⟩
def Zw{fs:T1}(o:PE X a (V8 i))(n:PE X b (tC (.int (j:Int))))(m:PA X es (CM K ml ba fs))(r:X.K=K:=by rfl)(h:W0 b:=by exact λ_ _=>rfl)(l:Um (.Subscript a b pos::es) X.env=(bb,eval (.Subscript a b pos) X.env)::Um es X.env:=by rfl):PA X (.Subscript a b pos::es) (CM K ml ba (aP i j fs)):=by refine(bW (NO (A0 r) o n h) m l).imp λσ H Q c=>?_;obtain⟨B,O,δ,as,δ2,S,q,k⟩:=c;obtain⟨d,s,h1,h2,rfl⟩:=Yu q;obtain⟨x,xs,sub,v,g,e,f⟩:=TR S h1;exact⟨.ref x,g,x,xs,j,v,rfl,rfl,.inl (.inl (.inr ⟨xs,sub,xs,rfl,.inr ⟨e,rfl⟩⟩)),KI f,B,O,δ,_,_,S,h2,λvs H2 R2=>k _ H2 ⟨R2.sta,R2.frm,R2.pur,.p g (R2.pur rfl _ _ e) f R2.rep⟩⟩
def Zx{W:Hp->Ul->Hp->Prop}{fs:T1}(t:PE X a (V8 i))(s:PE X b (tC (.int (j:Int))))(o:PA X es (F8 K ml ba W fs))(w:X.K=K:=by rfl)(l:W0 b:=by exact λ_ _=>rfl)(n:Um (.Subscript a b pos::es) X.env=(bb,eval (.Subscript a b pos) X.env)::Um es X.env:=by rfl):PA X (.Subscript a b pos::es) (F8 K ml ba W (aP i j fs)):=by refine(bW (NO (A0 w) t s l) o n).imp λσ H Q f=>?_;obtain⟨B,O,δ,as,δ2,S,q,k⟩:=f;obtain⟨d,y,h1,h2,rfl⟩:=Yu q;obtain⟨x,xs,sub,v,h,e,g⟩:=TR S h1;exact⟨.ref x,h,x,xs,j,v,rfl,rfl,.inl (.inl (.inr ⟨xs,sub,xs,rfl,.inr ⟨e,rfl⟩⟩)),KI g,B,O,δ,_,_,S,h2,λvs H2 R2 c u m p r=>k (v::vs) H2 ⟨R2.sta,R2.frm,R2.pur,.p h (R2.pur rfl _ _ e) g R2.rep⟩ (v::c) u (by rw[m];rfl) p r⟩
end
def Q9(sub:Ul->Option (List V))(p:Ul)(ys:List V):Ul->Option (List V):=λq=>if q=p then b3 ys else sub q
section
variable{X:Cx}{aa:List (Ul×Uw)}{σ:St}{H:Hp}{s:Af}{x p:Ul}{xs ys zs:List V}{sub:Ul->Option (List V)}{its its':List Uk}{n n':Nat}{f:Uw->Uw}
def cF.nst(I:cF X aa σ H s)(h:H x=b3 (.nst xs sub)):(xs.length<=sizeLine/\∃(its:List Uk) (n:Nat),bQ xs its/\s.heap.get? x=b3 {cls:=.type "list",data:=.seq its.toArray n})∧ ∀p zs,sub p=b3 zs->p≠x/\H p=b3 (.own x)/\zs.length<=sizeLine/\∃(its:List Uk) (n:Nat),bQ zs its/\s.heap.get? p=b3 {cls:=.type "list",data:=.seq its.toArray n}:=
 (show Z8 X.prog X.w H s.heap x (.nst xs sub) from I.hok x _ h)
def cF.nstTop(I:cF X aa σ H s)(h:H x=b3 (.nst xs sub))(j:s.heap.get? x=b3 {cls:=.type "list",data:=.seq its.toArray n})(c:f {cls:=.type "list",data:=.seq its.toArray n}={cls:=.type "list",data:=.seq its'.toArray n'})(r:bQ ys its')(hz:ys.length<=sizeLine)(t:Nat):cF X aa σ (upd H x (.nst ys sub)) {s with heap:=s.heap.update x f,toks:=t}:=by
 have e:(s.heap.update x f).get? x=b3 {cls:=.type "list",data:=.seq its'.toArray n'}:=by rw[Iu f j (by rw[c]<;>rfl),c]
 obtain⟨_,k⟩:=I.nst h;refine I.write (x:=x) (e:=x) (by rw[h];trivial) (.inl rfl) (λb u l q=>(Ew _ _ (Di l)).trans q) ⟨_,e⟩ ⟨⟨hz,its',n',r,e⟩,λp zs d=>?_⟩;obtain⟨a,w,o,i,m,v,g⟩:=k p zs d;exact⟨a,by rw[bZ a];exact w,o,i,m,v,(Ew _ _ (Di a)).trans g⟩
def cF.nstSub(I:cF X aa σ H s)(h:H x=b3 (.nst xs sub))(C:sub p=b3 zs)(D:s.heap.get? p=b3 {cls:=.type "list",data:=.seq its.toArray n})(l:f {cls:=.type "list",data:=.seq its.toArray n}={cls:=.type "list",data:=.seq its'.toArray n'})(r:bQ ys its')(hz:ys.length<=sizeLine)(t:Nat):cF X aa σ (upd H x (.nst xs (Q9 sub p ys))) {s with heap:=s.heap.update p f,toks:=t}:=by
 have e:(s.heap.update p f).get? p=b3 {cls:=.type "list",data:=.seq its'.toArray n'}:=by rw[Iu f D (by rw[l]<;>rfl),l]
 obtain⟨⟨z,B,A,y,F⟩,k⟩:=I.nst h;obtain⟨d,j,_⟩:=k p zs C;refine I.write (x:=x) (e:=p) (by rw[h];trivial) (.inr j) (λb u E q=>(Ew _ _ (Di E)).trans q) ⟨_,e⟩ ⟨⟨z,B,A,y,(Ew _ _ d).trans F⟩,λq w c=>?_⟩;unfold Q9 at c;split at c
 ·rename_i a
  subst a;cases c;exact⟨d,by rw[bZ d];exact j,hz,its',n',r,e⟩
 ·rename_i a
  obtain⟨o,J,G,i,m,v,g⟩:=k q w c;exact⟨o,by rw[bZ o];exact J,G,i,m,v,(Ew _ _ (Di a)).trans g⟩
def lY:V->V->V->Hp->(Hp->Prop)->Prop:=λo i v H Q=>∃x xs sub k j,o=.ref x/\i=.int k/\H x=b3 (.nst xs sub)/\AZ xs.length k=b3 j/\Q (upd H x (.nst (xs.set j v) sub))
def D9:PSet X lY:=by
 intro aa s σ H o i v x y u Q I l m g h;obtain⟨p,xs,sub,k,j,rfl,rfl,b,w,q⟩:=h;cases l;obtain⟨t,rfl⟩:=m;obtain⟨⟨hz,its,n,r,a⟩,_⟩:=I.nst b;obtain⟨h1,h2,d,c⟩:=C7 w;have hl:=r.length;have z:=P4;have f:cF X aa σ (upd H p (.nst (xs.set j v) sub)) {s with heap:=s.heap.update p (Dg (·.setIfInBounds j u))}:=
  I.nstTop b a (E4 its n j u) (r.set g j) (by rw[Cd];exact hz) s.toks
 by_cases e:0<=k
 ·have hk:k.toNat=j:=by rw[Ro e c]at h1;exact Bp h1
  exact W.ki_setAt a e (by lia) (by rw[Ak,<-hl];exact c) (by rw[hk];exact⟨_,f,q⟩)
 ·have hk:(k+(its.toArray.size:Int)).toNat=j:=by rw[Qg (by lia) d]at h1;rw[Ak,<- hl];exact Bp h1
  exact W.ki_setBack a (by lia) (by rw[Ak,<-hl];exact d) (by lia) (by rw[hk];exact⟨_,f,q⟩)
def iF:V->List V->Hp->VK->Prop:=λo vs H Q=>∃p x xs sub zs y,o=.ref p/\vs=[y]/\H x=b3 (.nst xs sub)/\sub p=b3 zs/\zs.length<sizeLine/\Q .non (upd H x (.nst xs (Q9 sub p (zs++[y]))))
def iL:MtM X "list.append" iF:=by intro aa s σ H x vs v n Q I i j h;obtain⟨p,x,xs,sub,zs,y,rfl,rfl,e,g,hz,k⟩:=h;cases i;obtain⟨u,rfl,l⟩:=j.one;obtain⟨_,m⟩:=I.nst e;obtain⟨_,_,_,d,c,b,a⟩:=m p zs g;have o:=b.length;refine Fk Oi ⟨_,a,rfl⟩ Nq (Na _ _) (Ph p d.toArray c u (by rw[Ak];lia)) ⟨a,?_⟩;exact⟨.non,_,I.nstSub e g a (f:=Dg λz=>z.push u) (its':=d++[u]) (n':=c+1) (by simp[Dg]) (b.append (.cons l .nil)) (by rw[Bw,Eb];lia) s.toks,rfl,k⟩
end
noncomputable def O0:List (Option Nat)->List cU->Nat->cU->List cU
 |none::_,_::ds,0,d=>d::ds
 |none::sh,e::ds,j+1,d=>e::O0 sh ds j d
 |some k::sh,ds,j+1,d=>ds.take k++O0 sh (ds.drop k) j d
 |_,ds,_,_=>ds
noncomputable def Q5:List (Option Nat)->List cU->Nat->List cU->List cU
 |some k::_,ds,0,es=>es++ds.drop k
 |none::sh,e::ds,j+1,es=>e::Q5 sh ds j es
 |some k::sh,ds,j+1,es=>ds.take k++Q5 sh (ds.drop k) j es
 |_,ds,_,_=>ds
section
variable{K:Ah}{H:Hp}{N:Ul->Prop}{sub:Ul->Option (List V)}
theorem RH.setV{v:V}{d:cU}(b:∀p,v≠ .ref p)(c:bO K N H N v d):∀{xs vs:List V}{sh:List (Option Nat)}{ds:List cU}{d0:cU}{j:Nat},RH sub xs sh vs->b9 K N H vs ds->OX sh ds j=b3 d0->∃a,RH sub (xs.set j v) sh a/\b9 K N H a (O0 sh ds j d)
 |_,_,_,_,_,_,.nil,_,h=>by simp[OX]at h
 |_,_,_,_,_,0,.val _ t,.cons _ r,h=>⟨_,.val (λp e=>absurd e (b p)) t,.cons c r⟩
 |_,_,_,_,_,j+1,.val n t,.cons l r,h=>by obtain⟨a,g,f⟩:=RH.setV b c (j:=j) t r (by simpa[OX]using h);exact⟨_,.val n g,.cons l f⟩
 |_,_,_,_,_,0,.lst _ _ _,_,h=>by simp[OX]at h
 |_,_,_,ds,_,j+1,.lst (p:=p) (zs:=zs) hs ni t,r,h=>by
  have k:=r.take zs.length;have i:=r.drop zs.length;rw[Ip]at k;rw[Iq]at i;obtain⟨a,g,f⟩:=RH.setV b c (j:=j) t i (by simpa[OX]using h);refine⟨zs++a,.lst hs (λz=>?_) g,k.append f⟩;rcases List.mem_or_eq_of_mem_set z with z|z
  ·exact ni z
  ·exact b p z.symm
theorem RH.keep{p:Ul}{ys:List V}:∀{xs vs:List V}{sh:List (Option Nat)},RH sub xs sh vs->V.ref p∉xs->sub p≠b4->RH (Q9 sub p ys) xs sh vs
 |_,_,_,.nil,_,_=>.nil
 |_,_,_,.val (v:=v) n t,h,hp=>.val (λq e=>by unfold Q9;rw[if_neg λz=>h (by rw[e,z];exact Au)];exact n q e) (RH.keep t (λz=>h (An _ z)) hp)
 |_,_,_,.lst (p:=q) hs ni t,h,hp=>.lst (by unfold Q9;rw[if_neg λz=>h (by rw[z];exact Au)];exact hs) ni (RH.keep t (λz=>h (An _ z)) hp)
theorem RH.setL{p:Ul}{ys:List V}{d:List cU}(f:b9 K N H ys d):∀{xs vs zs:List V}{sh:List (Option Nat)}{ds:List cU}{j:Nat},RH sub xs sh vs->b9 K N H vs ds->xs[j]?=b3 (.ref p)->sub p=b3 zs->∃a,RH (Q9 sub p ys) xs (sh.set j (b3 ys.length)) a/\b9 K N H a (Q5 sh ds j d)
 |_,_,_,_,_,_,.nil,_,h,_=>by simp at h
 |_,_,_,_,_,0,.val n _,_,h,b=>by simp at h;rw[n p h]at b;cases b
 | _,_,_,_,_,j + 1,.val (v := v) n t,.cons r0 r,h,b => by
  obtain⟨a,i,g⟩:=RH.setL f (j:=j) t r (by simpa using h) b;refine⟨_,.val (λq e=>?_) i,.cons r0 g⟩;have l:q≠p:=λz=>by
   have:=n q e
   rw[z,b]at this;cases this
  unfold Q9;rw[if_neg l];exact n q e
 |_,_,_,_,ds,0,.lst (p:=q) (zs:=ws) hs' ni t,r,h,b=>by simp at h;subst h;have c:=r.drop ws.length;rw[Iq]at c;refine⟨ys++_,.lst (by unfold Q9;rw[if_pos rfl]) ni (t.keep ni (by rw[hs'];simp)),f.append c⟩
 |_,_,_,_,ds,j+1,.lst (p:=q) (zs:=ws) hs' ni t,r,h,b=>by have k:=r.take ws.length;have c:=r.drop ws.length;rw[Ip]at k;rw[Iq]at c;have h':=h;simp only[Lp]at h';obtain⟨a,i,g⟩:=RH.setL f (j:=j) t c h' b;refine⟨ws++a,.lst ?_ ni i,k.append g⟩;unfold Q9;rw[if_neg λz=>ni (by rw[z];exact Dt h')];exact hs'
end
section
variable{X:Cx}{K:Ah}{ml:List Nat}{a b c e:Us}{es:List Us}{H:Hp}{pa pb:Bool}{pos ai:Pos}{i j:Nat}
def BS{N:Ul->Prop}{x:Ul}{e c:List V}{sub i:Ul->Option (List V)}{xs:List V}{ds:List cU}(f:H x=b3 (.nst e sub))(g:N x)(h:b9 K N H xs ds):b9 K N (upd H x (.nst c i)) xs ds:=
 h.fr (P:=λb=>b=x) (λb u q n=>by
  by_cases d:b=x
  ·subst d
   rw[f]at q;cases q;exact absurd (n rfl) λz=>z
  ·rw[bZ d]
   exact q) λa z=>z▸g
def OQ{B:Bs}{O:Nat->Option Ul}{x:Ul}{d a vs:List V}{sub b:Ul->Option (List V)}{sh:List (Option Nat)}{ds:List cU}(c:H x=b3 (.nst d sub))(f:O i=b3 x)(ow:∀p zs,b p=b3 zs->H p=b3 (.own x))(sp:RH b a sh vs)(r:b9 K (Nn B O) H vs ds):SJ K (Nn B O) (upd H x (.nst a b)) x (.nst sh ds):=by refine .nst ⟨a,b,cA,λp zs e=>?_,sp⟩ (BS c (.inr ⟨i,f⟩) r);have h:=ow p zs e;rw[bZ (QZ h c λz=>nomatch z)];exact h
def C6{n j:Nat}(h:j<n):AZ n (j:Int)=b3 j:=by unfold AZ;rw[if_pos (by lia),if_pos (by lia)];simp
def D6(i j:Nat)(fv:VF):VS:=λδ=>(fv δ).bind λp=>match p.1,p.2[i]? with
 |.int k,b3 (.ow (.nst sh ds))=>(OX sh ds j).map λ_=>.nx (p.2.set i (.ow (.nst sh (O0 sh ds j (.int k)))))
 |_,_=>b4
def qZ{fv:VF}(E:PE X a (V8 i))(hi:PE X b (tC (.int (j:Int))))(A:PE X c (TV K ml pb ba ba fv))(F:∀v,assign (.Subscript a b ai) X.env v=(do
   let f<-Ko [v] (eval a X.env)
   let l<-Ko [v,f] (eval b X.env)
   Tb ai
   Ko [v,f,l] (Pe f l v)
   release [v,f,l] []):=by intro _;rfl)
  (C:Ey [.Subscript a b ai] c pos.line X.env=pure bb:=by rfl) (hw:Ez [.Subscript a b ai] c X.env=pure b4:=by rfl)
  (h1:(Ut [.Subscript a b ai] X.env).map (·.2)=[assign (.Subscript a b ai) X.env]:=by rfl):PS X (.Assign [.Subscript a b ai] c pos) (WH K ml (D6 i j fv)):=
 (QB A (Zd E hi D9 F) C hw h1).imp λD σ H m => by
  obtain⟨B,O,δ,o,S,q,k⟩:=m;unfold D6 at q;obtain⟨⟨z,δ1⟩,h1,q⟩:=Aa.mp q;simp only at q;split at q
  ·rename_i h sh ds hd
   obtain⟨d0,h2,q⟩:=Ap.mp q;cases q;refine⟨B,O,δ,_,δ1,S,h1,λg H1 n=>?_⟩;obtain⟨x,t,J,w⟩:=n.sta.ow i _ hd;cases w with
   |nst q0 r=>
    obtain⟨xs,sub,e,ow,sp⟩:=q0;have s:bO K (Nn B O) H1 (Nn B O) g (.int h):=n.rep;have G:g=.int h:=s.onI;obtain⟨u,s1,y⟩:=sp.setV (v:=g) (d:=.int h) (λp z=>by rw[G]at z;cases z) s r h2;obtain⟨L,I,_⟩:=sp.getV r h2;exact⟨.ref x,J,x,xs,sub,j,j,rfl,rfl,e,C6 (Ag.mp I).1,k σ _ O (n.sta.wrote t (λz=>z) (OQ e t ow s1 y))⟩
  ·cases q
def D4(i j:Nat)(fs:RJ):VS:=λδ=>(part δ i j).bind λ_=>(fs δ).bind λr=>match r.1,r.2[i]? with
 |[d],b3 (.ow (.nst sh ds))=>(NC sh ds j).bind λzs=>if zs.length<16777216 then b3 (.nx (r.2.set i (.ow (.nst (sh.set j (b3 (zs.length+1))) (Q5 sh ds j (zs++[d]))))))else b4
 |_,_=>b4
def nB{fs:RJ}{ao ae cj:Pos}(ho:PE X a (V8 i))(hi:PE X b (tC (.int (j:Int))))(ha:PA X (e::es) (TAV K ml ba ba fs))(hK:X.K=K:=by rfl)(hx:W0 b:=by exact λ_ _=>rfl)(bh:Gi (.Subscript a b cj) "append" X.env (eval (.Subscript a b cj) X.env)=eval (.Subscript a b cj) X.env:=by rfl)(cm:((Fb ae (Um (e::es) X.env)).all (λx=> !x.1)&&(Lg ae (Hg [] X.env)).all (λx=>x.1.isSome)&&decide ((e::es).length+([]:List Hh).length+(if([]:List Hh).isEmpty then 0 else 1)<30))=ba:=by rfl)(az:(ao.endLine==ae.line)=ba:=by rfl)(hs:SE X e es:=by rfl)(aw:(Fb ae (Um es X.env)).any (·.1)=bb:=by rfl)(C:Hm (.Call (.Attribute (.Subscript a b cj) "append" ao) (e::es) [] ae) b4 pos.line X.env=pure bb:=by rfl):PS X (.Expr (.Call (.Attribute (.Subscript a b cj) "append" ao) (e::es) [] ae) pos) (WH K ml (D4 i j fs)):=by
 subst hK;refine(DO (kBm (K:=X.K) rfl Gj Bi Bj iL (NO (A0 rfl) ho hi hx) ha bh cm az hs aw) C).imp λD σ H F=>?_;obtain⟨B,O,δ,o,S,q,k⟩:=F;unfold D4 at q;obtain⟨d0,L,q⟩:=Aa.mp q;obtain⟨⟨es',δ1⟩,h1,q⟩:=Aa.mp q;simp only at q;split at q
 ·rename_i d sh ds hd
  obtain⟨zs,h2,q⟩:=Aa.mp q;split at q
  ·rename_i hz
   cases q;obtain⟨x,xs,sub,v,Q,ex,s⟩:=TR S L;obtain⟨sh0,ds0,es0,e7,e8,_⟩:=V4 L;obtain⟨x',I,n,Y⟩:=S.ow i _ e7;rw[Q]at n;cases n;cases Y with
   |nst q0 r0=>
    obtain⟨V,mw,m,A,u⟩:=q0;rw[ex]at m;cases m;obtain⟨p,r,P,f,_⟩:=u.getL r0 e8;rw[s]at P;cases P;refine⟨.ref x,Q,x,xs,j,.ref p,rfl,rfl,.inl (.inl (.inr ⟨xs,sub,xs,rfl,.inr ⟨ex,rfl⟩⟩)),KI s,.inl ⟨rfl,r,.inl (.inl (.inr ⟨xs,sub,r,rfl,.inl ⟨x,A p r f,ex,f⟩⟩))⟩,B,O,δ,[d],δ1,S,h1,λvs H1 R=>?_⟩;have c:=R.pur rfl _ _ ex;obtain⟨x2,f1,_,w⟩:=R.sta.ow i _ hd;rw[I]at f1;cases f1;have rr:=R.rep;cases rr with
    | @cons y _ _ _ hv t=>
     cases t;cases w with
     |nst q1 J=>
      obtain⟨U,mv,l,h,g⟩:=q1;rw[c]at l;cases l;obtain⟨p',W,N,M,rz⟩:=g.getL J h2;rw[s]at N;cases N;rw[f]at M;cases M;have hl:=rz.length;obtain⟨Z,s1,s2⟩:=g.setL (rz.snoc hv) J s f;rw[Bw,Eb,hl]at s1;refine⟨p,x,xs,sub,r,y,rfl,rfl,c,f,by rw[hl,Cf];exact hz,k σ _ O (R.sta.wrote I (λz=>z) (OQ c I (λq T G=>?_) s1 s2))⟩;unfold Q9 at G;split at G
      ·rename_i E
       subst E;exact h _ _ f
      ·exact h _ _ G
  ·cases q
 ·cases q
end
def AI(l b j:Ul)(u:Array Uk)(n m:Nat)(k:Int)(t:Vf)(y:0<=k)(h1:k<=u.size)(hz:u.size<=sizeLine)(a:l≠b):Meets (Ej.«list.__setitem__» ⟨[.ref l,.ref j,.ref b],[]⟩) (λ_ R s=>s.heap.get? l=b3 ⟨.type "list",b4,.seq u n,#[]⟩/\s.heap.get? b=b3 ⟨.type "list",b4,.seq #[] m,#[]⟩/\s.heap.get? j=b3 ⟨.type "slice",b4,.fields #[.int k t,.none,.none],#[]⟩/\R (.ok (.ret .none)) {s with heap:=s.heap.update l (Dg λx=>x.extract 0 k.toNat++x.extract u.size)}):=
 .of_wp λprog w A R s h=>by
  obtain⟨v,g,d,tk,os⟩:=s;obtain⟨hl,p,o,h⟩:=h;have f1:=Ja;have f2:=Kz;have f3:=Mf;have D:=Lq;have C:=Lr;have B:=slice_no_index;unfold Ej.«list.__setitem__»;wp_walk using Bg hl,Bg p,Bg o
  have r:La (.ref l) (.ref b)=bb:=by simp[La,a]
  have z:sliceIndices (rawInt k) Value.none Value.none u.size=pure (k,(u.size:Int),1):=by
   have:=sliceIndices_raw (b3 k) b4 b4 u.size (by simp)
   have e:max 0 (min (if k<0 then k+(u.size:Int)else k) (u.size:Int))=k:=by rw[if_neg (by omega)];omega
   simpa[rawPart,Hf,e]using this
  simp only[r,De,if_false];wp_walk using Bg hl,Bg p,Bg o
  have q:Ea (u.size+(#[]:Array Uk).size)=bb:=by simp[Ea];exact hz
  have i:(max k (u.size:Int)).toNat=u.size:=by omega
  rw[q];simp only[De,if_false,i];have f:(λxs:Array Uk=>xs.extract 0 k.toNat++ #[]++xs.extract u.size)=λxs=>xs.extract 0 k.toNat++xs.extract u.size:=by funext xs;simp
  rw[f];have c:(u.extract 0 k.toNat++u.extract u.size).size<=sizeLine+1:=by rw[Px,Ow,Ow];omega
  refine Ac (wpAny_updateSeq hl rfl (hz:=hz) (_hz':=c) ?_);refine Ac (Nv ?_);exact Aj ⟨_,rfl,h⟩
section
variable{prog:Av}{w:Uu}{A:Cc}{E:Uk->Af->Prop}{s:Af}
def HY{l b a:Ul}{u:Array Uk}{n m:Nat}{k:Int}{t:Vf}{Q:Unit->Af->Prop}(g:0<=k)(h1:k<=u.size)(hz:u.size<=sizeLine)(c:l≠b)(hl:s.heap.get? l=b3 ⟨.type "list",b4,.seq u n,#[]⟩)(f:s.heap.get? b=b3 ⟨.type "list",b4,.seq #[] m,#[]⟩)(e:s.heap.get? a=b3 ⟨.type "slice",b4,.fields #[.int k t,.none,.none],#[]⟩)(h:Q () {s with heap:=s.heap.update l (Dg λx=>x.extract 0 k.toNat++x.extract u.size)}):Uo (Ur prog w) A (Pe (.ref l) (.ref a) (.ref b)) Q E s:=by
 have d:s.heap.IsList l u:=PySem.IsL.isList hl;unfold Pe;refine Bt ?_;refine Ac (Ig d.typeIs (by decide) ?_);refine Ac (Cw (name:=Be "__setitem__") d.typeIs Py
  (Fk Py d.typeIs entry_list_setitem (args_list_setitem _ _ _) (AI l b a u n m k t g h1 hz c) ⟨hl,f,e,?_⟩))
 exact Aj h
end
section
variable{X:Cx}{o lo:Us}{to tl:TE}{pos p2:Pos}
def gCut(to tl:TE):TG:=λv σ H Q=>to σ H λx H1=>tl σ H1 λy H2=>∃b p a xs sub zs k,v=.ref b/\x=.ref p/\y=.int k/\H2 b=b3 (.lst [])/\H2 a=b3 (.nst xs sub)/\sub p=b3 zs/\0<=k/\k<=zs.length∧
 Q σ (upd H2 a (.nst xs (Q9 sub p (zs.take k.toNat))))
def kT(A:PE X o to)(hl:PE X lo tl):PG X (.Subscript o (.Slice (b3 lo) b4 b4 p2) pos) (gCut to tl):=by
 intro aa s σ H v u Q I r h;rw[arm_assign_Subscript];refine Ac (Bt (ZL (A aa s σ H _ I h) λK s1 ⟨x,H1,F,l,q1⟩=>?_));refine Ac (Bt (wpAny_Slice ?_));rw[evalPart_some,Oh];refine ZL (hl aa s1 σ H1 _ F q1) λJ a ⟨y,H2,E,c,q2⟩=>Aj (Aj ?_);obtain⟨b,p,G,xs,sub,zs,k,rfl,rfl,rfl,j,g,i,C,h1,q⟩:=q2;cases r;cases l;obtain⟨t,rfl⟩:=c;have d:cF X aa σ H2 {a with heap:=a.heap.push {cls:=.type "slice",data:=.fields #[.int k t,.none,.none]}}:=E.kept (t':=a.toks) λb L q=>Ae _ q;obtain⟨_,w⟩:=d.nst g;obtain⟨_,m,hz,its,n,f,e⟩:=w p zs i;obtain⟨_,N,M,c,B,D⟩:=d.lstM j;cases c;have O:=f.length;refine Ac (Gh (Ac (Bt (HY (t:=t) C (by rw[Ak];lia) (by rw[Ak];lia) (QZ m j λz=>nomatch z) e D (As _ rfl) ?_))));refine wpAny_release ⟨σ,_,d.nstSub g i e (its':=its.take k.toNat) (n':=if min k.toNat its.length=its.length then n else n+1) ?_ (f.take _) ?_ _,q⟩
 ·simp[Dg]
 ·rw[Cr];lia
end
section
variable{X:Cx}{K:Ah}{ml:List Nat}{a b c e:Us}{H:Hp}{pos ai p2 cj:Pos}{i j:Nat}
def LR(i j:Nat)(fv fk:VF):VS:=λδ=>(fv δ).bind λp=>match p.1 with
 |.lst []=>(part p.2 i j).bind λ_=>(fk p.2).bind λr=>match r.1,r.2[i]? with
  |.int k,b3 (.ow (.nst sh ds))=>(NC sh ds j).bind λzs=>if 0<=k/\k<=zs.length then b3 (.nx (r.2.set i (.ow (.nst (sh.set j (b3 k.toNat)) (Q5 sh ds j (zs.take k.toNat))))))else b4
  |_,_=>b4
 |_=>b4
def pG{fv fk:VF}(ho:PE X a (V8 i))(hi:PE X b (tC (.int (j:Int))))(hk:PE X e (TV K ml ba ba ba fk))(hv:PE X c (TN K ml ba fv))(hK:X.K=K:=by rfl)(hx:W0 b:=by exact λ_ _=>rfl)(hs:Ey [.Subscript (.Subscript a b cj) (.Slice (b3 e) b4 b4 p2) ai] c pos.line X.env=pure bb:=by rfl)(hw:Ez [.Subscript (.Subscript a b cj) (.Slice (b3 e) b4 b4 p2) ai] c X.env=pure b4:=by rfl)(h1:(Ut [.Subscript (.Subscript a b cj) (.Slice (b3 e) b4 b4 p2) ai] X.env).map (·.2)=[assign (.Subscript (.Subscript a b cj) (.Slice (b3 e) b4 b4 p2) ai) X.env]:=by rfl):PS X (.Assign [.Subscript (.Subscript a b cj) (.Slice (b3 e) b4 b4 p2) ai] c pos) (WH K ml (LR i j fv fk)):=by
 refine(QB hv (kT (NO (A0 hK) ho hi hx) hk) hs hw h1).imp λD σ H F=>?_;obtain⟨B,O,δ,o,S,q,k⟩:=F;unfold LR at q;obtain⟨⟨z,g⟩,h0,q⟩:=Aa.mp q;simp only at q;split at q
 case h_2=>cases q
 obtain⟨d0,L,q⟩:=Aa.mp q;obtain⟨⟨dk,δ1⟩,h1,q⟩:=Aa.mp q;simp only at q;split at q
 case h_2=>cases q
 rename_i d sh ds hd;obtain⟨zs,h2,q⟩:=Aa.mp q;split at q
 case isFalse=>cases q
 rename_i hz;cases q;refine⟨B,O,δ,.lst [],g,S,h0,λpb H1 u=>?_⟩;have hb:H1 pb=b3 (.lst []):=by
  have w:=u.own;cases w with
  |lst Z Y=>cases Y;exact Z
 obtain⟨x,xs,sub,v,Q,ex,t⟩:=TR u.sta L;obtain⟨sh0,ds0,es0,e7,e8,_⟩:=V4 L;obtain⟨x',I,r,w0⟩:=u.sta.ow i _ e7;rw[Q]at r;cases r;cases w0 with
 |nst q0 r0=>
  obtain⟨V,mw,n,ow0,C⟩:=q0;rw[ex]at n;cases n;obtain⟨p,A,P,s,_⟩:=C.getL r0 e8;rw[t]at P;cases P;refine⟨.ref x,Q,x,xs,j,.ref p,rfl,rfl,.inl (.inl (.inr ⟨xs,sub,xs,rfl,.inr ⟨ex,rfl⟩⟩)),KI t,B.add pb,O,g,.int d,δ1,u.sta,h1,λy H2 R=>?_⟩;have f:=R.pur rfl _ _ ex;have ey:y=.int d:=by exact R.rep.onI
  obtain⟨x2,f1,_,w⟩:=R.sta.ow i _ hd;rw[I]at f1;cases f1;cases w with
  |nst q1 J=>
   obtain⟨U,mv,m,l,h⟩:=q1;rw[f]at m;cases m;obtain⟨p',W,N,M,rz⟩:=h.getL J h2;rw[t]at N;cases N;rw[s]at M;cases M;have hl:=rz.length;obtain⟨vs',s1,s2⟩:=h.setL (rz.take d.toNat) J t s;have hm:(A.take d.toNat).length=d.toNat:=by rw[Cr,hl];lia
   rw[hm]at s1;refine⟨pb,p,x,xs,sub,A,d,rfl,rfl,ey,R.pur rfl _ _ hb,f,s,hz.1,by rw[hl];exact hz.2,k σ _ O (aU.unadd (p:=pb) (R.sta.wrote (o:=.nst xs (Q9 sub p (A.take d.toNat))) I (λz=>z) (OQ f I (λq T G=>?_) s1 s2)))⟩;unfold Q9 at G;split at G
   ·rename_i E
    subst E;exact l _ _ s
   ·exact l _ _ G
end
section
variable{X:Cx}{K:Ah}{ml:List Nat}{a b c e:Us}{H:Hp}{pos ai:Pos}{i j k:Nat}{pu:Bool}
def D5(i j k:Nat)(fs:RJ):VS:=λδ=>(fs δ).bind λr=>match r.1,r.2[i]? with
 |[.int n,.int d],b3 (.ow (.nst sh ds))=>(OX sh ds j).bind λ_=>if k<r.2.length then b3 (.nx ((r.2.set i (.ow (.nst sh (O0 sh ds j (.int n))))).set k (.va (.int d))))else b4
 |_,_=>b4
def qp{y:Uq}{fs:RJ}{f pt g:Pos}{kt k2}(hc:X.calm=ba)(W:X.N.Nodup)(hk:X.N[k]?=b3 y)(s:X.env.scope.names.lookup y=b3 .local)(T:PE X a (V8 i))(hi:PE X b (tC (.int (j:Int))))(M:PA X [c,e] (TAV K ml pu ba fs))(hK:X.K=K:=by rfl)(U:k∉ml:=by decide)(V:∀v,assign (.Subscript a b ai) X.env v=(do
   let h<-Ko [v] (eval a X.env)
   let l<-Ko [v,h] (eval b X.env)
   Tb ai
   Ko [v,h,l] (Pe h l v)
   release [v,h,l] []):=by intro _;rfl)
  (P:Ey [.Tuple [.Subscript a b ai,.Name y f] kt pt] (.Tuple [c,e] k2 g) pos.line X.env=pure bb:=by rfl) (hw:Ez [.Tuple [.Subscript a b ai,.Name y f] kt pt] (.Tuple [c,e] k2 g) X.env=pure b4:=by rfl)
  (h1:(Ut [.Tuple [.Subscript a b ai,.Name y f] kt pt] X.env).map (·.2)=[assign (.Tuple [.Subscript a b ai,.Name y f] kt pt) X.env]:=by rfl)
  (h2:(Ut [.Subscript a b ai,.Name y f] X.env).map (·.2)=assign (.Subscript a b ai) X.env::(Ut [.Name y f] X.env).map (·.2):=by rfl)
  (h3:(Ut [.Name y f] X.env).map (·.2)=assign (.Name y f) X.env::(Ut [] X.env).map (·.2):=by rfl)
  (Z:(Ut [.Subscript a b ai,.Name y f] X.env).length=2:=by rfl) (Y:(Ut [.Subscript a b ai,.Name y f] X.env).findIdx? (·.1)=b4:=by rfl):
  PS X (.Assign [.Tuple [.Subscript a b ai,.Name y f] kt pt] (.Tuple [c,e] k2 g) pos) (WH K ml (D5 i j k fs)):=by
 refine(QB (FH M) (Xl hc (V6 (Zd T hi D9 V) (V6 (Q2 W hk (.inl s) (.inr s)) JX h3) h2) Z Y) P hw h1).imp λD σ H m=>?_;obtain⟨B,O,δ,o,S,q,L⟩:=m;unfold D5 at q;obtain⟨⟨zs,δ1⟩,h1,q⟩:=Aa.mp q;simp only at q;split at q
 case h_2=>cases q
 rename_i n d sh ds hd;obtain⟨d0,h2,q⟩:=Aa.mp q;split at q
 case isFalse=>cases q
 rename_i hl;cases q;refine⟨B,O,δ,_,δ1,S,h1,λvs H1 R=>?_⟩;have G:=R.rep;cases G with
 | @cons E _ _ _ J t=>
  cases t with
  | @cons C _ _ _ I t=>
   cases t;have e1:E=.int n:=J.onI;have e2:C=.int d:=I.onI;subst e1 e2;refine⟨by show 2<=sizeLine;decide,λp Q=>?_⟩;have u:=R.sta.same (cP (o:=.tup [.int n,.int d]) Q);obtain⟨x,f1,f2,w⟩:=u.ow i _ hd;cases w with
   |nst q0 r=>
    obtain⟨xs,sub,ex,ow,sp⟩:=q0;obtain⟨A,s1,F⟩:=sp.setV (v:=.int n) (d:=.int n) (λp z=>by cases z) (.int n) r h2;obtain⟨v0,e3,_⟩:=sp.getV r h2;have S3:=u.wrote (o:=.nst (xs.set j (.int n)) sub) f1 (λz=>z) (OQ ex f1 ow s1 F);have S4:=S3.setVa (i:=k) (v:=.int d) (d:=.int d) U (.int d);exact⟨p,_,rfl,.inl (.inl (.inl cA)),rfl,_,_,rfl,.ref x,f2,x,xs,sub,j,j,rfl,rfl,ex,C6 (Ag.mp e3).1,_,_,rfl,rfl,L _ _ _ S4⟩
end
section
variable{X:Cx}{aa:List (Ul×Uw)}{σ:St}{H:Hp}{s:Af}{a q:Ul}{xs zs:List V}
def subq(q:Ul)(zs:List V):Ul->Option (List V):=λr=>if r=q then b3 zs else b4
def LX{q r:Ul}{zs a:List V}(h:subq q zs r=b3 a):r=q/\a=zs:=by
 unfold subq at h;split at h
 ·rename_i e
  cases h;exact⟨e,rfl⟩
 ·cases h
def XR(H:Hp)(a q:Ul)(xs zs:List V):Hp:=upd (upd H q (.own a)) a (.nst xs (subq q zs))
def V3{b:Ul}(h1:b≠a)(h2:b≠q):XR H a q xs zs b=H b:=by unfold XR;rw[bZ h1,bZ h2]
def DK:XR H a q xs zs a=b3 (.nst xs (subq q zs)):=cA
def JV(n:q≠a):XR H a q xs zs q=b3 (.own a):=by unfold XR;rw[bZ n,cA]
def UU.XR{P:Av}{w:Uu}{h:Uv}(ok:UU P w H h)(e:H a=b3 (.lst xs))(f:H q=b3 (.lst zs))(n:q≠a):UU P w (L2.XR H a q xs zs) h:=by
 intro b u d;by_cases h1:b=a
 ·subst h1
  rw[DK]at d;cases d;refine⟨ok b _ e,λr g i=>?_⟩;obtain⟨rfl,rfl⟩:=LX i;obtain⟨z,k⟩:=(show Z8 P w H h r (.lst g) from ok r _ f);exact⟨n,JV n,z,k⟩
 ·by_cases h2:b=q
  ·subst h2
   rw[JV n]at d;cases d;obtain⟨_,_,_,_,j⟩:=ok b _ f;exact⟨_,j⟩
  ·rw[V3 h1 h2]at d
   refine(ok b u d).stay (λ_ _ _ z=>z) (λc hc=>?_) λc zs hc=>?_
   ·rw [V3 (QZ hc e λz => nomatch z) (QZ hc f λz => nomatch z)]
    exact hc
   ·rw [V3 (QZ hc e λz => nomatch z) (QZ hc f λz => nomatch z)]
    exact hc
def cF.XR(I:cF X aa σ H s)(e:H a=b3 (.lst xs))(d:H q=b3 (.lst zs))(n:q≠a):cF X aa σ (L2.XR H a q xs zs) s:=by
 have kp:∀b u,H b=b3 u->(∀f,u≠ .lst f)->L2.XR H a q xs zs b=b3 u:=λb u h h2=>by rw[V3 (QZ h e (h2 _)) (QZ h d (h2 _))];exact h
 have fr:∀b o,s.heap.get? b=b3 o->H b=b4->L2.XR H a q xs zs b=b4:=λb o h c=>by rw[V3 (ZD e c).symm (ZD d c).symm];exact c
 have u:Un X.fs [] H (L2.XR H a q xs zs) s.heap s.heap:=⟨λb o h _ _ _=>h,λb o h _ _ _=>⟨o.slots,h⟩,λb o h c _=>fr b o h c,λb o h _=>⟨o,h⟩,λb zs h=>kp b _ h (λ_ z=>nomatch z),λb o v h=>kp b _ h (λ_ z=>nomatch z),λb zs h=>⟨#[],by simpa using kp b _ h (λ_ z=>nomatch z)⟩⟩;exact I.un (h':=s.heap) (t':=s.toks) u (I.hok.XR e d n)
end
section
variable{X:Cx}{K:Ah}{ml:List Nat}{e:Us}{H:Hp}{pos ai:Pos}{n:Int}
def qr(n:Int):TE:=λ_ H Q=>∀q p,H q=b4->H p=b4->q≠p->Q (.ref p) (XR (upd (upd H q (.lst [])) p (.lst [.int n,.ref q])) p q [.int n,.ref q] [])
def oB(h:PE X e (tC (.int n)))(h1:Um [e,.List [] ai] X.env=(bb,eval e X.env)::Um [.List [] ai] X.env:=by rfl)(h2:Um [.List [] ai] X.env=(bb,eval (.List [] ai) X.env)::Um [] X.env:=by rfl):PE X (.List [e,.List [] ai] pos) (qr n):=by
 intro aa s σ H Q I k;refine ZL ((JW (bW h (bW (JW Z9) Z9 h2) h1)) aa s σ H (λv H'=>∃q p,H q=b4/\H p=b4/\q≠p/\v=.ref p/\H'=upd (upd H q (.lst [])) p (.lst [.int n,.ref q])) I ?_) λu s1 ⟨v,H1,f,d,q1⟩=>?_
 ·refine ⟨by decide,λq b => ⟨by show 2 <= sizeLine;decide,λp a => ⟨q,p,b,?_,?_,rfl,rfl⟩⟩⟩
  ·have : p ≠ q := λz => by rw [z,cA]at a;cases a
   rwa[bZ this]at a
  ·intro z
   rw[z,cA]at a;cases a
 ·obtain⟨q,p,b,a,c,rfl,rfl⟩:=q1
  exact⟨.ref p,_,f.XR cA ((bZ c).trans cA) c,d,k q p b a c⟩
end
section
variable{X:Cx}{K:Ah}{ml:List Nat}{e a b c:Us}{es:List Us}{pa ps:Bool}{fa:VF}{H:Hp}{σ:St}{δ δ':Ev}{v:V}{d d0:cU}{p:Ul}{pos:Pos}{i j:Nat}
def gS{n:Int}{q p:Ul}{N:Ul->Prop}(c:H q=b4)(d:H p=b4)(b:q≠p):SJ K N (XR (upd (upd H q (.lst [])) p (.lst [.int n,.ref q])) p q [.int n,.ref q] []) p (.nst [b4,b3 0] [.int n]):=by refine .nst (vs:=[.int n]) ⟨_,_,DK,λr zs a=>?_,.val (λr z=>nomatch z) (.lst (zs:=[]) (vs:=[]) (by unfold subq;rw[if_pos rfl]) (λz=>nomatch z) .nil)⟩ (.cons (.int n) .nil);obtain⟨rfl,_⟩:=LX a;exact JV b
def BX{n:Int}{q p:Ul}(c:H q=b4)(d:H p=b4):bA H (XR (upd (upd H q (.lst [])) p (.lst [.int n,.ref q])) p q [.int n,.ref q] []):=λb o a=>by
 have h1:b≠p:=λz=>by rw[z,d]at a;cases a
 have h2:b≠q:=λz=>by rw[z,c]at a;cases a
 rw[V3 h1 h2,bZ h1,bZ h2];exact a
def jD{j:Nat}{n:Int}{f c:Pos}(t:PE X a (tC (.int n)))(s:PE X b (V8 j))(m:Um [.List [a,.List [] c] f,b] X.env=(bb,eval (.List [a,.List [] c] f) X.env)::Um (b::[]) X.env:=by rfl)(g:SE X b []:=by rfl)(h1:Um [a,.List [] c] X.env=(bb,eval a X.env)::Um [.List [] c] X.env:=by rfl)(h2:Um [.List [] c] X.env=(bb,eval (.List [] c) X.env)::Um [] X.env:=by rfl):
  PA X [.List [a,.List [] c] f,b] (TAGG K ml ba (.nst [b4,b3 0] [.int n]) (aE (fV j) b7)):=(bW (oB t h1 h2) (bW s Z9 g) m).imp λσ H Q h=>by
 obtain⟨B,O,δ,as,δ2,S,q,k⟩:=h;unfold aE at q;obtain⟨z,h1,q⟩:=Aa.mp q;cases q;unfold fV at h1;split at h1
 ·rename_i d hd
  cases h1;intro q p l i o;obtain⟨v,e,r⟩:=S.va j _ hd;exact⟨v,e,k [v] H ⟨S,Fr.refl _ _,λ_=>bA.refl _,.d r .nil⟩ [] v rfl p _ ⟨i,BX l i,λN=>gS l i o⟩⟩
 ·cases h1
def qQ{x:Uq}{d j i:Nat}{g:List Uq}{mF:List Nat}{F:bP}{y:Ul}{p':Pos}{fs:T1}(D:Def X.prog X.w K X.mg X.base x d g (spV K (mF++[i]) (i+2) F) y)(m:YT j X.A)(t:PA X (e::es) (TAGG K ml ps d0 fs))(u:X.K=K:=by rfl)(o:∀j∈mF,j<i:=by decide)(hk:d<=j:=by decide)(r:Gl X x:=by rfl)(c:ND x:=by decide)(s:SE X e es:=by rfl)(b:(Fb pos (Um es X.env)).any (·.1)=bb:=by rfl):PE X (.Call (.Name x p') (e::es) [] pos) (TV K ml (ps&&mF.isEmpty) ba ba (cI (i+1) mF (E3 d0 i F) fs)):=by subst u;refine(NN D m hk r t c s b).imp λσ H Q h=>?_;obtain⟨B,O,δ,as,δ',S,q,k⟩:=OR h;refine⟨B,O,δ,as,δ',S,q,λvs H' R a v l p H2 hw=>?_⟩;obtain⟨n,f,own⟩:=hw;subst l;have z:spV X.K mF (i+1) (E3 d0 i F) ((a++[v])++[]) H' Q E0:=k _ H' R;show spV X.K (mF++[i]) (i+2) F ((a++[.ref p,v])++[]) H2 Q E0;rw[Eo]at z⊢;exact IB o n f own z
end
def recV(f:bP->bP):Nat->bP
 |0=>λ_=>b4
 |n+1=>f (recV f n)
def DG{P:Av}{w:Uu}{K:Ah}{mg:Uq->Option Uk}{base:Uv}{k n:Nat}{f:Ul}{fd:Dw}{ps:List Uq}{ml:List Nat}:aA P w K mg base CX0 k f fd ps (spV K ml n λ_=>b4):=by
 refine⟨λvs H Q E h=>?_,λA outer s H args a vs Q E _ _ _ _ h=>?_⟩<;>
 ·obtain⟨_,_,_,_,_,_,h,_⟩:=h
  cases h
def Z8.alive{P:Av}{w:Uu}{H:Hp}{h:Uv}{a:Ul}{o:HO}(x:Z8 P w H h a o):∃u,h.get? a=b3 u:=by
 cases o with
 |lst xs=>obtain⟨_,_,_,_,e⟩:=x;exact⟨_,e⟩
 |tup xs=>obtain⟨_,_,_,b,e,_⟩:=x;exact⟨_,e⟩
 |dK kvs=>obtain⟨_,_,_,_,o,_,_,e,_⟩:=x;exact⟨_,e⟩
 |dT kvs=>obtain⟨_,_,_,_,o,_,_,e,_⟩:=x;exact⟨_,e⟩
 |set S n=>obtain⟨o,_,_,_,e,_⟩:=x;exact⟨_,e⟩
 |ins C dx fs=>obtain⟨_,_,_,e,_⟩:=x;exact⟨_,e⟩
 |own y=>exact x
 |xd fs=>obtain⟨_,⟨_,_,_,e,_⟩,_⟩:=x;exact⟨_,e⟩
 |rng lo hi=>obtain⟨_,_,_,e⟩:=x;exact⟨_,e⟩
 |frz b u=>obtain⟨e,_⟩:=x;exact⟨_,e⟩
 |tbl ps=>exact⟨_,(show h.get? a=b3 _ from x)⟩
 |met f y=>exact⟨_,(show h.get? a=b3 _ from x)⟩
 |nst xs sub=>obtain⟨⟨_,_,_,_,e⟩,_⟩:=x;exact⟨_,e⟩
 |ext c=>exact x.2.1
structure XP(K:Ah)(C Cp:Ul):Prop where
 at_:Gs K Up "PackError"=b3 (b3 (.ref Cp))
 ty:W.typeIn K (.ref Cp)=b3 (.type "type")
 cls:(Tp K Cp).isSome=ba
 base:Tl K (.ref Cp) (.type "BaseException")=b3 ba
 sub:Tl K (.ref C) (.ref Cp)=b3 ba
structure XC(K:Ah)(x:Uq)(C:Ul):Prop where
 at_:Gs K Up x=b3 (b3 (.ref C))
 att:XA K C
 cls:(Tp K C).isSome=ba
 pk:∃Cp,XP K C Cp
structure XE(K:Ah)(x:Uq)(C:Ul):Prop where
 xc:XC K x C
 exc:W.excIn K C vbs "ValueError.__new__"=ba
def ExcF(l:List Env)(g:Uv)(H:Hp)(C:Ul)(p:Option Ul)(e:Uk)(h:Uv):Prop:=
 ∃a a0 B,e=.ref a/\Kn B l a (.ref C) a0 h/\Dc a p h/\(∀b o,g.get? b=b3 o->b∉SN l->∃o',h.get? b=b3 o'/\B.get? b=b3 o')/\∀b u,H b=b3 u->∃o,h.get? b=b3 o/\B.get? b=b3 o
def CXv(P:Av)(w:Uu):CXT:=λouter H s E e s'=>∃C p H1,s'.os=s.os/\Ld s'.gens/\Un (SN outer) [] H H1 s.heap s'.heap/\UU P w H1 s'.heap/\ExcF outer s.heap H1 C p e s'.heap/\E (.ref C) p H1
def C2{P:Av}{w:Uu}{H:Hp}{h h' B:Uv}(ok:UU P w H h)(st:B.StaysIn h')(i:∀b u,H b=b3 u->∃o,h.get? b=b3 o/\B.get? b=b3 o):UU P w H h':=λb u e=>
 (ok b u e).stay (λc v hc q => by
  have:∃u,H c=b3 u:=by
   rcases hc with rfl|hc
   ·exact⟨u,e⟩
   ·exact⟨_,hc⟩
  obtain⟨d,g⟩:=this;obtain⟨o,a,f⟩:=i c d g;rw[q]at a;cases a;exact st c v f) (λ_ q=>q) λ_ _ q=>q
section
variable{X:Cx}{aa:List (Ul×Uw)}{σ:St}{H H1:Hp}{s s':Af}{g h' B:Uv}{C a:Ul}{a0:Uk}
def cF.fly(I:cF X aa σ H s)(st:B.StaysIn h')(w:s.heap.UpToSlots h')(J:∀b o,X.s₀.heap.get? b=b3 o->b∉SN X.stack->∃o',s.heap.get? b=b3 o'/\B.get? b=b3 o')(O:∀p∈X.pn++aa,B.get? p.1=b3 p.2)(P:∀b u,H b=b3 u->∃o,s.heap.get? b=b3 o/\B.get? b=b3 o):cF X aa σ H {s with heap:=h'}:=by
 have C:∀b o,X.s₀.heap.get? b=b3 o->b≠X.env.locals:=λb o e=>Bb (Az (Aq e) I.ok.above);have j:∀b o,X.s₀.heap.get? b=b3 o->b∉X.fs->b∉SN X.stack:=λb o e a z=>(Am.mp (I.stkSub b z)).elim (C b o e) a;have G:∀b∈X.fs,∀o,s.heap.get? b=b3 o->∃y,h'.get? b=b3 {o with slots:=y}:=λb a o e=>by obtain⟨_,o',F,A⟩:=I.funs.mem a;rw[e]at F;cases F;exact w b o e A
 have E:∀x c,X.env.cells.lookup x=b3 c->∀v,s.heap.IsCell c v->h'.IsCell c v:=λx c _ v q0=>by
  obtain⟨o,L,hd⟩:=q0;obtain⟨y,e⟩:=w c o L λvs q=>by rw[hd]at q;cases q
  exact⟨_,e,hd⟩
 refine⟨I.ok,I.os,I.bare,⟨λb o e n a t=>?_,λb o e n a t=>?_,I.base.free,λb o e t=>?_,I.base.tups,I.base.frzs,I.base.tbls⟩,?_,λx c e=>?_,I.free,I.freeC,λp D=>?_,C2 I.hok st P,I.len⟩
 ·obtain⟨o',g,f⟩:=J b o e (j b o e a)
  rw[I.base.keep b o e n a t]at g;cases g;exact st b o f
 ·obtain⟨y,g⟩:=I.base.slot b o e n a t
  obtain⟨h,f⟩:=G b a _ g;exact⟨h,f⟩
 ·by_cases a:b∈X.fs
  ·obtain⟨o',g⟩:=I.base.there b o e t
   obtain⟨h,f⟩:=G b a _ g;exact⟨_,f⟩
  ·obtain⟨o',g,f⟩:=J b o e (j b o e a)
   exact⟨o',st b o' f⟩
 ·obtain⟨m,M,hl⟩:=I.loc
  refine⟨m,w.ns M,λi x v g f N=>?_⟩;obtain⟨u,r,l⟩:=hl i x v g f N;refine⟨u,r,?_⟩;rcases l with l|⟨k,c,e,z⟩
  ·exact .inl l
  ·exact .inr ⟨k,c,e,E x c e _ z⟩
 ·obtain⟨v,z⟩:=I.cell x c e
  exact⟨v,E x c e v z⟩
 ·obtain⟨e,n,K,A,d⟩:=I.pin p D
  exact⟨st _ _ (O p D),n,K,A,d⟩
structure Low(X:Cx)(aa:List (Ul×Uw))(g:Uv):Prop where
 s0:∀b o,X.s₀.heap.get? b=b3 o->b∉SN X.stack->∃o',g.get? b=b3 o'
 pin:∀p∈X.pn++aa,∃o,g.get? p.1=b3 o
def cF.low(I:cF X aa σ H s)(a:X.ex=[]):Low X aa s.heap:=
 ⟨λb o e _=>I.base.there b o e (by rw[a];simp),λp c=>⟨_,(I.pin p c).1⟩⟩
def cF.flyG(I:cF X aa σ H s)(lo:Low X aa g)(st:B.StaysIn h')(h:s.heap.UpToSlots h')(f:∀b o,g.get? b=b3 o->b∉SN X.stack->∃o',s.heap.get? b=b3 o'/\B.get? b=b3 o')(n:∀b u,H b=b3 u->∃o,s.heap.get? b=b3 o/\B.get? b=b3 o):cF X aa σ H {s with heap:=h'}:=by
 refine I.fly st h (λb o e c=>?_) (λp a=>?_) n
 ·obtain⟨o',m⟩:=lo.s0 b o e c
  exact f b o' m c
 ·obtain⟨o,e⟩:=lo.pin p a
  obtain⟨l,_,j,i,_⟩:=I.pin p a;obtain⟨o',d,k⟩:=f p.1 o e λz=>(Am.mp (I.stkSub _ z)).elim j i;rw[l]at d;cases d;exact k
def RzF(X:Cx)(R:Uq->Option Ul->St->Hp->Prop):Prop:=∀(aa:List (Ul×Uw)) (x:Uq) (C:Ul) (p:Option Ul) (σ:St) (H1:Hp) (e:Uk) (s':Af) (g:Uv),XC X.K x C->cF X aa σ H1 s'->ExcF X.stack g H1 C p e s'.heap->Low X aa g->R x p σ H1->X.xe e s'
def RzM(X:Cx)(R:Uq->Option Ul->St->Hp->Prop):Prop:=∀(aa:List (Ul×Uw)) (x:Uq) (C a:Ul) (args:List Uk) (σ:St) (H1:Hp) (h:Uv) (s':Af),XC X.K x C->cF X aa σ H1 {s' with heap:=h}->Heap.MadeExcOf h s'.heap a (.ref C) args->R x b4 σ H1->X.xe (.ref a) s'
end
section
variable{P:Av}{w:Uu}{K:Ah}{mg:Uq->Option Uk}{base:Uv}{N:List Uq}{qual:Uq}{scope:Vb}{f:Ul}{cd:Uk}{A:Cc}{outer:List Env}{s:Af}{H:Hp}{E:XK}
def rE(K:Ah)(E:XK):Uq->Option Ul->St->Hp->Prop:=λx p _ H1=>∀C,XC K x C->E (.ref C) p H1
def gT{aa:List (Ul×Uw)}{σ:St}{H1:Hp}{s':Af}{g h' B:Uv}{C a:Ul}{p:Option Ul}{a0:Uk}{d:Drawn}{tk:Nat}(O:Dc a p h')(I:cF (QS (CXv P w) P w K mg base N qual scope f cd A outer s H E) aa σ H1 s')(lo:∀b o,s.heap.get? b=b3 o->b∉SN (envOfC qual scope s.heap.objs.size f cd::outer)->∃o',g.get? b=b3 o')(k:Kn B outer a (.ref C) a0 h')(G:s'.heap.UpToSlots h')(Q:∀b o,g.get? b=b3 o->b∉SN (envOfC qual scope s.heap.objs.size f cd::outer)->∃o',s'.heap.get? b=b3 o'/\B.get? b=b3 o')(F:∀b u,H1 b=b3 u->∃o,s'.heap.get? b=b3 o/\B.get? b=b3 o)(M:E (.ref C) p H1):CXv P w outer H s E (.ref a) {s' with heap:=h',drawn:=d,toks:=tk}:=by
 have bs:Un (SN outer) [] H H1 s.heap s'.heap:=I.base;have r:s'.heap.FunFrames base (envOfC qual scope s.heap.objs.size f cd::outer):=I.stack;have j:∀b o,s.heap.get? b=b3 o->b∉SN outer->∃o',s'.heap.get? b=b3 o'/\B.get? b=b3 o':=λb o q c=>by
  have x:b∉SN (envOfC qual scope s.heap.objs.size f cd::outer):=λz=>by
   rcases Am.mp (show b∈s.heap.objs.size::SN outer from z)with z|z
   ·have:=Aq q
    rw[z]at this;exact absurd this (Ck _)
   ·exact c z
  obtain⟨o',e⟩:=lo b o q x;exact Q b o' e x
 have D:∀b∈SN outer,∀o,s'.heap.get? b=b3 o->∃v,h'.get? b=b3 {o with slots:=v}:=λb c o e=>by obtain⟨_,o',y,J⟩:=r.mem (An _ c:b∈s.heap.objs.size::SN outer);rw[e]at y;cases y;exact G b o e J
 refine⟨C,p,H1,I.os,I.bare,⟨λb o q n c m=>?_,λb o q n c m=>?_,bs.free,λb o q m=>?_,bs.tups,bs.frzs,bs.tbls⟩,C2 I.hok k.1 F,⟨a,a0,B,rfl,k,O,λb o e L=>?_,λb u e=>?_⟩,M⟩
 ·obtain⟨o',i,h⟩:=j b o q c
  rw[bs.keep b o q n c m]at i;cases i;exact k.1 b o h
 ·obtain⟨v,i⟩:=bs.slot b o q n c m
  obtain⟨l,t⟩:=D b c _ i;exact⟨l,t⟩
 ·by_cases c:b∈SN outer
  ·obtain⟨o',i⟩:=bs.there b o q m
   obtain⟨l,t⟩:=D b c _ i;exact⟨_,t⟩
  ·obtain⟨o',i,h⟩:=j b o q c
   exact⟨o',k.1 b o' h⟩
 ·obtain⟨o',i,h⟩:=j b o e L
  exact⟨o',k.1 b o' h,h⟩
 ·obtain⟨o,i,h⟩:=F b u e
  exact⟨o,k.1 b o h,h⟩
def J4:RzM (QS (CXv P w) P w K mg base N qual scope f cd A outer s H E) (rE K E):=by
 intro aa x C a args σ H1 h s' n I M r;have i:h.FunFrames base (envOfC qual scope s.heap.objs.size f cd::outer):=I.stack;have j:∀env∈(envOfC qual scope s.heap.objs.size f cd::outer),∀b,env.frame=b3 b->b∈SN (envOfC qual scope s.heap.objs.size f cd::outer):=λenv p b k=>Kj.mpr ⟨env,p,k⟩;have y:Dc a b4 s'.heap:=by obtain⟨t,e,_⟩:=M.there;exact Dc.of e
 refine IV (KD.leave _ _) y (wpAny_leaves_madeW (base:=W.hideAll h (SN (envOfC qual scope s.heap.objs.size f cd::outer))) (h:=h) (I.ok.frames.trans rfl) rfl (λb o q=>W.of_hideAll _ q) (W.funFrames_hide i j) M λh' t v _ _ m l=>?_);have c:h.UpToSlots h':=(Tq M.keeps).trans m;exact gT (s':={s' with heap:=h}) (g:=h) (d:=s'.drawn) (tk:=s'.toks) l I (λb o q _=>I.base.there b o q (λz=>nomatch z)) v c (λb o e k=>⟨o,e,Oe _ e k⟩) (λb u e=>by obtain⟨o,q⟩:=(I.hok b u e).alive;exact⟨o,q,Oe _ q λz=>by have:=I.stkFree b z;rw[e]at this;cases this⟩) (r C n)
end
def BF{K:Ah}{h:Uv}{C:Ul}{c:List Uk}{f:String}(X:K.In h)(q:W.excIn K C c f=ba):∃bm N nm q bs hdct sn sub ab col dd k0 k1 k2 k3 k5 mN,h.get? C=b3 (excClassObj nm q C N bs bm hdct sn sub ab col dd k0 k1 k2 k3 k5 f)/\h.Ns N mN/\mN "__init__"=b4/\OwnTail h c bm:=by
 unfold W.excIn at q;split at q
 ·rename_i dd cd d l
  split at q
  ·rename_i o bm k0 k1 k2 k3 n k5 i g
   simp only[Ad,beq_iff_eq,Bool.not_eq_true']at q;obtain⟨⟨⟨⟨⟨rfl,rfl⟩,e⟩,k⟩,a⟩,b⟩:=q;obtain⟨nm,bs,mro,ns,j,hd,sn,sub,ab,col,m⟩:=cd;dsimp only at i e a b;subst i e;obtain⟨d⟩:=d;simp only at g;subst g;exact⟨bm,ns,nm,j,bs,hd,sn,sub,ab,col,dd,k0,k1,k2,k3,k5,_,X _ _ l,.of_isNs (W.isNs_of_in X a),W.nsMap_none_of_in X a b,W.tail_of_in X k⟩
  ·cases q
 ·cases q
abbrev Xw:=Uq×Option (Uq×cU)
abbrev VZ:=Ev->Option (Xw×Ev)
noncomputable def Pay(K:Ah)(N:Ul->Prop)(H:Hp):Option Ul->Option (Uq×cU)->Prop
 |none,b4=>True
 |some D,b3 (n,d)=>∃v,H D=b3 (.xd [(n,v)])/\bO K N H N v d
 |_,_=>False
def Pay.mono{K:Ah}{N N':Ul->Prop}{H:Hp}{p:Option Ul}{y:Option (Uq×cU)}(h:Pay K N H p y)(b:∀a,N' a->N a):Pay K N' H p y:=by
 unfold Pay at h⊢;split at h
 ·trivial
 ·obtain⟨v,e,r⟩:=h
  exact⟨v,e,r.mono b b⟩
 ·exact h
def TZ(R:Uq->Option Ul->St->Hp->Prop)(K:Ah)(ml:List Nat)(z:VZ)(σ:St)(H:Hp):Prop:=∃B O δ x δ',aU K ml B O H σ δ/\z δ=b3 (x,δ')/\∀a H' b p,aU K ml B b H' a δ'->Pay K (Nn B b) H' p x.2->R x.1 p a H'
abbrev ZE(R:Uq->Option Ul->St->Hp->Prop)(K:Ah)(ml:List Nat)(z:VZ):TE:=λσ H _=>TZ R K ml z σ H
abbrev ZS(R:Uq->Option Ul->St->Hp->Prop)(K:Ah)(ml:List Nat)(z:VZ):TS:=λ_ σ H=>TZ R K ml z σ H
section
variable{X:Cx}{K:Ah}{ml:List Nat}{e a b c:Us}{es:List Us}{pa ta ia pb tb ib pc tc ic pu bt bi ps bs:Bool}{fa fb fc f:VF}{B B':Bs}{O:Nat->Option Ul}{H H1 H':Hp}{σ:St}{δ δ':Ev}{v:V}{d:cU}{pos:Pos}{st:Ux}{rest:List Ux}{g g':VS}{z z':VZ}{R:Uq->Option Ul->St->Hp->Prop}
def zNo:VZ:=λ_=>b4
def F5{a:List Ux}:WN X a (ZS R K ml zNo):=λ_ _ _ _ _ _ h=>by obtain⟨_,_,_,_,_,_,q,_⟩:=h;cases q
def CH(z z':VZ):VZ:=λδ=>match z δ with
 |some r=>b3 r
 |none=>z' δ
def lW(h:TZ R K ml (CH z z') σ H):TZ R K ml z σ H∨TZ R K ml z' σ H:=by
 obtain⟨B,O,δ,x,δ',S,q,k⟩:=h;unfold CH at q;cases h1:z δ with
 |some r=>rw[h1]at q;exact .inl ⟨B,O,δ,x,δ',S,h1.trans q,k⟩
 |none=>rw[h1]at q;exact .inr ⟨B,O,δ,x,δ',S,q,k⟩
def dF{a:List Ux}(h1:WN X a (ZS R K ml z))(h2:WN X a (ZS R K ml z')):WN X a (ZS R K ml (CH z z')):=λaa s σ H D I h=>
 (lW h).elim (h1 aa s σ H D I) (h2 aa s σ H D I)
noncomputable def zSeq(g:VS)(z:VZ):VZ:=λδ=>match g δ with
 |some (.nx δ')=>z δ'
 |_=>b4
def Zm(h1:PS X st (WH K ml g))(h2:WN X rest (ZS R K ml z)):WN X (st::rest) (ZS R K ml (zSeq g z)):=(Q4 h1 h2).imp λD σ H q0=>by
 obtain⟨B,O,δ,x,δ',S,q,k⟩:=q0;unfold zSeq at q;split at q
 ·rename_i δ1 b
  exact⟨B,O,δ,.nx δ1,S,b,λa H' d c=>⟨B,d,δ1,x,δ',c,q,k⟩⟩
 ·cases q
def WY(h:PS X st (ZS R K ml z)):WN X (st::rest) (ZS R K ml z):=(Q4 h BN).imp λ_ _ _ h=>h
def zIf(t:VB)(z z':VZ):VZ:=λδ=>(t δ).bind λp=>if p.1=ba then z p.2 else z' p.2
def Vr{x y:List Ux}{t:VB}(d:PT X c (TB K ml pc t))(f:WN X x (ZS R K ml z))(e:WN X y (ZS R K ml z')):PS X (.If c x y pos) (ZS R K ml (zIf t z z')):=(Wu d f e).imp λD σ H q0=>by
 obtain⟨B,O,δ,x,δ',S,q,k⟩:=q0;unfold zIf at q;cases h1:t δ with
 |none=>rw[h1]at q;cases q
 |some p=>
  obtain⟨a,δ1⟩:=p;rw[h1]at q;refine⟨B,O,δ,a,δ1,S,h1,λH1 b=>?_⟩;cases a with
  |true=>exact ML ⟨B,O,δ1,x,δ',b.sta,q,k⟩
  |false=>exact MK ⟨B,O,δ1,x,δ',b.sta,q,k⟩
def dP{t:VB}(f:PT X c (TB K ml pc t))(h:PE X a (ZE R K ml z))(g:PE X b (ZE R K ml z')):PE X (.IfExp c a b pos) (ZE R K ml (zIf t z z')):=(HH f h g).imp λσ H Q q0=>by
 obtain⟨B,O,δ,x,δ',S,q,k⟩:=q0;unfold zIf at q;cases h1:t δ with
 |none=>rw[h1]at q;cases q
 |some p=>
  obtain⟨d,δ1⟩:=p;rw[h1]at q;refine⟨B,O,δ,d,δ1,S,h1,λH1 e=>?_⟩;cases d with
  |true=>exact ML ⟨B,O,δ1,x,δ',e.sta,q,k⟩
  |false=>exact MK ⟨B,O,δ1,x,δ',e.sta,q,k⟩
def qb(h:PE X e (ZE R K ml z)):PS X (.Return (b3 e) pos) (ZS R K ml z):=(FM h).imp λ_ _ _ h=>h
def N8{x:Uq}{y ae c:Pos}{t:Uq}{j:Nat}(L:X.K=K)(hz:RzM X R)(hc:X.calm=ba)(J:Gl X x)(A:∃C,XE K x C/\X.mg x=b3 (.ref C))(g:(x==("__debug__":Uq))=bb:=by decide)(d:(Fb ae (Um [.Constant (.str t) j c] X.env)).any (·.1)=bb:=by rfl):PS X (.Raise (b3 (.Call (.Name x y) [.Constant (.str t) j c] [] ae)) b4 pos) (ZS R K ml λδ=>b3 ((x,b4),δ)):=by intro aa s σ H D I h;obtain⟨B,O,δ,M,δ',S,q,k⟩:=h;cases q;subst L;obtain⟨C,n,G⟩:=A;obtain⟨bm,N,nm,q,bs,hdct,sn,sub,ab,col,dd,k0,k1,k2,k3,k5,mN,w,v,u,m⟩:=BF I.ok.mod.kin n.exc;refine wpAny_Raise_call_subT (C:=C) (nm:=nm) (q:=q) (N:=N) (bs:=bs) (bm:=bm) (hdct:=hdct) (sn:=sn) (sub:=sub) (ab:=ab) (col:=col) (dd:=dd) (k0:=k0) (k1:=k1) (k2:=k2) (k3:=k3) (k5:=k5) (mN:=mN) PySem.F.excBase_ValueError (m.hasType (by decide)) (I.ok.hd hc) d u (TM I J G ⟨rfl,?_⟩ g);have pa:PA X [.Constant (.str t) j c] _:=bW Zc Z9;refine Fz (Ce (pa ae aa s σ H (λvs H'=>H'=H/\vs.length=1) I ⟨rfl,rfl⟩) (λi l E=>?_) λ_ _ z=>z);obtain⟨vs,H2,p,r,rfl,hl⟩:=E;have kp:∀b o,X.base.get? b=b3 o->l.heap.get? b=b3 o:=λb o e=>(p.bs b o e).1;refine⟨rfl,?_,kp _ _ w,v.keeps kp,m.keeps kp,λh' a f=>hz aa x C a i σ H2 l.heap _ n.xc p f (k σ H2 O b4 S trivial)⟩;show i.length<=sizeLine;rw[<-r.length,hl];decide
def gM{x:Uq}{m:Nat}{g:List Uq}{sp:Sp}{k:Ul}{fd:Dw}{p':Pos}{t:TA}{CX:CXT}(F:aA X.prog X.w X.K X.mg X.base CX m k fd g sp)(o:YT m X.A)(q:Gl X x)(p:X.mg x=b3 (.ref k))(hk:Jd X.K (.ref k)=ba)(d:QJ X.K fd g [])(y:PA X (e::es) t)(j:(x==("__debug__":Uq))=bb:=by decide)(v:Um (e::es) X.env=(bb,eval e X.env)::Um es X.env:=by rfl)(i:(Fb pos (Um es X.env)).any (·.1)=bb:=by rfl):PE X (.Call (.Name x p') (e::es) [] pos) (λσ H Q=>t σ H λvs H1=>∃E,(∀(aa:List (Ul×Uw)) (s:Af) (f:Uk) (s':Af),cF X aa σ H1 s->CX X.stack H1 s E f s'->X.xe f s')/\sp vs H1 Q E):=by
 intro aa s σ H Q I h;refine Fe (TM I q p (Qf (h₀:=X.base) I.ok.mod.kin hk (ZL (y pos aa s σ H _ I h) λc s1 a=>?_) v i) j);obtain⟨vs,H1,b,l,E,z,n⟩:=a;have hl:c.length=g.length:=by rw[<-l.length];exact F.len _ _ _ _ n
 have d:=d s1 c b.kIn (by simpa using hl);rw[Eo]at d;refine⟨b.kIn,Sr (Kk (F.run X.A X.stack s1 H1 ⟨c,[]⟩ c vs Q E o b.env0 d l n) λr s' a=>?_)⟩;cases r with
 |error f=>exact z aa s1 f s' b a
 |ok B=>cases B with
  |ret u=>exact b.after a
  |next=>cases a
  |brk=>cases a
  |cont=>cases a
def spX(K:Ah)(n:Nat)(a:List cU->Option Xw):Sp:=λvs H _ E=>∃(Z:Ul->Prop) (ds:List cU) (x:Xw),ds.length=n/\Vo K [] Z H vs ds/\a ds=b3 x/\∀C H' p,XC K x.1 C->bA H H'->Pay K Z H' p x.2->E (.ref C) p H'
structure DefX(P:Av)(w:Uu)(K:Ah)(mg:Uq->Option Uk)(base:Uv)(x:Uq)(k:Nat)(ps:List Uq)(XF:List cU->Option Xw)(f:Ul):Prop where
 at_:mg x=b3 (.ref f)
 ok:∃fd,aA P w K mg base (CXv P w) k f fd ps (spX K ps.length XF)/\QJ K fd ps []
 kp:Jd K (.ref f)=ba
noncomputable def VE:List AV->Option (List cU)
 |[]=>b3 []
 |.d d::as=>(VE as).map λds=>d::ds
 |.o _::_=>b4
 |.p _ _::_=>b4
theorem LL{N:Ul->Prop}:∀{vs:List V}{as:List AV}{ds:List cU},X5 K N H σ vs as->VE as=b3 ds->vs.length=ds.length/\∀(i:Nat) (d:cU),ds[i]?=b3 d->∃v,vs[i]?=b3 v/\bO K N H N v d
 |_,_,_,.nil,h=>by cases h;exact⟨rfl,λi d e=>by simp at e⟩
 | _,.d d0 :: as,_,.d r t,h => by
  unfold VE at h;cases e:VE as with
  |none=>rw[e]at h;cases h
  |some ds=>
   rw[e]at h;cases h;obtain⟨h1,h2⟩:=LL t e;refine⟨by simp[h1],λi d q=>?_⟩;cases i with
   |zero=>simp at q;subst q;exact⟨_,rfl,r⟩
   |succ i=>exact h2 i d (by simpa using q)
 |_,.o _::_,_,.o _ _,h=>by cases h
 |_,.p _ _::_,_,.p _ _ _ _,h=>by cases h
def MC(n:Nat)(a:List cU->Option Xw)(fs:T1):VZ:=λδ=>(fs δ).bind λp=>(VE p.1).bind λds=>if ds.length=n then(a ds).map λx=>(x,p.2)else b4
def gV{fs:T1}{m:List cU->Option Xw}{n:Nat}{Q:VK}(hz:RzF X R)(M:X.K=K)(hex:X.ex=[])(h:TZ R K ml (MC n m fs) σ H):CM K ml ps fs σ H λvs H1=>∃E,(∀(aa:List (Ul×Uw)) (s:Af) (f:Uk) (s':Af),cF X aa σ H1 s->CXv X.prog X.w X.stack H1 s E f s'->X.xe f s')/\spX K n m vs H1 Q E:=by
 subst M;obtain⟨B,O,δ,x,δ',S,q,k⟩:=h;unfold MC at q;cases h1:fs δ with
 |none=>rw[h1]at q;cases q
 |some p=>
  obtain⟨as,δ1⟩:=p;rw[h1,Ai]at q;cases h2:VE as with
  |none=>rw[h2]at q;cases q
  |some ds=>
   rw[h2,Ai]at q;split at q
   ·rename_i D
    cases l:m ds with
    |none=>rw[l]at q;cases q
    |some U=>
     rw[l]at q;cases q;refine⟨B,O,δ,as,δ1,S,h1,λvs H1 G=>⟨λv p H2=>∃x C,v=.ref C/\XC X.K x C/\R x p σ H2,λaa s f s' I hc=>?_,?_⟩⟩
     ·obtain⟨C,p,H2,os,c,un,ok,F,t,V,u,g,L⟩:=hc
      cases u;exact hz aa t C p σ H2 f s' s.heap g (I.call' os un ok c λb J=>nomatch J) F (I.low hex) L
     ·obtain⟨P,N⟩:=LL G.rep h2
      have o:∀a,Zp (Nn B O) [] vs a->Nn B O a:=λa z=>z.elim id λ⟨i,hi,_⟩=>nomatch hi;refine⟨Nn B O,ds,x,D,⟨P,λi hi=>(nomatch hi),λi d _ e=>?_,λi d hi=>(nomatch hi),λi j a hi=>(nomatch hi),λa z=>G.sta.nin z⟩,l,λC H2 p g y A=>⟨x.1,C,rfl,g,k σ H2 O p (G.sta.same y) A⟩⟩;obtain⟨v,T,r⟩:=N i d e;exact⟨v,T,r.mono o o⟩
   ·cases q
def EJ{x:Uq}{d j:Nat}{c:List Uq}{f:List cU->Option Xw}{n:Ul}{p':Pos}{fs:T1}(hz:RzF X R)(m:X.K=K)(D:DefX X.prog X.w K X.mg X.base x d c f n)(g:YT j X.A)(hk:d<=j)(i:Gl X x)(hex:X.ex=[])(l:PA X (e::es) (CM K ml ps fs))(b:(x==("__debug__":Uq))=bb:=by decide)(k:Um (e::es) X.env=(bb,eval e X.env)::Um es X.env:=by rfl)(a:(Fb pos (Um es X.env)).any (·.1)=bb:=by rfl):PE X (.Call (.Name x p') (e::es) [] pos) (ZE R K ml (MC c.length f fs)):=by obtain⟨fd,F,o⟩:=D.ok;subst m;exact(gM F (g.mono hk) i D.at_ D.kp o l b k a).imp λσ H Q h=>gV hz rfl hex h
end
noncomputable def BV(n:Nat)(z:VZ):List cU->Option Xw:=λds=>(z (a9 [] n ds)).map (·.1)
def XU.okX{P:Av}{w:Uu}{K:Ah}{mg:Uq->Option Uk}{base:Uv}{x qual:Uq}{st:Ux}{f:Ul}{fd:Dw}{N ps:List Uq}{k:Nat}{z:VZ}(F:XU K x qual st f fd)(S:b6 N ps (cO st))(g:ps.length<=N.length)(I:∀(c:Uk) (A:Cc) (outer:List Env) (s:Af) (H:Hp) (E:XK),YT k (A.deeper (envOfC qual (cO st) s.heap.objs.size f c))->WN (QS (CXv P w) P w K mg base N qual (cO st) f c A outer s H E) (aH st) (ZS (rE K E) K [] z)):aA P w K mg base (CXv P w) (k+1) f fd ps (spX K ps.length (BV N.length z)):=by
 obtain⟨O,od,kV,doc,M,R,c,ct,r,rfl,u,l⟩:=F.ex;refine Xj u l S (λvs H Q E h=>?_) λA outer s H vs Q E v e=>⟨_,I c A outer s H E v,?_⟩
 ·obtain⟨Z,ds,x,j,AV,_⟩:=h
  rw[AV.len,j]
 ·obtain⟨Z,ds,x,j,AV,d,D⟩:=e
  obtain⟨t,B,J⟩:=LV (N:=N) AV (by rw[j];exact g);unfold BV at d;cases h1:z (a9 [] N.length ds)with
  |none=>rw[h1]at d;cases d
  |some p=>
   obtain⟨n,δ'⟩:=p;rw[h1]at d;cases d;exact⟨_,t,_,n,δ',J,h1,λm H' T p L y C G=>D C H' p G (λb o q=>L.frm b o q λ⟨i,hi,_⟩=>nomatch hi) (y.mono λa z=>.inl z)⟩
end L2
namespace L2
open PySem PySem.Spec PyProof.Rows PySem.W PySem.Calls PySem.Builtin PySem.Builtin.ObjectAttr PySem.Builtin.Getset_descriptor
section
variable{prog:Av}{w:Uu}{A:Cc}{E:Uk->Af->Prop}{s:Af}{K:Frag}{x C:Ul}{o:Uw}{R:Result->Af->Prop}
def qq{a:Uk}(X:K.In s.heap)(b:s.heap.get? x=b3 o)(hc:o.cls=.ref C)(F:XA K C)(h:R (.ok (.ret (.ref C))) s):Jq (Ur prog w) A (.call (.builtin "getset_descriptor.__get__") ⟨[.builtin "object.__class__",.ref x,a],[]⟩) R s:=by
 obtain⟨c,g,d,t,os⟩:=s;have f:Looks (Ur prog w) c (Qh (.ref x)) (.ref C):=hc▸(Ri b).andThen .now;have e:=looks_mroIn (M:=Ur prog w) X F.mro;refine Nd KF.slot_gs.plain KF.entry_gs (KF.slot_gs.check _ _ _ _ _ _ _ _ KF.type_class (KF.args_gs _ _ _) ?_);unfold Ej.«getset_descriptor.__get__» descrGet;rw[dga_obj];refine Ac (Aj ?_);unfold descrGetter descrCheckInstance descrNameAndClass Sv;simp only[KF.owner_class];repeat lk
 refine⟨Code.quiet_builtin _ (by decide+kernel),Ms KF.entry_class ?_⟩;unfold Ej.«object.__class__» shownTypeOf;repeat lk
 exact h
def AO{tk:Vf}{Q:Fin->Af->Prop}(X:K.In s.heap)(b:s.heap.get? x=b3 o)(hc:o.cls=.ref C)(F:XA K C)(h:Q (.done (.ret (.ref C))) s):Uo (Ur prog w) A (Ej.«object.__getattribute__» ⟨[.ref x,.str "__class__" tk],[]⟩) Q E s:=by
 obtain⟨a,g,c,t,os⟩:=s;have j:Looks (Ur prog w) a (Qh (.ref x)) (.ref C):=hc▸(Ri b).andThen .now;have i:=Ql (M:=Ur prog w) X F.cls;have f:Looks (Ur prog w) a (getOf (b3 (.builtin "object.__class__"))) (b3 (.builtin "getset_descriptor.__get__")):=looks_specialIn X F.get;have e:=looks_takesIn (M:=Ur prog w) X F.tak;have d:Looks (Ur prog w) a (find (.ref x) (.ref C) "__class__") (.bind (.builtin "getset_descriptor.__get__") (.builtin "object.__class__")):=
  i.andThen (f.andThen ((show Looks (Ur prog w) a (dataDescriptor? (b3 (.builtin "object.__class__")) (b3 (.builtin "getset_descriptor.__get__"))) (b3 (.builtin "getset_descriptor.__get__",.builtin "object.__class__")) from e.andThen .now).andThen (Looks.tag .now)))
 unfold Ej.«object.__getattribute__»;repeat (any_goals (first|assumption|with_reducible refine Looks.at j ?_|with_reducible refine Looks.at d ?_|wp_step))
 refine qq (s:=⟨a,g,c,t,os⟩) X b hc F ?_;exact Aj h
def Zr{tk:Vf}(X:K.In s.heap)(b:s.heap.get? x=b3 o)(hc:o.cls=.ref C)(F:XA K C)(h:R (.ok (.ret (.ref C))) s):Jq (Ur prog w) A (.call (.builtin "BaseException.__getattribute__") ⟨[.ref x,.str "__class__" tk],[]⟩) R s:=by
 obtain⟨a,g,c,t,os⟩:=s;have f:Looks (Ur prog w) a (Qh (.ref x)) (.ref C):=hc▸(Ri b).andThen .now;have e:=looks_subIn (M:=Ur prog w) X F.sub;have hk:builtinKind "BaseException.__getattribute__"=b3 .slot:=by decide+kernel
 have d:splitId "BaseException.__getattribute__"=b3 ("BaseException","__getattribute__"):=by decide+kernel
 have i:=PySem.F.args_bexc_ga (.ref x) (.str "__class__" tk);refine Nd PySem.F.excAttr_ValueError.ga.plain PySem.F.entry_bexc_ga (Ce (Q:=λ_ s'=>s'=⟨a,g,c,t,os⟩) ?_ (λ_ s' z=>?_) λ_ _ z=>z)
 ·simp only[checkBuiltinCall,hk,d]
  unfold Sv;repeat (any_goals (first|rfl|assumption|with_reducible refine Looks.at f ?_|with_reducible refine Looks.at e ?_|wp_step))
 ·subst z
  refine AO (s:=⟨a,g,c,t,os⟩) X b hc F ?_;exact h
def AN{Q:Option Uk->Af->Prop}(X:K.In s.heap)(a:s.heap.get? x=b3 o)(hc:o.cls=.ref C)(F:XA K C)(h:Q (b3 (.ref C)) {s with toks:=s.toks+1}):Uo (Ur prog w) A (To (.ref x) "__class__") Q E s:=by
 obtain⟨b,g,d,t,os⟩:=s;have c:Looks (Ur prog w) b (Qh (.ref x)) (.ref C):=hc▸(Ri a).andThen .now;have f:=Ql (M:=Ur prog w) X F.ga;have e:=Ql (M:=Ur prog w) X F.no;have fb:=PySem.F.excAttr_ValueError.ga.bind (.ref x);unfold To getAttrBy? getAttrBy;refine Ac (wpAny_mkText (Ac (Ll (Bt (Ac (c.at (Ac (f.at ?_))))))));show Uo _ _ (getAttrByItsOwn _ _ _ _ _ _) _ _ _;unfold getAttrByItsOwn hookBefore callGetattribute boundAndCalled;repeat (any_goals (first|assumption|with_reducible refine Looks.at c ?_|with_reducible refine Looks.at e ?_|wp_step))
 refine Zr (s:=⟨b,g,d,t+1,os⟩) X a hc F ?_;refine handed_on rfl ?_;first|exact h|exact Aj h|exact Aj (Aj h)
def GR(F:XA K C)(hdct:(clsIn K C).isSome=ba):KitX K (.ref x) (.ref C) (λh=>∃o,h.get? x=b3 o/\o.cls=.ref C) where
 ty:=λM h _ p=>by obtain⟨o,h1,h2⟩:=p;exact h2▸(Ri h1).andThen .now
 it:=λ_ _ X _=>by
  unfold clsIn at hdct;split at hdct
  ·rename_i b
   intro i f g s' k q;unfold isType loadHead;exact Ac (wpAny_loadPart (k _ _ (X _ _ b)) (Aj q))
  ·cases hdct
 ne:=λh c dd its n d X a=>by
  refine Bool.eq_false_iff.mpr λq=>?_;have e:C=c:=Value.ref.inj (beq_iff_eq.mp q);subst e;unfold clsIn at hdct;split at hdct
  ·rename_i b
   have z:=(X _ _ b).symm.trans a;cases z
  ·cases hdct
 ca:=λX p k=>by obtain⟨o,h1,h2⟩:=p;exact AN X h1 h2 F k
end
end L2
namespace L2
open PySem PySem.Spec PyProof.Rows
structure X6(k:Nat)(A:Cc):Prop where
 dp:A.depth+3*k+5<Kq
 un:A.units+16*k+200<cLine
def YT.h{k:Nat}{A:Cc}(r:YT k A):X6 k A:=⟨r.dp,r.un⟩
def X6.mono{j k:Nat}{A:Cc}(r:X6 k A)(h:j<=k):X6 j A:=⟨by have:=r.dp;lia,by have:=r.un;lia⟩
def X6.deeper{k:Nat}{A:Cc}(r:X6 (k+1) A)(env:Env):X6 k (A.deeper env):=
 ⟨by have:=r.dp;show A.depth+1+3*k+5<_;lia,by have:=r.un;show A.units+3+16*k+200<_;lia⟩
def X6.units{k:Nat}{A:Cc}(r:X6 k A):A.units+64<cLine:=by have:=r.un;lia
def X6.unit{k:Nat}{A:Cc}(r:X6 k A):A.units+1<cLine:=by have:=r.un;lia
def cxH(P:Av)(w:Uu)(K:Ah)(mg:Uq->Option Uk)(base:Uv)(N:List Uq)(qual:Uq)(scope:Vb)(f:Ul)(cd:Uk)(A:Cc)(outer:List Env)(s:Af)(H:Hp):Cx:=
 {QS CX0 P w K mg base N qual scope f cd A outer s H E0 with calm:=bb,xe:=λ_ _=>False}
structure FnH(P:Av)(w:Uu)(K:Ah)(mg:Uq->Option Uk)(base:Uv)(k:Nat)(f:Ul)(fd:Dw)(ps:List Uq)(sp:Sp):Prop where
 len:∀vs H Q E,sp vs H Q E->vs.length=ps.length
 run:∀(A:Cc) (outer:List Env) (s:Af) (H:Hp) (args:Args) (us:List Uk) (vs:List V) (Q:VK),X6 k A->Env0 P w K mg base A outer s H->Pg s fd args (ps.zip us)->bQ vs us->sp vs H Q E0->
  Jq (Ur P w) A (.call (.ref f) args) (CR CX0 outer P w H s Q E0) s
def cF.around{X:Cx}{a:Cc}{aa:List (Ul×Uw)}{σ:St}{H:Hp}{s:Af}{xe:Uk->Af->Prop}(I:cF X aa σ H s)(b:a.frames=X.A.frames):cF {X with A:=a,calm:=bb,xe:=xe} aa σ H s:=
 ⟨⟨I.ok.mod,I.ok.kind,I.ok.glob,I.ok.blt,I.ok.above,I.ok.inj,I.ok.has,I.ok.cab,λz=>(nomatch z),b.trans I.ok.frames,I.ok.stk,I.ok.exf,I.ok.bs,I.ok.bsz,I.ok.noex,I.ok.exfs,I.ok.funs,I.ok.frf⟩,I.os,I.bare,I.base,I.loc,I.cell,I.free,I.freeC,I.pin,I.hok,I.len⟩
def cF.back{X:Cx}{a:Cc}{aa:List (Ul×Uw)}{σ:St}{H:Hp}{s:Af}{xe:Uk->Af->Prop}(ok:X.Ok)(I:cF {X with A:=a,calm:=bb,xe:=xe} aa σ H s):cF X aa σ H s:=
 ⟨ok,I.os,I.bare,I.base,I.loc,I.cell,I.free,I.freeC,I.pin,I.hok,I.len⟩
def XU.okH{P:Av}{w:Uu}{K:Ah}{mg:Uq->Option Uk}{base:Uv}{x qual:Uq}{st:Ux}{f:Ul}{fd:Dw}{N ps:List Uq}{k:Nat}{sp:Sp}(F:XU K x qual st f fd)(S:b6 N ps (cO st))(len:∀vs H Q E,sp vs H Q E->vs.length=ps.length)(Z:∀(a:Uk) (A:Cc) (outer:List Env) (s:Af) (H:Hp) (vs:List V) (Q:VK),X6 k (A.deeper (envOfC qual (cO st) s.heap.objs.size f a))->sp vs H Q E0->∃t,WN (cxH P w K mg base N qual (cO st) f a A outer s H) (aH st) t/\t {nx:=λ_ H'=>Q .non H',rt:=Q} (start N vs) H):FnH P w K mg base (k+1) f fd ps sp:=by
 obtain⟨oc,od,kV,doc,pm,an,a,ct,C,rfl,D,m⟩:=F.ex;refine⟨len,λA outer s H args B vs Q p c T r h=>?_⟩;have hl:=len _ _ _ _ h;have z:K.In s.heap:=c.mod.kin.keeps λb o e=>(c.bs b o e).1;have l:s.heap.NoLimit:=c.mod.nolimit.keeps λb o e=>(c.bs b o e).1;have U:∀y∈ps.zip B,(cO st).names.lookup y.1=b3 .local∨((cO st).names.lookup y.1=b3 .cell/\((Uz (s.heap.objs.size+1) (cO st).names []).lookup y.1).isSome=ba):=λ⟨n,v⟩ L=>by
  rcases S.par n (Jr L).1 with q|q
  ·exact .inl q
  ·exact .inr ⟨q,Lw _ _ _ (.inl q)⟩
 have G:A.depth<Kq:=by have:=p.dp;lia
 refine Mk G (z _ _ D) rfl S.co S.gen rfl (W.codeRec_of z m) (T _ _ _ _ ?_);refine Kc S.kind U λenv R s1 x=>?_;subst R;refine⟨l.keeps x.toInCall.keep,codeAny_func ?_⟩;obtain⟨t,M,O⟩:=Z a A outer s H vs Q (p.deeper _) h;have Y:Env0 P w K mg base {A with handled:=b4} outer s H:=⟨c.frames,c.mod,c.bs,c.bsz,c.funs,c.frf,c.hok,c.bare⟩;have I0:cF (QS CX0 P w K mg base N qual (cO st) f a {A with handled:=b4} outer s H E0) [] (start N vs) H s1:=K7 S rfl Y hl r x;have I:cF (cxH P w K mg base N qual (cO st) f a A outer s H) [] (start N vs) H s1:=I0.around rfl;refine Ce (M [] s1 (start N vs) H _ I O) (λX s' g=>?_) λe s' g=>(show False from g).elim;have i:∀{d:St}{H':Hp}{v:V}{u:Uk},cF (cxH P w K mg base N qual (cO st) f a A outer s H) [] d H' s'->bV v u->Q v H'->CE outer P w H s Q u s':=
  λ{d H' v u} J j q=>⟨v,H',J.os,J.bare,J.base,J.hok,j,q⟩
 cases X with
 |ret u=>
  obtain⟨v,d,H',J,j,q⟩:=g;exact i J j q
 |next=>
  obtain⟨d,H',J,q⟩:=g;exact i (v:=V.non) (u:=Value.none) J rfl q
 |brk=>
  obtain⟨_,_,_,q⟩:=g;cases q
 |cont=>
  obtain⟨_,_,_,q⟩:=g;cases q
structure DefH(P:Av)(w:Uu)(K:Ah)(mg:Uq->Option Uk)(base:Uv)(x:Uq)(k:Nat)(ps:List Uq)(sp:Sp)(f:Ul):Prop where
 at_:mg x=b3 (.ref f)
 ok:∃fd,FnH P w K mg base k f fd ps sp/\QJ K fd ps []
 kp:Jd K (.ref f)=ba
section
variable{X:Cx}{K:Ah}{ml:List Nat}{e a b c:Us}{es:List Us}{ps:Bool}{pos:Pos}
def mU{x:Uq}{l j n:Nat}{k:List Uq}{mF:List Nat}{F:bP}{C:Ul}{p':Pos}{fs:T1}(D:DefH X.prog X.w K X.mg X.base x l k (spV K mF n F) C)(p:X6 j X.A)(y:PA X (e::es) (CM K ml ps fs))(z:X.K=K:=by rfl)(hk:l<=j:=by decide)(q:Gl X x:=by rfl)(g:(x==("__debug__":Uq))=bb:=by decide)(v:Um (e::es) X.env=(bb,eval e X.env)::Um es X.env:=by rfl)(f:(Fb pos (Um es X.env)).any (·.1)=bb:=by rfl):PE X (.Call (.Name x p') (e::es) [] pos) (TV K ml (ps&&mF.isEmpty) ba ba (cI n mF F fs)):=by
 subst z;obtain⟨fd,o,E⟩:=D.ok;refine PE.imp (t:=EC (spV X.K mF n F) [] E0 (CM X.K ml ps fs)) (λaa s σ H Q I h=>?_) λ_ _ _ h=>OR h;refine Fe (TM I q D.at_ (Qf (h₀:=X.base) I.ok.mod.kin D.kp (ZL (y pos aa s σ H _ I h) λb s1 a=>?_) v f) g);obtain⟨vs,H1,c,i,d⟩:=a;rw[Eo]at d;have hl:b.length=k.length:=by rw[<-i.length];exact o.len _ _ _ _ d
 have m:=E s1 b c.kIn (by simpa using hl);rw[Eo]at m;refine⟨c.kIn,Sr (Kk (o.run X.A X.stack s1 H1 ⟨b,[]⟩ b vs Q (p.mono hk) c.env0 m i d) λr s' a=>?_)⟩;cases r with
 |error G=>cases a
 |ok B=>cases B with
  |ret u=>exact c.after a
  |next=>cases a
  |brk=>cases a
  |cont=>cases a
end
def XU.okVH{P:Av}{w:Uu}{K:Ah}{mg:Uq->Option Uk}{base:Uv}{x qual:Uq}{st:Ux}{f:Ul}{fd:Dw}{N ps:List Uq}{k:Nat}{ml:List Nat}{g:VS}(F:XU K x qual st f fd)(S:b6 N ps (cO st))(b:ps.length<=N.length)(e:∀(a:Uk) (A:Cc) (outer:List Env) (s:Af) (H:Hp),X6 k (A.deeper (envOfC qual (cO st) s.heap.objs.size f a))->WN (cxH P w K mg base N qual (cO st) f a A outer s H) (aH st) (WH K ml g)):FnH P w K mg base (k+1) f fd ps (spV K ml ps.length (Z2 N.length ml g)):=by refine F.okH S (λvs H Q E h=>?_) (λa A outer s H vs Q c h=>⟨_,e a A outer s H c,Xk (E:=E0) b h⟩);obtain⟨Z,ds,r,os,d,AV,_⟩:=h;rw[AV.len,d]
structure XQ(K:Ah)(C Cp:Ul)(r:Bool):Prop where
 ty:W.typeIn K (.ref Cp)=b3 (.type "type")
 cls:(Tp K Cp).isSome=ba
 base:Tl K (.ref Cp) (.type "BaseException")=b3 ba
 sub:Tl K (.ref C) (.ref Cp)=b3 r
def XP.q{K:Ah}{C Cp:Ul}(h:XP K C Cp):XQ K C Cp ba:=⟨h.ty,h.cls,h.base,h.sub⟩
def AQ{r:Bool}{prog:Av}{w:Uu}{A:Cc}{E:Uk->Af->Prop}{s:Af}{K:Ah}{x C Cp:Ul}{o:Uw}{Q:Bool->Af->Prop}(X:K.In s.heap)(b:s.heap.get? x=b3 o)(hc:o.cls=.ref C)(F:XQ K C Cp r)(h:Q r s):Uo (Ur prog w) A (excMatches (.ref x) (.ref Cp)) Q E s:=by
 obtain⟨a,g,m,t,os⟩:=s;cases r
 all_goals
  have l:W.Looks (Ur prog w) a (Qh (.ref x)) (.ref C):=hc▸(W.Looks.ld b).andThen .now;have j:=W.looks_typeIn (M:=Ur prog w) X F.ty;have i:=W.looks_subIn (M:=Ur prog w) X F.base;have e:=W.looks_subIn (M:=Ur prog w) X F.sub;have d:W.Looks (Ur prog w) a (isType (.ref Cp)) ba:=by
   have hd:=F.cls;unfold Tp at hd;split at hd
   ·rename_i c
    intro u n p s' k q;unfold isType loadHead;exact Ac (wpAny_loadPart (k _ _ (X _ _ c)) (Aj q))
   ·cases hd
  have f:=tc_notTuple;unfold excMatches isExcClass Sv;repeat (any_goals (first|assumption|with_reducible refine W.Looks.at l ?_|with_reducible refine W.Looks.at j ?_|with_reducible refine W.Looks.at i ?_|with_reducible refine W.Looks.at e ?_|with_reducible refine W.Looks.at d ?_|wp_step))
def excP(a C:Ul):Option Ul->Uv->Prop
 |none=>λh=>CJ h a C
 |some D=>λh=>Wn h a C D
section
variable{X:Cx}{aa:List (Ul×Uw)}{σ:St}{H:Hp}{s:Af}{h':Uv}{a C:Ul}
def cF.track{o:Uw}{vs:Array Uk}{p:Option Ul}(I:cF X aa σ H s)(M:H a=b4)(i:s.heap.get? a=b3 o)(hc:o.cls=.ref C)(hd:o.data=.fields vs)(g:o.dict=p)(K:X.s₀.heap.get? a=b4)(L:∀p∈X.pn++aa,p.1≠a):cF X aa σ (upd H a (.ext (excP a C p))) s:=by
 have w:∀b o,X.s₀.heap.get? b=b3 o->b≠a:=λb o e z=>by rw[z,K]at e;cases e
 have f:∀b u,H b=b3 u->b≠a:=λb u e z=>by rw[z,M]at e;cases e
 refine⟨I.ok,I.os,I.bare,⟨I.base.keep,I.base.slot,λb o e n J=>?_,I.base.there,λb xs e=>?_,λb o u e=>?_,λb ps e=>?_⟩,I.loc,I.cell,?_,λx c e=>?_,λp D=>?_,λb u e=>?_,I.len⟩
 ·rw[bZ (w b o e)];exact I.base.free b o e n J
 ·have q:=I.base.tups b xs e
  rw[bZ (f b _ q)];exact q
 ·have q:=I.base.frzs b o u e
  rw[bZ (f b _ q)];exact q
 ·obtain⟨more,q⟩:=I.base.tbls b ps e
  exact⟨more,by rw[bZ (f b _ q)];exact q⟩
 ·obtain⟨m,⟨P,_,_,r,t,_⟩,_⟩:=I.loc
  have:X.env.locals≠a:=λz=>by rw[z,i]at r;cases r;rw[hd]at t;cases t
  rw[bZ this];exact I.free
 ·obtain⟨v,O,l,g⟩:=I.cell x c e
  have:c≠a:=λz=>by rw[z,i]at l;cases l;rw[hd]at g;cases g
  rw[bZ this];exact I.freeC x c e
 ·obtain⟨e,n,G,F,d⟩:=I.pin p D
  exact⟨e,by rw[bZ (L p D)];exact n,G,F,d⟩
 ·by_cases E:b=a
  ·subst E
   rw[cA]at e;cases e;cases p with
   |none=>exact⟨⟨o,vs,i,hc,hd⟩,⟨o,i⟩,λh1 h2 q k=>by obtain⟨j,h,B,A,y⟩:=q;exact⟨j,h,k j B,A,y⟩⟩
   |some Q=>exact⟨⟨o,vs,i,hc,hd,g⟩,⟨o,i⟩,λh1 h2 q k=>by obtain⟨j,h,B,A,y,N⟩:=q;exact⟨j,h,k j B,A,y,N⟩⟩
  ·rw[bZ E]at e
   exact(I.hok b u e).stay (λ_ _ _ q=>q) (λc q=>by rw[bZ (f c _ q)];exact q) λc xs q=>by rw[bZ (f c _ q)];exact q
def cF.unbound{r:Uq->Option Uk}{t':Nat}(I:cF X aa σ H s)(ns:h'.Ns X.env.locals r)(f:Fq X.env.locals s.heap h'):cF X aa (Aw X.N.length b4) H {s with heap:=h',toks:=t'}:=by
 have a:∀b o,X.s₀.heap.get? b=b3 o->b≠X.env.locals:=λb o e=>Bb (Az (Aq e) I.ok.above);have g:∀b u,H b=b3 u->b≠X.env.locals:=λb u e z=>by rw[z,I.free]at e;cases e
 refine⟨I.ok,I.os,I.bare,⟨λb o e n j h=>(f.2 b (a b o e)).trans (I.base.keep b o e n j h),λb o e n j h=>?_,I.base.free,λb o e h=>?_,I.base.tups,I.base.frzs,I.base.tbls⟩,⟨r,ns,λi x v _ k _=>?_⟩,λx c e=>?_,I.free,I.freeC,λp y=>?_,λb u e=>?_,by simp⟩
 ·obtain⟨t,l⟩:=I.base.slot b o e n j h
  exact⟨t,(f.2 b (a b o e)).trans l⟩
 ·obtain⟨o',l⟩:=I.base.there b o e h
  exact⟨o',(f.2 b (a b o e)).trans l⟩
 ·rw[Dr]at k
  split at k<;>cases k
 ·obtain⟨v,z⟩:=I.cell x c e
  exact⟨v,z.sameBut f (I.cne x c e)⟩
 ·obtain⟨e,n,m,w,d⟩:=I.pin p y
  exact⟨(f.2 p.1 m).trans e,n,m,w,d⟩
 ·refine (I.hok b u e).stay (λc v hc q => (f.2 c ?_).trans q) (λ_ q => q) λ_ _ q => q
  rcases hc with rfl|hc
  ·exact g _ u e
  ·exact g c _ hc
end
def Cx.Ok.pns{X:Cx}(ok:X.Ok)(pn:List (Ul×Uw))(xe:Uk->Af->Prop):Cx.Ok {X with pn:=pn,xe:=xe}:=
 ⟨ok.mod,ok.kind,ok.glob,ok.blt,ok.above,ok.inj,ok.has,ok.cab,ok.hd,ok.frames,ok.stk,ok.exf,ok.bs,ok.bsz,ok.noex,ok.exfs,ok.funs,ok.frf⟩
abbrev Cx.hnd(X:Cx)(a:Ul):Cx:={X with A:=X.A.mark (b3 (.ref a)),calm:=bb,xe:=λ_ _=>False}
def EY:Xw->cU
 |(x,b4)=>.exn x
 |(x,b3 (n,d))=>.exr x n d
section
variable{X:Cx}{K:Ah}{ml:List Nat}{pos:Pos}{g k kA:VS}{z:VZ}
def lG{n:Uq}{br:Pos}{b0:Ux}{c8:List Ux}{i:Nat}{aa:List (Ul×Uw)}{D:MS}{B:Bs}{R:Nat->Option Ul}{δ1 δ2:Ev}{d:cU}{E:Xw}{C a:Ul}{a0:Uk}{p:Option Ul}{c:St}{H2:Hp}{s':Af}{gh Q S:Uv}(hN:X.N.Nodup)(hi:X.N[i]?=b3 n)(hl:X.env.kindOf n=b3 .local)(him:i∉ml)(Y:X.stack=X.env::X.outer)(hk:∀a,WN (X.hnd a) (b0::c8) (WH X.K ml k))(hx:XC X.K E.1 C)(J':cF X aa c H2 s')(t:Low X aa gh)(fl5:Kn S (X.env::X.outer) a (.ref C) a0 Q)(dc5:Dc a p Q)(U:s'.heap.UpToSlots Q)(c1:∀b o,gh.get? b=b3 o->b∉SN X.stack->∃o',s'.heap.get? b=b3 o'/\S.get? b=b3 o')(c2:∀b u,H2 b=b3 u->∃o,s'.heap.get? b=b3 o/\S.get? b=b3 o)(S1:aU X.K ml B R H2 c δ1)(s:Pay X.K (Nn B R) H2 p E.2)(h3:k (δ1.set i (.va (EY E)))=b3 (.rt d δ2))(G:Post X.K ml B D (.rt d δ2)):Jq (Ur X.prog X.w) (X.A.mark (b3 (.ref a))) (.handlers (.ref a) [.ExceptHandler b4 (b3 n) (b0::c8) br] X.env) (λr l=>match r with
   |.ok f=>Uo (Ur X.prog X.w) X.A (do Im X.env n .none;unbindBehindTheSuite X.env n br) (λ_ F=>SP X aa D f F) X.xe l
   |.error x=>cameBackBy (Ur X.prog X.w) X.A X.env X.xe x l) {s' with heap:=Q}:=by
 refine codeAny_handlers_suite_as (IV (KD.flight _ _) dc5 (lands_againW fl5 λh6 g T dc6=>?_));have I6:cF X aa c H2 {s' with heap:=h6}:=J'.flyG t g.1 (U.trans T) c1 c2;obtain⟨oe,vs,_,_,_,I,hcl,J,_⟩:=id g.2.2.2;have dct:oe.dict=p:=dc6.at I;have Bn:S.get? a=b4:=g.2.1;have H:a∉SN X.stack:=λhb=>by rw[Y]at hb;obtain⟨_,o',e',nf⟩:=g.2.2.1.mem hb;rw[I]at e';cases e';exact nf vs J
 have na:∀b o,gh.get? b=b3 o->b≠a:=λb o e z=>by subst z;obtain⟨o',_,j⟩:=c1 b o e H;rw[Bn]at j;cases j
 have P:H2 a=b4:=by
  cases e:H2 a with
  |none=>rfl
  |some u=>
   obtain⟨o',_,j⟩:=c2 a u e;rw[Bn]at j;cases j
 have Z:X.s₀.heap.get? a=b4:=by
  cases e:X.s₀.heap.get? a with
  |none=>rfl
  |some o'=>
   obtain⟨V,j⟩:=t.s0 a o' e H;exact absurd rfl (na a V j)
 have I7:=I6.track (p:=p) (C:=C) P I hcl.1 J dct Z λq hq=>by obtain⟨V,j⟩:=t.pin q hq;exact na _ V j
 have S7:aU X.K ml B R (upd H2 a (.ext (excP a C p))) c δ1:=S1.same (cP P);refine YX (X:=X.hnd a) (I7.around rfl) hN hi (.inl hl) (v:=.ref a) rfl (λs8 I8=>?_) (.inr hl);have rx:∀M,bO X.K (Nn B R) (upd H2 a (.ext (excP a C p))) M (.ref a) (EY E):=λM=>by
  obtain⟨xn,y⟩:=E;cases p with
  |none=>
   cases y with
   |none=>exact .exn hx.at_ cA λh z=>z
   |some y=>exact s.elim
  |some D0=>
   cases y with
   |none=>exact s.elim
   |some y=>
    obtain⟨yn,yd⟩:=y;obtain⟨v,e,r⟩:=s;have nD:D0≠a:=λq=>by rw[q,P]at e;cases e
    exact .exr hx.at_ cA (λh z=>z) (by rw[bZ nD];exact e) (r.same (cP P))
 have S8:=S7.setVa (i:=i) (v:=.ref a) (d:=EY E) him (rx _);refine Ce (hk a aa s8 _ _ ⟨λ_ _=>False,D.rt,λ_ _=>False,λ_ _=>False⟩ I8 ⟨B,_,_,.rt d δ2,S8,h3,G⟩) (λf s9 O=>?_) λe s9 I=>(show False from I).elim;cases f with
 |next=>obtain⟨_,_,_,z⟩:=O;cases z
 |brk=>obtain⟨_,_,_,z⟩:=O;cases z
 |cont=>obtain⟨_,_,_,z⟩:=O;cases z
 |ret u=>
  obtain⟨v,σ9,H9,L,r9,hD⟩:=O;have L:=L.back J'.ok;obtain⟨m,hn,_⟩:=id L.loc;refine wpAny_nameGoes hl hn (by rw[L.ok.kind];rfl) λh' m' W sb=>?_;exact⟨v,_,H9,L.unbound W sb,r9,hD⟩
noncomputable def D8(g:VS)(z:VZ)(i:Nat)(a:Uq->VS):VS:=λδ=>match g δ with
 |some o=>b3 o
 | none => match z δ with
  |some (x,δ1)=>match a x.1 (δ1.set i (.va (EY x)))with
   |some (.rt d δ2)=>b3 (.rt d δ2)
   |_=>b4
  |none=>b4
def sTry(g:VS)(z:VZ)(i:Nat)(k:VS):VS:=D8 g z i λ_=>k
structure Xo(X:Cx)(ml:List Nat)(i:Nat)(kk:Uq->VS)(aa:List (Ul×Uw))(D:MS)(C a:Ul)(x:Xw)(s':Af)(h5:Uv):Prop where
 xc:XC X.K x.1 C
 ex:∃B O' δ1 δ2 d a0 p σ2 H2 gh Bh,cF X aa σ2 H2 s'/\Low X aa gh/\Kn Bh (X.env::X.outer) a (.ref C) a0 h5/\Dc a p h5/\s'.heap.UpToSlots h5/\(∀b o,gh.get? b=b3 o->b∉SN X.stack->∃o',s'.heap.get? b=b3 o'/\Bh.get? b=b3 o')∧
  (∀b u,H2 b=b3 u->∃o,s'.heap.get? b=b3 o/\Bh.get? b=b3 o)/\aU X.K ml B O' H2 σ2 δ1/\Pay X.K (Nn B O') H2 p x.2/\kk x.1 (δ1.set i (.va (EY x)))=b3 (.rt d δ2)/\Post X.K ml B D (.rt d δ2)
def dN{body:List Ux}{Z:Ox}{Y:List Ox}{i:Nat}{L:Uq->VS}(hK:X.K=K)(n:X.stack=X.env::X.outer)(M:X.env.frame=b3 X.env.locals)(hg:WN X.nox body (WH K ml g))(hz:∀(pn:List (Ul×Uw)) (xe:Uk->Af->Prop) (R:Uq->Option Ul->St->Hp->Prop),RzF {X with pn:=pn,xe:=xe} R->WN {X with pn:=pn,xe:=xe} body (ZS R K ml z))(hh:∀aa D C a x s' r,Xo X ml i L aa D C a x s' r->Uo (Ur X.prog X.w) X.A (handleBy (.ref a) X.env (Z::Y)) (λf s=>SP X aa D f s) X.xe {s' with heap:=r}):PS X (.Try body (Z::Y) [] [] pos) (WH K ml (D8 g z i L)):=by
 intro aa s σ H D I h;obtain⟨B,O,δ,o,S,q,c⟩:=h;refine wpAny_Try_except ?_;unfold D8 at q;cases h1:g δ with
 |some o'=>
  rw[h1]at q;cases q;refine Ce (hg aa s σ H D (I.wish _) ⟨B,O,δ,o,S,h1,c⟩) (λf s1 b=>?_) λe s1 N=>(show False from N).elim;have b:=b.unwish;cases f with
  |next=>exact Jm b
  |_=>exact b
 |none=>
  rw[h1]at q;dsimp only at q;cases h2:z δ with
  |none=>rw[h2]at q;cases q
  |some p=>
   obtain⟨k,δ1⟩:=p;rw[h2]at q;dsimp only at q;cases Q:L k.1 (δ1.set i (.va (EY k)))with
   |none=>rw[Q]at q;cases q
   |some ok=>
    rw[Q]at q;cases ok with
    |nx _=>cases q
    |bk _=>cases q
    |ct _=>cases q
    |rt d δ2=>
     cases q;subst hK;have I1:∀{xe:Uk->Af->Prop}{σ:St}{H:Hp}{s:Af},cF X aa σ H s->cF {X with pn:=X.pn++aa,xe:=xe} [] σ H s:=λI=>⟨I.ok.pns _ _,I.os,I.bare,I.base,I.loc,I.cell,I.free,I.freeC,λp j=>I.pin p (by simpa using j),I.hok,I.len⟩;have I2:∀{xe:Uk->Af->Prop}{ps:List (Ul×Uw)}{σ:St}{H:Hp}{s:Af},cF {X with pn:=X.pn++aa,xe:=xe} ps σ H s->cF X aa σ H s:=λJ=>⟨I.ok,J.os,J.bare,J.base,J.loc,J.cell,J.free,J.freeC,λp j=>J.pin p (Bq _ j),J.hok,J.len⟩;refine Ce (hz (X.pn++aa) _ (λx p m H'=>x=k.1/\∃l,aU X.K ml B l H' m δ1/\Pay X.K (Nn B l) H' p k.2) (λps x C p t H2 e s' gh hx J F lo hR=>?_) [] s σ H ⟨λ_ _=>False,λ_ _=>False,λ_ _=>False,λ_ _=>False⟩ (I1 I) ⟨B,O,δ,k,δ1,S,h2,λm H' l p S' j=>⟨rfl,l,S',j⟩⟩) (λf s1 b=>?_) λe s1 N=>N;rotate_left
     ·cases f with
      |next=>obtain⟨_,_,_,z⟩:=b;cases z
      |brk=>obtain⟨_,_,_,z⟩:=b;cases z
      |cont=>obtain⟨_,_,_,z⟩:=b;cases z
      |ret u=>obtain⟨_,_,_,_,_,z⟩:=b;cases z
     obtain⟨rfl,l,S1,E⟩:=hR;have J':=I2 J;have G:Low X aa gh:=⟨lo.s0,λp j=>lo.pin p (Bq _ j)⟩;obtain⟨a,a0,Bh,rfl,U,dc,c1,c2⟩:=F;have U:Kn Bh (X.env::X.outer) a (.ref C) a0 s'.heap:=n▸U;refine IV (KD.note _ _) dc (wpAny_looks_onW (J'.ok.frames.trans (by rw[n])) M U λh4 P y W=>IV (KD.flight _ _) W (wpAny_landsW P λr T v V=>?_));exact hh aa D C a k s' r ⟨hx,B,l,δ1,δ2,d,a0,p,t,H2,gh,Bh,J',G,T,V,y.trans v,c1,c2,S1,E,Q,c⟩
def AG{n l:Uq}{U br:Pos}{M:Ux}{H:List Ux}{rest:List Ox}{i:Nat}{F:Uq->VS}{aa:List (Ul×Uw)}{D:MS}{C a Q:Ul}{x:Xw}{s':Af}{j:Uv}{r:Bool}(o:X.stack=X.env::X.outer)(hN:X.N.Nodup)(hi:X.N[i]?=b3 n)(hl:X.env.kindOf n=b3 .local)(t:i∉ml)(u:Gl X l)(Z:X.mg l=b3 (.ref Q))(Y:XQ X.K C Q r)(y:(l==("__debug__":Uq))=bb)(L:Xo X ml i F aa D C a x s' j)(hk:r=ba->(∀a,WN (X.hnd a) (M::H) (WH X.K ml k))/\F x.1=k)(W:r=bb->Uo (Ur X.prog X.w) X.A (handleBy (.ref a) X.env rest) (λf s=>SP X aa D f s) X.xe {s' with heap:=j}):Uo (Ur X.prog X.w) X.A (handleBy (.ref a) X.env (.ExceptHandler (b3 (.Name l U)) (b3 n) (M::H) br::rest)) (λf s=>SP X aa D f s) X.xe {s' with heap:=j}:=by
 obtain⟨V,B,O',δ1,δ2,d,a0,p,c,H2,gh,Bh,O,h,b,z,e,J,I,S1,m,G,g⟩:=L;have P:cF X aa c H2 {s' with heap:=j}:=O.flyG h b.1 e J I;have E:cF (X.hnd a) aa c H2 {s' with heap:=j}:=P.around rfl;refine wpAny_handleBy_cons (codeAny_handlers_test (TM (X:=X.hnd a) E u Z ?_ y)) (by intro q;cases q);obtain⟨T,R,_,_,_,v,S,_⟩:=id b.2.2.2;refine AQ P.kIn v S.1 Y ?_;cases r with
 |false=>exact W rfl
 |true=>
  obtain⟨hk,ek⟩:=hk rfl;rw[ek]at G;exact lG hN hi hl t o hk V O h b z e J I S1 m G g
def iN{body:List Ux}{n:Uq}{l t:Pos}{j:Ux}{h:List Ux}{i:Nat}(s:X.K=K)(b:X.stack=X.env::X.outer)(e:X.env.frame=b3 X.env.locals)(p:X.N.Nodup)(hi:X.N[i]?=b3 n)(hl:X.env.kindOf n=b3 .local)(c:i∉ml)(d:Gl X "PackError")(m:∀C,Gs K Up "PackError"=b3 (b3 (.ref C))->X.mg "PackError"=b3 (.ref C))(o:WN X.nox body (WH K ml g))(hz:∀(pn:List (Ul×Uw)) (xe:Uk->Af->Prop) (R:Uq->Option Ul->St->Hp->Prop),RzF {X with pn:=pn,xe:=xe} R->WN {X with pn:=pn,xe:=xe} body (ZS R K ml z))(hk:∀a,WN (X.hnd a) (j::h) (WH K ml k)):PS X (.Try body [.ExceptHandler (b3 (.Name "PackError" l)) (b3 n) (j::h) t] [] [] pos) (WH K ml (sTry g z i k)):=by subst s;refine dN rfl b e o hz λaa D C a x s' u L=>?_;obtain⟨Cp,f⟩:=L.xc.pk;exact AG (r:=ba) (k:=k) b p hi hl c d (m Cp f.at_) f.q (by decide) L (λ_=>⟨hk,rfl⟩) λz=>nomatch z
end
section
variable{X:Cx}{K:Ah}{ml:List Nat}{e a b c fx:Us}{es:List Us}{pa ta ia pb tb ib pf ft fi ps:Bool}{fa fb fe:VF}{B:Bs}{O:Nat->Option Ul}{H H1 H':Hp}{σ:St}{δ δ':Ev}{v:V}{d:cU}{pos:Pos}{R:Uq->Option Ul->St->Hp->Prop}
noncomputable def WO:List cU->Option (List Bool)
 |[]=>b3 []
 |.bl i::ds=>(WO ds).map λns=>i::ns
 |_=>b4
theorem KO{N:Ul->Prop}:∀{xs:List V}{ds:List cU}{ns:List Bool},b9 K N H xs ds->WO ds=b3 ns->xs=ns.map V.bl
 |_,_,_,.nil,h=>by cases h;rfl
 | _,_,_,@b9.cons _ _ _ v vs d ds h t,e => by
  cases d with
  |bl k=>
   cases h;have e:(WO ds).map (λks=>k::ks)=b3 _:=e;cases h2:WO ds with
   |none=>rw[h2]at e;cases e
   |some ks=>
    rw[h2]at e;cases e;rw[KO t h2];rfl
  |_=>cases e
noncomputable def FL(n:Bool):List Bool->Option Nat
 |[]=>b4
 |i::ns=>if i=n then b3 0 else(FL n ns).map (· +1)
theorem LM{n:Bool}:∀{ns:List Bool}{j:Nat},FL n ns=b3 j->ns[j]?=b3 n/\∀m,m<j->ns[m]? ≠b3 n
 |[],_,h=>by cases h
 | i :: ns,j,h => by
  unfold FL at h;split at h
  ·rename_i hi
   cases h;exact⟨by rw[hi];rfl,λm a=>absurd a (Mr _)⟩
  ·rename_i hi
   cases h1:FL n ns with
   |none=>rw[h1]at h;cases h
   |some k=>
    rw[h1]at h;cases h;obtain⟨h2,b⟩:=LM h1;refine⟨by simpa using h2,λm a=>?_⟩;cases m with
    |zero=>simpa using hi
    |succ m=>simpa using b m (Md a)
noncomputable def GN(n:Bool):Uk->Bool
 |.bool i=>i==n
 |_=>bb
theorem MU:∀{ns:List Bool}{a:List Uk},bQ (ns.map V.bl) a->a=ns.map Gm
 |[],_,.nil=>rfl
 |i::ns,_,.cons r t=>by rw[MU t];cases r;rfl
def JZ(K:Ah):V->List V->Hp->VK->Prop:=λx vs H Q=>∃(l:Ul) (ns:List Bool) (n:Bool) (j:Nat),x=.ref l/\vs=[.bl n]/\X2 K H l (ns.map V.bl)/\FL n ns=b3 j/\Q (.int j) H
def JY(K:Ah):V->List V->Hp->VK->Prop:=λx vs H Q=>∃(l:Ul) (ns:List Bool) (n:Bool),x=.ref l/\vs=[.bl n]/\X2 K H l (ns.map V.bl)/\Q (.int (ns.count n:Nat)) H
def Wk{a:List Uk}{n:Bool}(r:bQ [V.bl n] a):a=[.bool n]:=by
 cases r with
 |cons r t=>cases t;cases r;rfl
def BA:MtM X "list.index" (JZ X.K):=by
 intro aa s σ H x vs v B Q I p t h;obtain⟨l,ns,n,j,rfl,rfl,u,A,q⟩:=h;cases p;obtain rfl:=Wk t;obtain⟨its,r,⟨o,c,e,hc,hd,g⟩,hz⟩:=I.list u;obtain⟨cls,dd,data,k⟩:=o;simp only at hc hd g;subst hc hd g;have hl:=r.length;obtain rfl:=MU r;obtain⟨h1,h2⟩:=LM A;have a:j<ns.length:=(Ag.mp h1).1;have hsz:ns.length<=16777216:=by rw[Ci]at hz;rw[<-Cf];exact hz
 refine Fk Ps ⟨_,e,rfl⟩ Om (Nx _ _) (Oo l (ns.map Gm).toArray c b4 k (.bool n) (GN n) j (by simpa using a) (by lia) ?_ ?_) ⟨e,?_,?_⟩
 ·have : ns[j] = n := by have := Cs a;rw [h1]at this;exact (Bp this).symm
  simp[GN,this]
 ·intro m w d
  have f:m<ns.length:=by simpa using w
  have:=h2 m d
  rw[Cs f]at this;simp only[List.getElem_toArray,List.getElem_map,GN];exact beq_eq_false_iff_ne.mpr λz=>this (by rw[z])
 ·intro y b
  have b:y∈ns.map Gm:=by simpa using b
  obtain⟨i,_,rfl⟩:=Cu.mp b;exact Nf i n
 ·exact⟨.int j,H,I.tok _,⟨_,rfl⟩,q⟩
def A8:MtM X "list.count" (JY X.K):=by
 intro aa s σ H x vs v m Q I f g h;obtain⟨l,ns,n,rfl,rfl,k,q⟩:=h;cases f;obtain rfl:=Wk g;obtain⟨its,r,⟨o,c,e,hc,hd,b⟩,hz⟩:=I.list k;obtain⟨cls,dd,data,d⟩:=o;simp only at hc hd b;subst hc hd b;obtain rfl:=MU r;refine Fk F.slot_list_count ⟨_,e,rfl⟩ F.entry_list_count (F.args_list_count_2 _ _) (SeqAt.list_countAt l (ns.map Gm).toArray c b4 d (.bool n) (GN n)) ⟨e,?_,?_⟩
 ·intro y a
  have a:y∈ns.map Gm:=by simpa using a
  obtain⟨i,_,rfl⟩:=Cu.mp a;exact Nf i n
 ·have j:(ns.map Gm).toArray.toList.countP (GN n)=ns.count n:=by rw[List.toList_toArray,List.countP_map];rfl
  refine⟨.int (ns.count n:Nat),H,I.tok _,⟨s.toks,?_⟩,q⟩;rw[j]
def JQ:cU->cU->Option cU
 |.lst ds,.bl n=>(WO ds).bind λns=>(FL n ns).map λj=>.int j
 |_,_=>b4
def JO:cU->cU->Option cU
 |.lst ds,.bl n=>(WO ds).map λns=>.int (ns.count n:Nat)
 |_,_=>b4
def Wb{ao ae:Pos}{name:Uq}{id:String}{r:V->List V->Hp->VK->Prop}{o:cU->cU->Option cU}(v:X.K=K)(m:Slot "list" name id)(ty:Qh (.builtin id)=pure (.type "method_descriptor"))(mt:MtM X id r)(s:∀{x y d:cU},o x y=b3 d->∃ds n ns i,x=.lst ds/\y=.bl n/\WO ds=b3 ns/\d=.int i/\∀(H:Hp) (l:Ul) (Q:VK),X2 K H l (ns.map V.bl)->Q (.int i) H->r (.ref l) [.bl n] H Q)(u:PE X a (TV K ml pa ta ia fa))(t:PE X b (TV K ml pb tb ib fb))(F:Gi a name X.env (eval a X.env)=eval a X.env:=by rfl)(E:((Fb ae (Um (b::[]) X.env)).all (λx=> !x.1)&&(Lg ae (Hg [] X.env)).all (λx=>x.1.isSome)&&decide ((b::([]:List Us)).length+([]:List Hh).length+(if([]:List Hh).isEmpty then 0 else 1)<30))=ba:=by rfl)(G:(ao.endLine==ae.line)=ba:=by rfl)(f:Um (b::[]) X.env=(bb,eval b X.env)::Um [] X.env:=by rfl)(I:(Fb ae (Um [] X.env)).any (·.1)=bb:=by rfl)(hl:(pb || (ta&&ia))=ba:=by rfl):PE X (.Call (.Attribute a name ao) [b] [] ae) (TV K ml (pa&&pb) ba ba (f2 o fa fb)):=
 (kBm (K := K) v Gj m ty mt u (bW t Z9 f) F E G f I).imp λσ H Q q0 => by
  obtain⟨B,O,δ,d,δ2,S,q,k⟩:=q0;obtain⟨x,δ1,y,h1,h2,C⟩:=RP q;obtain⟨ds,n,ns,i,rfl,rfl,A,rfl,w⟩:=s C;refine⟨B,O,δ,_,δ1,S,h1,λL H1 c=>?_⟩;obtain⟨l,xs,rfl,sq,_⟩:=c.rep.lstE;refine⟨.inl ⟨rfl,xs,sq⟩,B,O,δ1,_,δ2,c.sta,h2,λJ H2 R2=>?_⟩;have p:=R2.rep;cases p;obtain⟨M,j,D,e,r'⟩:=(R2.live hl c.rep).lstE;cases D;have:=KO r' A
  subst this;exact w H2 l Q e (k _ H2 ⟨R2.sta,c.frm.trans R2.frm,λz=>by obtain⟨h,g⟩:=(Ad _ _).mp z;exact(c.pur h).trans (R2.pur g),.int _⟩)
def nS{x y d:cU}(h:JQ x y=b3 d):∃ds n ns i,x=.lst ds/\y=.bl n/\WO ds=b3 ns/\d=.int i/\∀(H:Hp) (l:Ul) (Q:VK),X2 K H l (ns.map V.bl)->Q (.int i) H->JZ K (.ref l) [.bl n] H Q:=by
 unfold JQ at h;split at h
 ·rename_i ds n
  cases h1:WO ds with
  |none=>rw[h1]at h;cases h
  |some ns=>
   rw[h1,Ai]at h;cases h2:FL n ns with
   |none=>rw[h2]at h;cases h
   |some j=>
    rw[h2]at h;cases h;exact⟨ds,n,ns,j,rfl,rfl,h1,rfl,λH l Q sq q=>⟨l,ns,n,j,rfl,rfl,sq,h2,q⟩⟩
 ·cases h
def iT{x y d:cU}(h:JO x y=b3 d):∃ds n ns i,x=.lst ds/\y=.bl n/\WO ds=b3 ns/\d=.int i/\∀(H:Hp) (l:Ul) (Q:VK),X2 K H l (ns.map V.bl)->Q (.int i) H->JY K (.ref l) [.bl n] H Q:=by
 unfold JO at h;split at h
 ·rename_i ds n
  cases h1:WO ds with
  |none=>rw[h1]at h;cases h
  |some ns=>
   rw[h1]at h;cases h;exact⟨ds,n,ns,_,rfl,rfl,h1,rfl,λH l Q sq q=>⟨l,ns,n,rfl,rfl,sq,q⟩⟩
 ·cases h
def lQ(h:X.K=K:=by rfl):MtM X "list.index" (JZ K):=by subst h;exact BA
def qX(h:X.K=K:=by rfl):MtM X "list.count" (JY K):=by subst h;exact A8
def rIsx(K:Ah):RC:=λxs H Q=>∃a C b u k,xs=[.ref a,u]/\H a=b3 (.ext b)/\(∀h,b h->CJ h a C)/\XA K C/\(Tp K C).isSome=ba/\((∃D,u=.ref D/\Hd K (.ref C) (.ref D)=b3 k)∨∃n,u=.ty n/\Hd K (.ref C) (.type n)=b3 k)/\Q (.bl k) H
def qC:Z6 X (.builtin "isinstance") (rIsx X.K):=by
 intro aa s σ H xs p Q I r h;obtain⟨a,C,m,u,k,rfl,l,d,e,hc,hk,q⟩:=h;obtain⟨v,c,rfl,j,f⟩:=IJ r;cases j;obtain⟨o,vs,i,g,_⟩:=d _ (I.hok a _ l).1;have b:∀tk,EP X aa σ Q (.bool k) {s with toks:=tk}:=λtk=>⟨.bl k,H,I.tok tk,rfl,q⟩;rcases hk with⟨D,rfl,hk⟩|⟨n,rfl,hk⟩
 ·cases f
  exact Fl (GR e hc) I.kIn ⟨o,i,g⟩ hk (λz=>nomatch z) b
 ·cases f
  exact Fl (GR e hc) I.kIn ⟨o,i,g⟩ hk (λz=>nomatch z) b
def R7(h:X.K=K:=by rfl):Z6 X (.builtin "isinstance") (rIsx K):=by subst h;exact qC
structure XI(K:Ah)(cs all:List Uq):Prop where
 own:∀c∈cs,∃C,XC K c C
 isi:∀c∈cs,∀C,Gs K Up c=b3 (b3 (.ref C))->∀x∈all,∃D,Gs K Up x=b3 (b3 (.ref D))/\Hd K (.ref C) (.ref D)=b3 (decide (c=x))
 val:∀c∈cs,∀C,Gs K Up c=b3 (b3 (.ref C))->Hd K (.ref C) (.type "ValueError")=b3 ba
 pke:∀c∈cs,∀C,Gs K Up c=b3 (b3 (.ref C))->∃D,Gs K Up "PackError"=b3 (b3 (.ref D))/\Hd K (.ref C) (.ref D)=b3 ba
noncomputable def DE(a all:List Uq)(c:Uq):cU->Option cU
 |.fn x=>if c∈a/\x∈all then b3 (.bl (decide (c=x)))else if c∈a/\x= "PackError" then b3 (.bl ba)else b4
 |.ty n=>if c∈a/\n= "ValueError" then b3 (.bl ba)else b4
 |_=>b4
def UH(a all:List Uq):cU->cU->Option cU
 |.exn c,y=>DE a all c y
 |.exr c _ _,y=>DE a all c y
 |_,_=>b4
def Wj{o all:List Uq}(F:XI K o all){N M:Ul->Prop}{c0:Uq}{C a:Ul}{l:Uv->Prop}{y d:cU}{u:V}{Q:VK}(g:Gs K Up c0=b3 (b3 (.ref C)))(i:H a=b3 (.ext l))(f:∀h,l h->CJ h a C)(m:bO K N H M u y)(h:DE o all c0 y=b3 d)(k:∀b:Bool,d=.bl b->Q (.bl b) H):rIsx K [.ref a,u] H Q:=by
 unfold DE at h;split at h
 ·rename_i q
  cases m with
  |fn n=>
   split at h
   ·rename_i c
    cases h;obtain⟨p,e⟩:=F.own _ c.1;have:=g.symm.trans e.at_
    cases this;obtain⟨D,j,hk⟩:=F.isi _ c.1 _ g _ c.2;have:=n.symm.trans j
    cases this;exact⟨_,_,_,_,_,rfl,i,f,e.att,e.cls,.inl ⟨_,rfl,hk⟩,k _ rfl⟩
   ·split at h
    ·rename_i c
     cases h;obtain⟨c,rfl⟩:=c;obtain⟨p,e⟩:=F.own _ c;have:=g.symm.trans e.at_
     cases this;obtain⟨D,j,hk⟩:=F.pke _ c _ g;have:=n.symm.trans j
     cases this;exact⟨_,_,_,_,_,rfl,i,f,e.att,e.cls,.inl ⟨_,rfl,hk⟩,k _ rfl⟩
    ·cases h
 ·rename_i r
  cases m;split at h
  ·rename_i c
   cases h;obtain⟨c,rfl⟩:=c;obtain⟨p,e⟩:=F.own _ c;have:=g.symm.trans e.at_
   cases this;exact⟨_,_,_,_,_,rfl,i,f,e.att,e.cls,.inr ⟨_,rfl,F.val _ c _ g⟩,k _ rfl⟩
  ·cases h
 ·cases h
def WU{l all:List Uq}(F:XI K l all):MQ K (rIsx K) (UH l all):=by
 intro H N N' M M' x y d e c Q j i h k;unfold UH at h;split at h
 ·cases j with
  |exn f g a=>exact Wj F f g a i h λb e=>k (.bl b) λ_ _ _=>by rw[e];exact .bl b
 ·cases j with
  |exr f g a _ _=>exact Wj F f g (λh z=>by obtain⟨o,vs,p,n,m,_⟩:=a h z;exact⟨o,vs,p,n,m⟩) i h λb e=>k (.bl b) λ_ _ _=>by rw[e];exact .bl b
 ·cases h
end
end L2
namespace L2
open PySem PySem.Spec PyProof.Rows PySem.W
end L2
namespace L2
open PySem PySem.Spec PyProof.Rows
def AR(l b:Ul)(u v:Array Uk)(n m:Nat)(a:Array (Option Uk))(f:¬(!u.isEmpty&&Ea (u.size+v.size))=ba)(h1:u.size<=sizeLine)(h2:(u++v).size<=sizeLine+1):Meets (Ej.«list.extend» ⟨[.ref l,.ref b],[]⟩) (λ_ R s=>s.heap.get? l=b3 ⟨.type "list",b4,.seq u n,#[]⟩/\s.heap.get? b=b3 ⟨.type "list",b4,.seq v m,a⟩/\R (.ok (.ret .none)) {s with heap:=s.heap.update l (Dg λx=>x++v)}):=
 .of_wp λprog w A R s h=>by
  obtain⟨e,g,d,tk,os⟩:=s;obtain⟨hl,c,h⟩:=h;have f1:=Ja;have f2:=Kz;have f3:=Mf;have j:=Lq;have i:=Lr;wp_walk using(wpAny_updateSeq hl rfl (hz:=h1) (_hz':=h2)),Bg hl,Bg c
  exact⟨_,rfl,h⟩
def Vv(K:Ah):V->List V->Hp->VK->Prop:=λx vs H Q=>∃l b xs zs,x=.ref l/\vs=[.ref b]/\H l=b3 (.lst xs)/\X2 K H b zs/\xs.length+zs.length<=sizeLine/\Q .non (upd H l (.lst (xs++zs)))
def nM{X:Cx}:MtM X "list.extend" (Vv X.K):=by
 intro aa s σ H x vs v w Q I i j h;obtain⟨l,b,xs,zs,rfl,rfl,d,p,hz,q⟩:=h;cases i;obtain⟨u,rfl,k⟩:=j.one;cases k;obtain⟨z,its,n,r,hl,e⟩:=I.lstM d;obtain⟨a,c,⟨⟨cls,dd,data,g⟩,m,t,hc,hd,f⟩,_⟩:=I.list p;simp only at hc hd f;subst hc hd f;have o:=c.length;have hsz:its.toArray.size+a.toArray.size<=sizeLine:=by rw[Ak,Ak];lia
 refine Fk F.slot_list_extend ⟨_,e,rfl⟩ F.entry_list_extend (F.args_list_extend_2 _ _) (AR l b its.toArray a.toArray n m g (by rw[kO hsz,Bool.and_false];exact El) (by rw[Ak];lia) (by rw[Px];lia)) ⟨e,t,?_⟩
 refine⟨.non,_,I.lset (its':=its++a) d e (by simp) (r.append c) ?_,rfl,q⟩;rw[Bw];lia
def LA{X:Cx}{K:Ah}(h:X.K=K):MtM X "list.extend" (Vv K):=by subst h;exact nM
noncomputable def G0:List cU->List cU->Option (List cU)
 |ds,[.lst es]=>if ds.length+es.length<=16777216 then b3 (ds++es)else b4
 |_,_=>b4
def P6{K:Ah}:MuV K (Vv K) G0:=by
 intro H N l xs vs ds es e Q hl f a c h k;cases c with
 |nil=>cases h
 | @cons v vs d es hd t=>
  cases t with
  |cons _ _=>cases d<;>cases h
  |nil=>
   cases d with
   |lst es=>
    simp only[G0]at h;split at h
    ·rename_i hz
     cases h;obtain⟨b,zs,rfl,sq,r⟩:=hd.lstE;exact⟨l,b,xs,zs,rfl,rfl,hl,sq,by rw[a.length,r.length,Cf];exact hz,k _ _ (a.append r)⟩
    ·cases h
   |_=>cases h
def MG:Bm "ValueError"=b3 (.type "ValueError"):=by decide+kernel
def X6.mark{k:Nat}{A:Cc}(r:X6 k A)(h:Option Uk):X6 k (A.mark h):=⟨r.dp,r.un⟩
noncomputable def xiOk(K:Ah)(a all:List Uq):Bool:=a.all λc=>match Gs K Up c with
 |some (b3 (.ref C))=>all.all (λx=>match Gs K Up x with
  |some (b3 (.ref D))=>Hd K (.ref C) (.ref D)==b3 (decide (c=x))
  |_=>bb)&&(Hd K (.ref C) (.type "ValueError")==b3 ba&&match Gs K Up "PackError" with
  |some (b3 (.ref D))=>Hd K (.ref C) (.ref D)==b3 ba
  |_=>bb)
 |_=>bb
def XI.of{K:Ah}{b all:List Uq}(own:∀c∈b,∃C,XC K c C)(h:xiOk K b all=ba):XI K b all:=by
 have key:∀c∈b,∀C,Gs K Up c=b3 (b3 (.ref C))->(∀x∈all,∃D,Gs K Up x=b3 (b3 (.ref D))/\Hd K (.ref C) (.ref D)=b3 (decide (c=x)))/\Hd K (.ref C) (.type "ValueError")=b3 ba/\∃D,Gs K Up "PackError"=b3 (b3 (.ref D))/\Hd K (.ref C) (.ref D)=b3 ba:=by
  intro c hc C a;have:=Dn.mp h c hc
  rw[a]at this;simp only[Ad,beq_iff_eq]at this;refine⟨λx e=>?_,this.2.1,?_⟩;rotate_left
  ·have h2:=this.2.2
   split at h2
   ·rename_i D d
    exact⟨D,d,beq_iff_eq.mp h2⟩
   ·cases h2
  have h2:=Dn.mp this.1 x e;split at h2
  ·rename_i D d
   exact⟨D,d,beq_iff_eq.mp h2⟩
  ·cases h2
 exact⟨own,λc hc C a=>(key c hc C a).1,λc hc C a=>(key c hc C a).2.1,λc hc C a=>(key c hc C a).2.2⟩
def We{P:Av}{w:Uu}{K:Ah}{mg:Uq->Option Uk}{base h:Uv}{x:Uq}{st:Ux}{f:Ul}{ps:List Uq}{l:List cU->Option Xw}{k:Nat}(X:K.In h)(G:h.Ns Up mg)(p:A4 K x st f)(ok:∀{fd:Dw},XU K x x st f fd->aA P w K mg base (CXv P w) k f fd ps (spX K ps.length l))(n:∀{kV doc i:Uk}{j:Option Ul}{e ct:Uk}(g:List Uk),g.length=ps.length->Rf (Lx x x (YQ st) (aH st) (cO st) .none kV doc i j e ct) ⟨g,[]⟩=pure (ps.zip g)):DefX P w K mg base x k ps l f:=by obtain⟨o,od,kV,doc,i,j,e,ct,m,a,b,c,d⟩:=p;have U:=JI (st:=st) b c d;exact⟨Eh X G a,⟨_,ok U,U.binds λ_ _ _ _ _ _=>n⟩,d⟩
def eI{P:Av}{w:Uu}{K:Ah}{mg:Uq->Option Uk}{base h:Uv}{x:Uq}{st:Ux}{f:Ul}{ps:List Uq}{sp:Sp}{k:Nat}(X:K.In h)(G:h.Ns Up mg)(p:A4 K x st f)(ok:∀{fd:Dw},XU K x x st f fd->FnH P w K mg base k f fd ps sp)(m:∀{kV doc i:Uk}{j:Option Ul}{e ct:Uk}(g:List Uk),g.length=ps.length->Rf (Lx x x (YQ st) (aH st) (cO st) .none kV doc i j e ct) ⟨g,[]⟩=pure (ps.zip g)):DefH P w K mg base x k ps sp f:=by obtain⟨n,od,kV,doc,i,j,e,ct,l,a,b,c,d⟩:=p;have U:=JI (st:=st) b c d;exact⟨Eh X G a,⟨_,ok U,U.binds λ_ _ _ _ _ _=>m⟩,d⟩
def okZ(P:Av)(w:Uu)(K:Ah)(mg:Uq->Option Uk)(base:Uv){x qual:Uq}{st:Ux}{f:Ul}{fd:Dw}(N ps:List Uq)(k:Nat)(z:VZ)(F:XU K x qual st f fd)(S:b6 N ps (cO st))(d:∀(a:Uk) (A:Cc) (outer:List Env) (s:Af) (H:Hp) (E:XK) (b:YT k (A.deeper (envOfC qual (cO st) s.heap.objs.size f a))) (_:(A.deeper (envOfC qual (cO st) s.heap.objs.size f a)).units+64<cLine) (_:(A.deeper (envOfC qual (cO st) s.heap.objs.size f a)).units+1<cLine),WN (QS (CXv P w) P w K mg base N qual (cO st) f a A outer s H E) (aH st) (ZS (rE K E) K [] z))(c:ps.length<=N.length:=by decide):aA P w K mg base (CXv P w) (k+1) f fd ps (spX K ps.length (BV N.length z)):=
 XU.okX F S c λa A outer s H E b=>d a A outer s H E b b.units (Ws b)
def okWH(P:Av)(w:Uu)(K:Ah)(mg:Uq->Option Uk)(base:Uv){x qual:Uq}{st:Ux}{f:Ul}{fd:Dw}(N ps:List Uq)(k:Nat)(g:VS)(ml:List Nat)(F:XU K x qual st f fd)(S:b6 N ps (cO st))(d:∀(a:Uk) (A:Cc) (outer:List Env) (s:Af) (H:Hp) (b:X6 k (A.deeper (envOfC qual (cO st) s.heap.objs.size f a))) (_:(A.deeper (envOfC qual (cO st) s.heap.objs.size f a)).units+64<cLine) (_:(A.deeper (envOfC qual (cO st) s.heap.objs.size f a)).units+1<cLine),WN (cxH P w K mg base N qual (cO st) f a A outer s H) (aH st) (WH K ml g))(c:ps.length<=N.length:=by decide):FnH P w K mg base (k+1) f fd ps (spV K ml ps.length (Z2 N.length ml g)):=
 XU.okVH F S c λa A outer s H b=>d a A outer s H b b.units b.unit
def WS{α:Type}(k:Nat)(xs:List α):List α:=(Aw k xs).flatten
def NV{α:Type}(k:Nat)(xs:List α):(WS k xs).length=xs.length*k:=by
 unfold WS;induction k with
 |zero=>simp
 |succ k a=>rw[Dz,Gf,Bw,a,Nat.mul_succ,Qj]
def bQ.repV{xs:List V}{a:List Uk}(r:bQ xs a)(k:Nat):bQ (WS k xs) (WS k a):=by
 unfold WS;induction k with
 |zero=>exact .nil
 |succ k b=>rw[Dz,Dz,Gf,Gf];exact r.append b
def b9.rep{K:Ah}{N:Ul->Prop}{H:Hp}{xs:List V}{ds:List cU}(r:b9 K N H xs ds)(k:Nat):b9 K N H (WS k xs) (WS k ds):=by
 unfold WS;induction k with
 |zero=>exact .nil
 |succ k a=>rw[Dz,Dz,Gf,Gf];exact r.append a
def P8:fillsNumberSlot (.type "tuple") "mul"=pure bb:=
 PySem.fillsNumberSlot_seq (id:= "tuple.__mul__") (r:=b3 (.builtin "tuple.__rmul__")) F.slot_tuple_mul.lookup (by decide+kernel) F.slot_tuple_rmul.lookup (by decide+kernel)
def J1:seqRepeat? (.type "tuple")=pure (b3 (.builtin "tuple.__mul__")):=by unfold seqRepeat?;rw[Qv (T:= "tuple") (name:= "__mul__") (id:= "tuple.__mul__") F.slot_tuple_mul.lookup (by decide+kernel),Qv (T:= "tuple") (name:= "__rmul__") (id:= "tuple.__rmul__") F.slot_tuple_rmul.lookup (by decide+kernel)];rfl
def FR(a:Int)(t:Vf)(l:Ul)(u:Array Uk)(n:Nat)(dd:Option Ul)(b:Array (Option Uk)):Meets (Ej.«int.__rmul__» ⟨[.int a t,.ref l],[]⟩) (λ_ R s=>s.heap.get? l=b3 ⟨.type "tuple",dd,.seq u n,b⟩/\R (.ok (.ret Value.notImplemented)) s):=
 .of_wp λprog w A R s h=>by obtain⟨c,g,d,tk,os⟩:=s;obtain⟨hl,h⟩:=h;wp_walk;exact⟨_,rfl,h⟩
def E5(l:Ul)(t:Vf)(u:Array Uk)(n:Nat)(dd:Option Ul)(a:Array (Option Uk)):Meets (Ej.«tuple.__mul__» ⟨[.ref l,.int 1 t],[]⟩) (λ_ R s=>s.heap.get? l=b3 ⟨.type "tuple",dd,.seq u n,a⟩/\R (.ok (.ret (.ref l))) s):=
 .of_wp λprog w A R s h=>by
  obtain⟨b,g,d,tk,os⟩:=s;obtain⟨hl,h⟩:=h;have f1:=Ja;unfold Ej.«tuple.__mul__»;wp_walk using Bg hl
  exact⟨_,rfl,h⟩
def E6(l:Ul)(x:Int)(t:Vf)(u:Array Uk)(n:Nat)(dd:Option Ul)(e:Array (Option Uk))(h1:1<x)(h2:x<2 ^ 62)(f:u.isEmpty=bb)(hz:u.size*x.toNat<=16777216):Meets (Ej.«tuple.__mul__» ⟨[.ref l,.int x t],[]⟩) (λ_ R s=>s.heap.get? l=b3 ⟨.type "tuple",dd,.seq u n,e⟩/\R (.ok (.ret (.ref s.heap.objs.size))) {s with heap:=s.heap.push {cls:=.type "tuple",data:=.seq ((Aw x.toNat u).foldl (· ++ ·) #[])}}):=
 .of_wp λprog w A R s h=>by
  obtain⟨p,g,d,tk,os⟩:=s;obtain⟨hl,h⟩:=h;have f1:=Ja;unfold Ej.«tuple.__mul__»;have o:(decide (x< -2 ^ 63) || decide (x≥2 ^ 63))=bb:=by simp;lia
  have m:(x==1)=bb:=by simp;lia
  have k:decide (x<=0)=bb:=by simp;lia
  have a:(u.size:Int)*x=((u.size*x.toNat:Nat):Int):=by rw[Int.natCast_mul,Oa (by lia)]
  have j:¬((u.size:Int)*x>(2 ^ 63-1)/8):=by rw[a];lia
  have i:Kh ((u.size:Int)*x)=bb:=by rw[a];unfold Kh;simp only[Cf,decide_eq_false_iff_not];lia
  wp_walk using Bg hl
  rw[o];wp_walk using Bg hl
  simp only[f,m,k,Te];wp_walk;rw[i,if_neg j];have q:¬(List.foldl (λc b=>c++b) #[] (Aw x.toNat u)).size>sizeLine:=by
   have:=NV x.toNat u.toList
   unfold WS at this;rw[listMul_foldl,Ak];show¬([]++(Aw x.toNat u.toList).flatten).length>sizeLine;rw[Fd,this,Gg,Cf];lia
  wp_walk;exact⟨_,rfl,h⟩
section
variable{X:Cx}{K:Ah}
def Wl(K:Ah):R2:=λx y H Q=>∃l xs k,x=.ref l/\y=.int k/\X2 K H l xs/\(0<=k/\k<2 ^ 62)/\xs.length*k.toNat<=16777216/\∀p,H p=b4->Q (.ref p) (upd H p (.lst (WS k.toNat xs)))
def zEO:W7 X (Fs .Mult) (Wl X.K):=by
 intro aa s σ H x y v u Q I g f h;obtain⟨l,xs,x,rfl,rfl,i,⟨k,j⟩,hz,q⟩:=h;cases g;obtain⟨t,rfl⟩:=f;obtain⟨its,r,⟨⟨cls,dd,data,c⟩,n,a,hc,hd,d⟩,_⟩:=I.list i;simp only at hc hd d;subst hc hd d;have hl:=r.length;have hsz:its.toArray.size*x.toNat<=16777216:=by rw[Ak,<-hl];exact hz
 refine Ks (T:= "list") (U:= "int") (by decide) ⟨_,a,rfl⟩ (λs'=>Mx s' x t) noFill_list_mul Sa Jy repeat_list F.slot_int_index.lookup
  (Fk Jy (Mx s x t) Qw (Pz _ _) (lm_int_rmul_list_any x t l its.toArray n b4 c) ⟨a,rfl,⟨_,a,rfl⟩,?_⟩)
 refine Fk F.slot_list_mul ⟨_,a,rfl⟩ F.entry_list_mul (F.args_list_mul_2 _ _) (lm_list_mul_any l its.toArray n b4 c x t (by simp[Builtin.List.listFitsIndex];lia) (by lia) (by simp[Ea,sizeLine];lia)) ⟨a,?_⟩;rw[listMul_foldl_if];refine⟨.ref s.heap.objs.size,_,I.laid (t':=s.toks) (o:=.lst (WS x.toNat xs)) (λb m e=>Ae _ e) (Ar _) ?_,rfl,q _ (I.hok.fresh (Ar _))⟩;exact⟨by rw[NV,Cf];exact hz,WS x.toNat its,0,r.repV _,As _ rfl⟩
def Ye(K:Ah):R2:=λx y H Q=>∃l xs k,x=.ref l/\y=.int k/\WL K H l xs/\xs≠[]/\(1<=k/\k<2 ^ 62)/\xs.length*k.toNat<=16777216/\(k=1->Q (.ref l) H)/\∀p,H p=b4->Q (.ref p) (upd H p (.tup (WS k.toNat xs)))
def lO:W7 X (Fs .Mult) (Ye X.K):=by
 intro aa s σ H x y v u Q I j i h;obtain⟨l,xs,x,rfl,rfl,m,f,⟨p,g⟩,hz,q1,q⟩:=h;cases j;obtain⟨t,rfl⟩:=i;obtain⟨its,r,⟨⟨cls,dd,data,d⟩,c,hc,n,hd⟩,_⟩:=I.tuple m;simp only at hc hd;subst hc hd;have hl:=r.length;have hsz:its.toArray.size*x.toNat<=16777216:=by rw[Ak,<-hl];exact hz
 have k:its.toArray.isEmpty=bb:=by
  cases its with
  |nil=>exact absurd (r.nil_iff.mp rfl) f
  |cons a b=>rfl
 refine Ks (T:= "tuple") (U:= "int") (by decide) ⟨_,c,rfl⟩ (λs'=>Mx s' x t) P8 Sa Jy J1 F.slot_int_index.lookup
  (Fk Jy (Mx s x t) Qw (Pz _ _) (FR x t l its.toArray n dd d) ⟨c,rfl,⟨_,c,rfl⟩,?_⟩)
 by_cases hk:x=1
 ·subst hk
  exact Fk Qx ⟨_,c,rfl⟩ Qa (Oy _ _) (E5 l t its.toArray n dd d) ⟨c,⟨.ref l,H,I,rfl,q1 rfl⟩⟩
 ·refine Fk Qx ⟨_,c,rfl⟩ Qa (Oy _ _) (E6 l x t its.toArray n dd d (by lia) g k hsz) ⟨c,?_⟩
  rw[listMul_foldl];refine⟨.ref s.heap.objs.size,_,I.laid (t':=s.toks) (o:=.tup (WS x.toNat xs)) (λb w e=>Ae _ e) (Ar _) ?_,rfl,q _ (I.hok.fresh (Ar _))⟩;exact⟨by rw[NV,Cf];exact hz,WS x.toNat its,r.repV _,Jo _ _⟩
def Wh(K:Ah):R2:=λx y H Q=>Wl K x y H Q∨Ye K x y H Q
def NF(h:X.K=K:=by rfl):W7 X (Fs .Mult) (Wh K):=by subst h;exact zEO.or lO
noncomputable def Y4:cU->cU->Option cU
 |.lst ds,.int k=>if(0<=k/\k<2 ^ 62)/\ds.length*k.toNat<=16777216 then b3 (.lst (WS k.toNat ds))else b4
 |.tup (d::ds),.int k=>if(1<=k/\k<2 ^ 62)/\(ds.length+1)*k.toNat<=16777216 then b3 (.tup (WS k.toNat (d::ds)))else b4
 |_,_=>b4
def T7:OpC K (Wh K) Y4:=by
 intro H N M M' x y d e c Q l j h k;cases d with
 |lst ds=>
  cases e with
  |int i=>
   simp only[Y4]at h;split at h
   ·rename_i hz
    cases h;obtain⟨a,xs,rfl,q1,b⟩:=l.lstE;cases j;exact .inl ⟨a,xs,i,rfl,rfl,q1,hz.1,by rw[b.length];exact hz.2,λp f=>k _ _ (cP f) λM g=>.lst cA (λz=>by obtain⟨o,q⟩:=g _ z;rw[f]at q;cases q) ((b.rep _).same (cP f))⟩
   ·cases h
  |_=>cases h
 |tup ds=>
  cases ds with
  |nil=>cases h
  |cons d ds=>
   cases e with
   |int i=>
    simp only[Y4]at h;split at h
    ·rename_i hz
     cases h;obtain⟨a,xs,rfl,q1,b⟩:=l.tupE;cases j;refine .inr ⟨a,xs,i,rfl,rfl,q1,λz=>?_,hz.1,by rw[b.length];exact hz.2,λz=>?_,λp f=>k _ _ (cP f) λM g=>.tup (WL.of cA) ((b.rep _).same (cP f))⟩
     ·subst z
      cases b
     ·subst z
      refine k _ _ (bA.refl _) λM g=>?_;rw[show WS (1:Int).toNat (d::ds)=d::ds by simp[WS]];exact .tup q1 b
    ·cases h
   |_=>cases h
 |_=>cases h
end
noncomputable def A5:Us->Option cU
 |.Constant (.int i) _ _=>b3 (.int i)
 |.Constant (.bool i) _ _=>b3 (.bl i)
 |.Constant (.str i) _ _=>b3 (.str i)
 |.Constant .none _ _=>b3 .non
 |.UnaryOp .USub (.Constant (.int i) _ _) _=>b3 (.int (-i))
 |_=>b4
noncomputable def MM(f:Us->Option cU):List Us->Option (List cU)
 |[]=>b3 []
 |e::es=>(f e).bind λd=>(MM f es).map λds=>d::ds
def GX:Nat->Us->Option cU
 |0,e=>A5 e
 |k+1,e=>match e with
  |.Tuple es _ _=>(MM (GX k) es).bind λds=>if ds.length<=16777216 then b3 (.tup ds)else b4
  |.List es _=>(MM (GX k) es).bind λds=>if ds.length<=16777216 then b3 (.lst ds)else b4
  |e=>A5 e
section
variable{X:Cx}{K:Ah}{ml:List Nat}
def DA{e:Us}{d:cU}(h:A5 e=b3 d):PE X e (TV K ml ba ba ba (fC d)):=by
 unfold A5 at h;split at h
 ·cases h;exact cT
 ·cases h;exact ZT
 ·cases h;exact cG
 ·cases h;exact YN
 ·cases h;exact UR cT
 ·cases h
def LD{e:Us}{es:List Us}{d:cU}(h:A5 e=b3 d):Um (e::es) X.env=(bb,eval e X.env)::Um es X.env:=by
 unfold A5 at h;split at h<;>first
  |rfl
  |cases h
theorem JN{f:Us->Option cU}(c:∀e d,f e=b3 d->PE X e (TV K ml ba ba ba (fC d))/\∀es,Um (e::es) X.env=(bb,eval e X.env)::Um es X.env):∀{es:List Us}{ds:List cU},MM f es=b3 ds->PA X es (TAV K ml ba ba λδ=>b3 (ds,δ))
 |[],_,h=>by
  cases h;exact cR
 | e :: es,ds,h => by
  have h:((f e).bind λd=>(MM f es).map λds=>d::ds)=b3 ds:=h;cases h1:f e with
  |none=>rw[h1]at h;cases h
  |some d=>
   rw[h1]at h;have h:(MM f es).map (λds=>d::ds)=b3 ds:=h;cases h2:MM f es with
   |none=>rw[h2]at h;cases h
   |some g=>
    rw[h2]at h;cases h;obtain⟨a,b⟩:=c e d h1;exact cW a (JN c h2) (b es)
theorem JM:∀{k:Nat}{e:Us}{d:cU},GX k e=b3 d->PE X e (TV K ml ba ba ba (fC d))/\∀es,Um (e::es) X.env=(bb,eval e X.env)::Um es X.env
 |0,e,d,h=>⟨DA h,λes=>LD h⟩
 | k + 1,e,d,h => by
  have hl:∀(es:List Us) (g:List cU->cU) (fg:RJ->VF),(∀fs δ,fg fs δ=(fs δ).bind λp=>if p.1.length<=16777216 then b3 (g p.1,p.2)else b4)->((MM (GX k) es).bind λds=>if ds.length<=16777216 then b3 (g ds)else b4)=b3 d->∃ds,PA X es (TAV K ml ba ba λδ=>b3 (ds,δ))/\fg (λδ=>b3 (ds,δ))=fC d:=by
   intro es g fg c h;cases h1:MM (GX k) es with
   |none=>rw[h1]at h;cases h
   |some ds=>
    rw[h1]at h;have h:(if ds.length<=16777216 then b3 (g ds)else b4)=b3 d:=h;split at h
    ·rename_i hz
     cases h;refine⟨ds,JN (λe d=>JM) h1,funext λδ=>?_⟩;rw[c];show(if ds.length<=16777216 then b3 (g ds,δ)else b4)=_;rw[if_pos hz];rfl
    ·cases h
  unfold GX at h;split at h
  ·rename_i es f pos
   obtain⟨ds,a,b⟩:=hl es .tup cC (λ_ _=>rfl) h;exact⟨b▸cJ a,λ_=>rfl⟩
  ·rename_i es pos
   obtain⟨ds,a,b⟩:=hl es .lst aZ (λ_ _=>rfl) h;exact⟨b▸nO a,λ_=>rfl⟩
  ·exact⟨DA h,λes=>LD h⟩
def XD{k:Nat}{e:Us}{d:cU}(h:GX k e=b3 d):PE X e (TV K ml ba ba ba (fC d)):=(JM h).1
def F4{k:Nat}{es:List Us}{pos:Pos}{ds:List cU}(h:MM (GX k) es=b3 ds)(hz:ds.length<=16777216):PE X (.List es pos) (TN K ml ba (fC (.lst ds))):=by
 have a:=bR (pos:=pos) (JN (X:=X) (K:=K) (ml:=ml) (λe d=>JM (k:=k)) h);have b:aZ (λδ=>b3 (ds,δ))=fC (.lst ds):=funext λδ=>by show(if ds.length<=16777216 then b3 (cU.lst ds,δ)else b4)=_;rw[if_pos hz];rfl
 exact b▸a
end
section
variable{X:Cx}{K:Ah}{ml:List Nat}{e a b c:Us}{es:List Us}{pa ta ia pb tb ib pc tc ic pu bt bi ps bs:Bool}{fa fb fc f:VF}{B B':Bs}{O:Nat->Option Ul}{H H1 H':Hp}{σ:St}{δ δ':Ev}{v:V}{d:cU}{pos:Pos}{st:Ux}{rest:List Ux}{g g':VS}{z z':VZ}{R:Uq->Option Ul->St->Hp->Prop}
def IL:PE X e (TV K ml ba ba ba (λ_=>b4)):=λ_ _ _ _ _ _ h=>by obtain⟨_,_,_,_,_,_,q,_⟩:=h;cases q
end
end L2
namespace L2
open PySem
section
variable{α β:Type}{d x y z c:cU}{δ δ1 δ':Ev}{fa fb fc:VF}{o o':cU->cU->Option cU}{i j k n:Nat}{s:Sl}{b:Bool}{ds:List cU}
def q0(r:Option α)(δ:Ev):Option (α×Ev):=r.map λc=>(c,δ)
@[simp] theorem q0_s{a:α}:q0 (b3 a) δ=b3 (a,δ):=rfl
@[simp] theorem fC_e:fC d δ=b3 (d,δ):=rfl
noncomputable def qV:Option Sl->Ev->Option (cU×Ev)
 |some (.va d),δ=>b3 (d,δ)
 |_,_=>b4
noncomputable def qO:Option Sl->Ev->Option (cU×Ev)
 |some (.va d),δ=>b3 (d,δ)
 |some (.ow d),δ=>b3 (d,δ)
 |_,_=>b4
@[simp] theorem fV_e:fV i δ=qV δ[i]? δ:=by unfold fV qV;split<;>simp_all
@[simp] theorem fO_e:fO i δ=qO δ[i]? δ:=by unfold fO qO;split<;>simp_all
@[simp] theorem qV_s:qV (b3 (.va d)) δ=b3 (d,δ):=rfl
@[simp] theorem qO_v:qO (b3 (.va d)) δ=b3 (d,δ):=rfl
@[simp] theorem qO_o:qO (b3 (.ow d)) δ=b3 (d,δ):=rfl
def q1(o:cU->Option cU)(r:Option (cU×Ev)):Option (cU×Ev):=r.bind λp=>q0 (o p.1) p.2
@[simp] theorem f1_e{o:cU->Option cU}:f1 o fa δ=q1 o (fa δ):=rfl
@[simp] theorem q1_s{o:cU->Option cU}:q1 o (b3 (x,δ))=q0 (o x) δ:=rfl
def q2(o:cU->cU->Option cU)(r:Option (cU×Ev))(fb:VF):Option (cU×Ev):=r.bind λp=>(fb p.2).bind λq=>q0 (o p.1 q.1) q.2
def q2b(o:cU->cU->Option cU)(x:cU)(r:Option (cU×Ev)):Option (cU×Ev):=r.bind λq=>q0 (o x q.1) q.2
@[simp] theorem f2_e:f2 o fa fb δ=q2 o (fa δ) fb:=rfl
@[simp] theorem q2_s:q2 o (b3 (x,δ)) fb=q2b o x (fb δ):=rfl
@[simp] theorem rF:q2b o x (b3 (y,δ))=q0 (o x y) δ:=rfl
noncomputable def q3(o o':cU->cU->Option cU)(r:Option (cU×Ev))(fb fc:VF):Option (cU×Ev):=r.bind λp=>(fb p.2).bind λq=>(o p.1 q.1).bind λz=>match z with
 |.bl ba=>(fc q.2).bind λs=>(o' q.1 s.1).map λu=>(u,s.2)
 |.bl bb=>b3 (.bl bb,q.2)
 |_=>b4
def q3b(o o':cU->cU->Option cU)(x:cU)(r:Option (cU×Ev))(fc:VF):Option (cU×Ev):=q3 o o' (b3 (x,[])) (λ_=>r) fc
noncomputable def q3c(o':cU->cU->Option cU)(y:cU)(δ:Ev)(fc:VF):Option cU->Option (cU×Ev)
 |some (.bl ba)=>q2b o' y (fc δ)
 |some (.bl bb)=>b3 (.bl bb,δ)
 |_=>b4
@[simp] theorem f3_e:f3 o o' fa fb fc δ=q3 o o' (fa δ) fb fc:=rfl
@[simp] theorem q3_s:q3 o o' (b3 (x,δ)) fb fc=q3b o o' x (fb δ) fc:=rfl
@[simp] theorem vJ:q3b o o' x (b3 (y,δ)) fc=q3c o' y δ fc (o x y):=by
 simp only[q3b,q3,Ai];cases o x y with
 |none=>rfl
 |some z=>cases z with
  |bl b=>cases b<;>rfl
  |_=>rfl
@[simp] theorem rQ:q3c o' y δ fc (b3 (.bl ba))=q2b o' y (fc δ):=rfl
@[simp] theorem rA:q3c o' y δ fc (b3 (.bl bb))=b3 (.bl bb,δ):=rfl
noncomputable def qc(r:Option (cU×Ev))(fs:RJ):Option (List cU×Ev):=r.bind λp=>(fs p.2).map λq=>(p.1::q.1,q.2)
noncomputable def qcb(x:cU)(r:Option (List cU×Ev)):Option (List cU×Ev):=r.map λq=>(x::q.1,q.2)
@[simp] theorem wA:cK δ=b3 ([],δ):=rfl
@[simp] theorem wv{fs:RJ}:cV fa fs δ=qc (fa δ) fs:=rfl
@[simp] theorem qc_s{fs:RJ}:qc (b3 (x,δ)) fs=qcb x (fs δ):=rfl
@[simp] theorem sg:qcb x (b3 (ds,δ))=b3 (x::ds,δ):=rfl
noncomputable def qT(g:List cU->cU)(r:Option (List cU×Ev)):Option (cU×Ev):=r.bind λp=>if p.1.length<=16777216 then b3 (g p.1,p.2)else b4
@[simp] theorem vw{fs:RJ}:cC fs δ=qT .tup (fs δ):=rfl
@[simp] theorem uT{fs:RJ}:aZ fs δ=qT .lst (fs δ):=rfl
@[simp] theorem qT_s{g:List cU->cU}:qT g (b3 (ds,δ))=if ds.length<=16777216 then b3 (g ds,δ)else b4:=rfl
noncomputable def qB:Option (cU×Ev)->Option (Bool×Ev)
 |some (.bl k,δ)=>b3 (k,δ)
 |_=>b4
@[simp] theorem fB_e:fB fa δ=qB (fa δ):=by
 unfold fB qB;cases fa δ with
 |none=>rfl
 |some p=>
  obtain⟨d,e⟩:=p;cases d<;>rfl
@[simp] theorem qB_s:qB (b3 (.bl b,δ))=b3 (b,δ):=rfl
variable{tb tb':VB}{g g':VS}
noncomputable def qAnd(r:Option (Bool×Ev))(y:VB):Option (Bool×Ev):=r.bind λp=>if p.1=ba then y p.2 else b3 (bb,p.2)
noncomputable def qOr(r:Option (Bool×Ev))(y:VB):Option (Bool×Ev):=r.bind λp=>if p.1=ba then b3 (ba,p.2)else y p.2
noncomputable def qNot(r:Option (Bool×Ev)):Option (Bool×Ev):=r.map λp=>(!p.1,p.2)
@[simp] theorem um:T4 tb tb' δ=qAnd (tb δ) tb':=rfl
@[simp] theorem w9:OC tb tb' δ=qOr (tb δ) tb':=rfl
@[simp] theorem rJ:SR tb δ=qNot (tb δ):=rfl
@[simp] theorem nW:UW δ=b3 (ba,δ):=rfl
@[simp] theorem sw:qAnd (b3 (ba,δ)) tb=tb δ:=rfl
@[simp] theorem u9:qAnd (b3 (bb,δ)) tb=b3 (bb,δ):=rfl
@[simp] theorem sB:qOr (b3 (ba,δ)) tb=b3 (ba,δ):=rfl
@[simp] theorem vA:qOr (b3 (bb,δ)) tb=tb δ:=rfl
@[simp] theorem tR:qNot (b3 (b,δ))=b3 (!b,δ):=rfl
noncomputable def qA(r:Option (cU×Ev))(y:VF):Option (cU×Ev):=r.bind λp=>match p.1 with
 |.bl ba=>y p.2
 |.bl bb=>b3 (.bl bb,p.2)
 |_=>b4
@[simp] theorem tK:RQ fa fb δ=qA (fa δ) fb:=rfl
@[simp] theorem qA_t:qA (b3 (.bl ba,δ)) fb=fb δ:=rfl
@[simp] theorem qA_f:qA (b3 (.bl bb,δ)) fb=b3 (.bl bb,δ):=rfl
def qI(r:Option (Bool×Ev))(x y:VF):Option (cU×Ev):=r.bind λp=>if p.1=ba then x p.2 else y p.2
@[simp] theorem vL:fIf tb fa fb δ=qI (tb δ) fa fb:=rfl
@[simp] theorem qI_t:qI (b3 (ba,δ)) fa fb=fa δ:=rfl
@[simp] theorem qI_f:qI (b3 (bb,δ)) fa fb=fb δ:=rfl
def qS(r:Option Ou)(g:VS):Option Ou:=r.bind λo=>match o with
 |.nx δ'=>g δ'
 |o=>b3 o
@[simp] theorem uF:Z5 δ=b3 (.nx δ):=rfl
@[simp] theorem Y2:cD g g' δ=qS (g δ) g':=rfl
@[simp] theorem SV:qS (b3 (.nx δ)) g=g δ:=rfl
@[simp] theorem qS_r:qS (b3 (.rt d δ)) g=b3 (.rt d δ):=rfl
@[simp] theorem qS_b:qS (b3 (.bk δ)) g=b3 (.bk δ):=rfl
@[simp] theorem qS_c:qS (b3 (.ct δ)) g=b3 (.ct δ):=rfl
def qJ(r:Option (Bool×Ev))(x y:VS):Option Ou:=r.bind λp=>if p.1=ba then x p.2 else y p.2
@[simp] theorem Yv:XJ tb g g' δ=qJ (tb δ) g g':=rfl
@[simp] theorem qJ_t:qJ (b3 (ba,δ)) g g'=g δ:=rfl
@[simp] theorem qJ_f:qJ (b3 (bb,δ)) g g'=g' δ:=rfl
noncomputable def qRet(r:Option (cU×Ev)):Option Ou:=r.map λp=>.rt p.1 p.2
@[simp] theorem wH:bI fa δ=qRet (fa δ):=rfl
@[simp] theorem vk:qRet (b3 (d,δ))=b3 (.rt d δ):=rfl
noncomputable def qx(f:cU->Sl)(r:Option (cU×Ev)):Option (Sl×Ev):=r.map λp=>(f p.1,p.2)
@[simp] theorem xV_e:xV fa δ=qx .va (fa δ):=rfl
@[simp] theorem xO_e:xO fa δ=qx .ow (fa δ):=rfl
@[simp] theorem qx_s{f:cU->Sl}:qx f (b3 (d,δ))=b3 (f d,δ):=rfl
noncomputable def qSet(i:Nat)(r:Option (Sl×Ev)):Option Ou:=r.bind λp=>if i<p.2.length then b3 (.nx (p.2.set i p.1))else b4
@[simp] theorem sQ{x:VX}:aV i x δ=qSet i (x δ):=rfl
@[simp] theorem sA:qSet i (b3 (s,δ))=if i<δ.length then b3 (.nx (δ.set i s))else b4:=rfl
noncomputable def qP2(i j:Nat)(r:Option (Sl×Ev))(y:VX):Option Ou:=r.bind λp=>(y p.2).bind λq=>if i<q.2.length/\j<q.2.length then b3 (.nx ((q.2.set j q.1).set i p.1))else b4
noncomputable def qP2b(i j:Nat)(s:Sl)(r:Option (Sl×Ev)):Option Ou:=r.bind λq=>if i<q.2.length/\j<q.2.length then b3 (.nx ((q.2.set j q.1).set i s))else b4
@[simp] theorem vO{x y:VX}:PJ i j x y δ=qP2 i j (x δ) y:=rfl
@[simp] theorem tQ{y:VX}:qP2 i j (b3 (s,δ)) y=qP2b i j s (y δ):=rfl
@[simp] theorem sr{s':Sl}:qP2b i j s (b3 (s',δ))=if i<δ.length/\j<δ.length then b3 (.nx ((δ.set j s').set i s))else b4:=rfl
noncomputable def qP3(i j k:Nat)(r:Option (Sl×Ev))(y z:VX):Option Ou:=r.bind λp=>(y p.2).bind λq=>(z q.2).bind λr=>if i<r.2.length/\j<r.2.length/\k<r.2.length then b3 (.nx (((r.2.set k r.1).set j q.1).set i p.1))else b4
noncomputable def qP3b(i j k:Nat)(s:Sl)(r:Option (Sl×Ev))(z:VX):Option Ou:=r.bind λq=>(z q.2).bind λr=>if i<r.2.length/\j<r.2.length/\k<r.2.length then b3 (.nx (((r.2.set k r.1).set j q.1).set i s))else b4
noncomputable def qP3c(i j k:Nat)(s s':Sl)(r:Option (Sl×Ev)):Option Ou:=r.bind λr=>if i<r.2.length/\j<r.2.length/\k<r.2.length then b3 (.nx (((r.2.set k r.1).set j s').set i s))else b4
@[simp] theorem ud{x y z:VX}:NY i j k x y z δ=qP3 i j k (x δ) y z:=rfl
@[simp] theorem vy{y z:VX}:qP3 i j k (b3 (s,δ)) y z=qP3b i j k s (y δ) z:=rfl
@[simp] theorem uL{s':Sl}{z:VX}:qP3b i j k s (b3 (s',δ)) z=qP3c i j k s s' (z δ):=rfl
@[simp] theorem ui{s' a:Sl}:qP3c i j k s s' (b3 (a,δ))=if i<δ.length/\j<δ.length/\k<δ.length then b3 (.nx (((δ.set k a).set j s').set i s))else b4:=rfl
@[simp] theorem GL:gN i d δ=b3 (δ.set i (.va d)):=rfl
def qg(r:Option Ev)(a:VGs)(ds:List cU):Option Ev:=r.bind λδ1=>a ds δ1
@[simp] theorem uI:V1 [] δ=b3 δ:=rfl
@[simp] theorem wg{gg:VG}{a:VGs}:aD gg a (d::ds) δ=qg (gg d δ) a ds:=rfl
@[simp] theorem qg_s{a:VGs}:qg (b3 δ) a ds=a ds δ:=rfl
@[simp] theorem ut{a:VGs}:EZ n a (.tup ds) δ=if ds.length=n then a ds δ else b4:=rfl
@[simp] theorem tq{a:VGs}:EZ n a (.lst ds) δ=if ds.length=n then a ds δ else b4:=rfl
noncomputable def qAsg(r:Option (cU×Ev))(gg:VG):Option Ou:=r.bind λp=>(gg p.1 p.2).map Ou.nx
@[simp] theorem rG{gg:VG}:BW fa gg δ=qAsg (fa δ) gg:=rfl
@[simp] theorem uV{gg:VG}:qAsg (b3 (d,δ)) gg=(gg d δ).map Ou.nx:=rfl
def qM(i:Nat)(m:List cU->List cU->Option (List cU))(r:Option (List cU))(δ:Ev)(fs:RJ):Option Ou:=r.bind λ_=>(fs δ).bind λp=>(OZ p.2 i).bind λds=>(m ds p.1).map λa=>.nx (p.2.set i (.ow (.lst a)))
def qMb(i:Nat)(m:List cU->List cU->Option (List cU))(r:Option (List cU×Ev)):Option Ou:=r.bind λp=>(OZ p.2 i).bind λds=>(m ds p.1).map λa=>.nx (p.2.set i (.ow (.lst a)))
noncomputable def qMc(i:Nat)(m:List cU->List cU->Option (List cU))(es:List cU)(δ:Ev)(r:Option (List cU)):Option Ou:=r.bind λds=>(m ds es).map λa=>.nx (δ.set i (.ow (.lst a)))
noncomputable def qMd(i:Nat)(δ:Ev)(r:Option (List cU)):Option Ou:=r.map λa=>.nx (δ.set i (.ow (.lst a)))
@[simp] theorem sP{m:List cU->List cU->Option (List cU)}{fs:RJ}:WT i m fs δ=qM i m (OZ δ i) δ fs:=rfl
@[simp] theorem qM_s{m:List cU->List cU->Option (List cU)}{fs:RJ}:qM i m (b3 ds) δ fs=qMb i m (fs δ):=rfl
@[simp] theorem sy{m:List cU->List cU->Option (List cU)}{es:List cU}:qMb i m (b3 (es,δ))=qMc i m es δ (OZ δ i):=rfl
@[simp] theorem uH{m:List cU->List cU->Option (List cU)}{es:List cU}:qMc i m es δ (b3 ds)=qMd i δ (m ds es):=rfl
@[simp] theorem uA:qMd i δ (b3 ds)=b3 (.nx (δ.set i (.ow (.lst ds)))):=rfl
noncomputable def qOl:Option Sl->Option (List cU)
 |some (.ow (.lst ds))=>b3 ds
 |_=>b4
@[simp] theorem ur:OZ δ i=qOl δ[i]? :=by unfold OZ qOl;split<;>simp_all
@[simp] theorem tL:qOl (b3 (.ow (.lst ds)))=b3 ds:=rfl
@[simp] theorem uK:SS ds [d]=if ds.length<16777216 then b3 (ds++[d])else b4:=rfl
noncomputable def qOd:Option Sl->Option (List aR×List cU)
 |some (.ow (.dct ks ds))=>b3 (ks,ds)
 |_=>b4
@[simp] theorem rM:W8 δ i=qOd δ[i]? :=by unfold W8 qOd;split<;>simp_all
@[simp] theorem we{ks:List aR}:qOd (b3 (.ow (.dct ks ds)))=b3 (ks,ds):=rfl
def qi(r:Option (cU×Ev)):Option (List cU×Ev):=r.bind λp=>(XB p.1).map λds=>(ds,p.2)
@[simp] theorem uC:UX fa δ=qi (fa δ):=rfl
@[simp] theorem qi_t:qi (b3 (.tup ds,δ))=b3 (ds,δ):=rfl
@[simp] theorem qi_l:qi (b3 (.lst ds,δ))=b3 (ds,δ):=rfl
noncomputable def qr1:Option (cU×Ev)->Option (List cU×Ev)
 |some (.int j,δ)=>if -4611686018427387904<=j/\j<4611686018427387904 then b3 (ZG 0 j.toNat,δ)else b4
 |_=>b4
@[simp] theorem sS:E1 fa δ=qr1 (fa δ):=by
 unfold E1 qr1;cases fa δ with
 |none=>rfl
 |some p=>
  obtain⟨d,e⟩:=p;cases d<;>rfl
@[simp] theorem wn{j:Int}:qr1 (b3 (.int j,δ))=if -4611686018427387904<=j/\j<4611686018427387904 then b3 (ZG 0 j.toNat,δ)else b4:=rfl
def qe(r:Option (cU×Ev)):Option (List cU×Ev):=r.bind λp=>(XB p.1).map λds=>(X9 0 ds,p.2)
@[simp] theorem sZ:M9 fa δ=qe (fa δ):=rfl
@[simp] theorem qe_t:qe (b3 (.tup ds,δ))=b3 (X9 0 ds,δ):=rfl
@[simp] theorem qe_l:qe (b3 (.lst ds,δ))=b3 (X9 0 ds,δ):=rfl
def qz(r:Option (cU×Ev))(g:VF):Option (List cU×Ev):=r.bind λp=>(g p.2).bind λq=>(XB p.1).bind λds=>(XB q.1).map λes=>(SX ds es,q.2)
def qzb(x:cU)(r:Option (cU×Ev)):Option (List cU×Ev):=r.bind λq=>(XB x).bind λds=>(XB q.1).map λes=>(SX ds es,q.2)
@[simp] theorem rl:iZip fa fb δ=qz (fa δ) fb:=rfl
@[simp] theorem qz_s:qz (b3 (x,δ)) fb=qzb x (fb δ):=rfl
@[simp] theorem rn:qzb x (b3 (y,δ))=(XB x).bind λds=>(XB y).map λes=>(SX ds es,δ):=rfl
@[simp] theorem uE:XB (.tup ds)=b3 ds:=rfl
@[simp] theorem tE:XB (.lst ds)=b3 ds:=rfl
def qF(r:Option (List cU×Ev))(gg:VG)(g:VS):Option Ou:=r.bind λp=>WP gg g p.1 p.2
@[simp] theorem dD{fi:VI}{gg:VG}:UL fi gg g δ=qF (fi δ) gg g:=rfl
@[simp] theorem qF_s{gg:VG}:qF (b3 (ds,δ)) gg g=WP gg g ds δ:=rfl
def qK(ix:List Nat)(nl:Nat)(r:Option (List cU×Ev))(gg:VG)(tb:VB)(fe:VF):Option (cU×Ev):=r.bind λp=>(ZO ix.length nl gg tb fe p.1 [] (aM ix p.2)).map λq=>(.lst q.1,YU ix q.2 p.2)
def qKb(ix:List Nat)(δ:Ev)(r:Option (List cU×Ev)):Option (cU×Ev):=r.map λq=>(.lst q.1,YU ix q.2 δ)
@[simp] theorem rL{ix:List Nat}{nl:Nat}{fi:VI}{gg:VG}:ZP ix nl fi gg tb fa δ=qK ix nl (fi δ) gg tb fa:=rfl
@[simp] theorem qK_s{ix:List Nat}{nl:Nat}{gg:VG}:qK ix nl (b3 (ds,δ)) gg tb fa=qKb ix δ (ZO ix.length nl gg tb fa ds [] (aM ix δ)):=rfl
@[simp] theorem uw{ix:List Nat}:qKb ix δ (b3 (ds,δ1))=b3 (.lst ds,YU ix δ1 δ):=rfl
variable{as:List AV}{fs:T1}{mF:List Nat}{F:bP}
noncomputable def qa(r:Option (cU×Ev))(fs:T1):Option (List AV×Ev):=r.bind λp=>(fs p.2).map λq=>(.d p.1::q.1,q.2)
noncomputable def qab(x:AV)(r:Option (List AV×Ev)):Option (List AV×Ev):=r.map λq=>(x::q.1,q.2)
@[simp] theorem kI:b7 δ=b3 ([],δ):=rfl
@[simp] theorem F9:aE fa fs δ=qa (fa δ) fs:=rfl
@[simp] theorem qa_s:qa (b3 (x,δ)) fs=qab (.d x) (fs δ):=rfl
@[simp] theorem Vi{a:AV}:qab a (b3 (as,δ))=b3 (a::as,δ):=rfl
def qao(j:Nat)(r:Option cU)(δ:Ev)(fs:T1):Option (List AV×Ev):=r.bind λ_=>qab (.o j) (fs δ)
@[simp] theorem aO_e:aO j fs δ=qao j (slot δ j) δ fs:=rfl
@[simp] theorem gC:qao j (b3 d) δ fs=qab (.o j) (fs δ):=rfl
noncomputable def qsl:Option Sl->Option cU
 |some (.va d)=>b3 d
 |some (.ow d)=>b3 d
 |_=>b4
@[simp] theorem tW:slot δ j=qsl δ[j]? :=by unfold slot qsl;split<;>simp_all
@[simp] theorem rW:qsl (b3 (.va d))=b3 d:=rfl
@[simp] theorem tf:qsl (b3 (.ow d))=b3 d:=rfl
@[simp] theorem tj:W6 δ []=b3 []:=rfl
@[simp] theorem wG:W6 δ (.d d::as)=(W6 δ as).map λds=>d::ds:=rfl
@[simp] theorem uM:W6 δ (.o j::as)=(slot δ j).bind λd=>(W6 δ as).map λds=>d::ds:=rfl
def Wc(n:Nat)(mF:List Nat)(F:bP)(r:Option (List AV×Ev)):Option (cU×Ev):=r.bind λp=>(W6 p.2 p.1).bind λds=>if ds.length=n/\U6 mF p.1 p.2=ba then(F ds).bind λq=>if WB mF p.1 q.1 q.2=ba then b3 (q.1,WM p.1 mF q.2 p.2)else b4 else b4
def qCb(n:Nat)(mF:List Nat)(F:bP)(as:List AV)(δ:Ev)(r:Option (List cU)):Option (cU×Ev):=r.bind λds=>if ds.length=n/\U6 mF as δ=ba then(F ds).bind λq=>if WB mF as q.1 q.2=ba then b3 (q.1,WM as mF q.2 δ)else b4 else b4
def qCc(mF:List Nat)(as:List AV)(δ:Ev)(r:Option (cU×List cU)):Option (cU×Ev):=r.bind λq=>if WB mF as q.1 q.2=ba then b3 (q.1,WM as mF q.2 δ)else b4
@[simp] theorem OI:cI n mF F fs δ=Wc n mF F (fs δ):=rfl
@[simp] theorem qN:Wc n mF F (b3 (as,δ))=qCb n mF F as δ (W6 δ as):=rfl
@[simp] theorem gP:qCb n mF F as δ (b3 ds)=if ds.length=n/\U6 mF as δ=ba then qCc mF as δ (F ds)else b4:=rfl
@[simp] theorem jJ{os:List cU}:qCc mF as δ (b3 (d,os))=if WB mF as d os=ba then b3 (d,WM as mF os δ)else b4:=rfl
@[simp] theorem ww:DC δ as i=(match as[i]? with
 |some (.o j)=>match δ[j]? with
  |some (.ow _)=>ba
  |_=>bb
 |_=>bb):=rfl
@[simp] theorem tS:WQ []=[]:=rfl
@[simp] theorem uc:WQ (.d d::as)=WQ as:=rfl
@[simp] theorem vm:WQ (.o j::as)=j::WQ as:=rfl
@[simp] theorem vZ:U6 mF as δ=(mF.all (DC δ as)&&decide (WQ as).Nodup):=rfl
@[simp] theorem rK:X8 mF [] i=ba:=rfl
@[simp] theorem uj:X8 mF (.d d::as) i=X8 mF as (i+1):=rfl
@[simp] theorem vh:X8 mF (.o j::as) i=(decide (i∈mF)&&X8 mF as (i+1)):=rfl
@[simp] theorem vW{os:List cU}:WB mF as d os=((X8 mF as 0 || d.hard)&&(X8 mF as 0 || os.all UE)&&decide (mF.length=os.length)):=rfl
@[simp] theorem vb{os:List cU}:WM as [] os δ=δ:=by cases os<;>rfl
@[simp] theorem rp{os:List cU}{is:List Nat}:WM as (i::is) (d::os) δ=(match as[i]? with
  |some (.o j)=>WM as is os (δ.set j (.ow d))
  |_=>WM as is os δ):=rfl
noncomputable def qins(r:Option (cU×List cU)):Option (cU×List cU):=r.map λq=>(q.1,q.2.dropLast)
@[simp] theorem wB:insD i F ds=qins (F (ds.take i++ .dct [] []::ds.drop i)):=rfl
@[simp] theorem wD{os:List cU}:qins (b3 (d,os))=b3 (d,os.dropLast):=rfl
@[simp] theorem uf:pNo δ=b3 (b4,δ):=rfl
noncomputable def qpS:Option (cU×Ev)->Option (Option Int×Ev)
 |some (.int i,δ)=>b3 (b3 i,δ)
 |_=>b4
@[simp] theorem sI:DJ fa δ=qpS (fa δ):=by
 unfold DJ qpS;cases fa δ with
 |none=>rfl
 |some p=>
  obtain⟨d,e⟩:=p;cases d<;>rfl
@[simp] theorem rT{i:Int}:qpS (b3 (.int i,δ))=b3 (b3 i,δ):=rfl
def qSl(r:Option (cU×Ev))(a b:VP):Option (cU×Ev):=r.bind λp=>(a p.2).bind λl=>(b l.2).bind λu=>(oSl p.1 l.1 u.1).map λc=>(c,u.2)
def qSlb(x:cU)(r:Option (Option Int×Ev))(a:VP):Option (cU×Ev):=r.bind λl=>(a l.2).bind λu=>(oSl x l.1 u.1).map λc=>(c,u.2)
def qSlc(x:cU)(l:Option Int)(r:Option (Option Int×Ev)):Option (cU×Ev):=r.bind λu=>q0 (oSl x l u.1) u.2
@[simp] theorem w5{a b:VP}:CW fa a b δ=qSl (fa δ) a b:=rfl
@[simp] theorem ub{a b:VP}:qSl (b3 (x,δ)) a b=qSlb x (a δ) b:=rfl
@[simp] theorem uN{l:Option Int}{a:VP}:qSlb x (b3 (l,δ)) a=qSlc x l (a δ):=rfl
@[simp] theorem vx{l u:Option Int}:qSlc x l (b3 (u,δ))=q0 (oSl x l u) δ:=rfl
@[simp] theorem sf{l u:Option Int}:oSl (.tup ds) l u=b3 (.tup (V0 ds l u)):=rfl
@[simp] theorem vf{l u:Option Int}:oSl (.lst ds) l u=b3 (.lst (V0 ds l u)):=rfl
noncomputable def qSt(i j:Nat):Option (cU×Ev)->Option Ou
 |some (.tup (d::ds),δ)=>b3 (.nx ((δ.set i (.va d)).set j (.va (.lst ds))))
 |_=>b4
@[simp] theorem rR:HU i j fa δ=qSt i j (fa δ):=by
 unfold HU qSt;cases fa δ with
 |none=>rfl
 |some p=>
  obtain⟨d,e⟩:=p;cases d with
  |tup ds=>cases ds<;>rfl
  |_=>rfl
@[simp] theorem sY:qSt i j (b3 (.tup (d::ds),δ))=b3 (.nx ((δ.set i (.va d)).set j (.va (.lst ds)))):=rfl
def qDg(i:Nat)(r:Option (List aR×List cU))(δ:Ev)(fk fx:VF):Option (cU×Ev):=r.bind λ_=>(fk δ).bind λp=>(fx p.2).bind λq=>(V2 p.1).bind λk=>(W8 q.2 i).map λz=>((a8 z.1 z.2 k).getD q.1,q.2)
def qDgb(i:Nat)(r:Option (cU×Ev))(fx:VF):Option (cU×Ev):=r.bind λp=>(fx p.2).bind λq=>(V2 p.1).bind λk=>(W8 q.2 i).map λz=>((a8 z.1 z.2 k).getD q.1,q.2)
def qDgc(i:Nat)(x:cU)(r:Option (cU×Ev)):Option (cU×Ev):=r.bind λq=>(V2 x).bind λk=>(W8 q.2 i).map λz=>((a8 z.1 z.2 k).getD q.1,q.2)
@[simp] theorem sM:JG i fa fb δ=qDg i (W8 δ i) δ fa fb:=rfl
@[simp] theorem vX{z:List aR×List cU}:qDg i (b3 z) δ fa fb=qDgb i (fa δ) fb:=rfl
@[simp] theorem sW:qDgb i (b3 (x,δ)) fb=qDgc i x (fb δ):=rfl
@[simp] theorem tX:qDgc i x (b3 (y,δ))=(V2 x).bind λk=>(W8 δ i).map λz=>((a8 z.1 z.2 k).getD y,δ):=rfl
def qDp(i:Nat)(r:Option (cU×Ev))(fk:VF):Option Ou:=r.bind λp=>(W8 p.2 i).bind λ_=>(fk p.2).bind λq=>(V2 q.1).bind λk=>(W8 q.2 i).bind λz=>if z.1.length<16777216/\z.1.Nodup then b3 (.nx (q.2.set i (.ow (let r:=YE z.1 z.2 k p.1;.dct r.1 r.2))))else b4
def qDpb(i:Nat)(x:cU)(r:Option (List aR×List cU))(δ:Ev)(fk:VF):Option Ou:=r.bind λ_=>(fk δ).bind λq=>(V2 q.1).bind λk=>(W8 q.2 i).bind λz=>if z.1.length<16777216/\z.1.Nodup then b3 (.nx (q.2.set i (.ow (let r:=YE z.1 z.2 k x;.dct r.1 r.2))))else b4
def qDpc(i:Nat)(x:cU)(r:Option (cU×Ev)):Option Ou:=r.bind λq=>(V2 q.1).bind λk=>(W8 q.2 i).bind λz=>if z.1.length<16777216/\z.1.Nodup then b3 (.nx (q.2.set i (.ow (.dct (YE z.1 z.2 k x).1 (YE z.1 z.2 k x).2))))else b4
@[simp] theorem sX{fk fv:VF}:HR i fk fv δ=qDp i (fv δ) fk:=rfl
@[simp] theorem vT{fk:VF}:qDp i (b3 (x,δ)) fk=qDpb i x (W8 δ i) δ fk:=rfl
@[simp] theorem ul{z:List aR×List cU}{fk:VF}:qDpb i x (b3 z) δ fk=qDpc i x (fk δ):=rfl
@[simp] theorem rP:qDpc i x (b3 (y,δ))=(V2 y).bind λk=>(W8 δ i).bind λz=>if z.1.length<16777216/\z.1.Nodup then b3 (.nx (δ.set i (.ow (.dct (YE z.1 z.2 k x).1 (YE z.1 z.2 k x).2))))else b4:=rfl
@[simp] theorem uX{i:Int}:V2 (.int i)=b3 (.inl i):=rfl
@[simp] theorem tF{s:Uq}:V2 (.str s)=b3 (.inr s):=rfl
def BO(ml:List Nat):Option Ou->Option (cU×List cU)
 |some (.rt d δ)=>(UK ml δ).map λos=>(d,os)
 |some (.nx δ)=>(UK ml δ).map λos=>(.non,os)
 |_=>b4
def bD{ml:List Nat}:Z2 n ml g ds=BO ml (g (a9 ml n ds)):=by
 unfold Z2 BO;cases g (a9 ml n ds)with
 |none=>rfl
 |some o=>cases o<;>rfl
@[simp] theorem tH{ml:List Nat}:BO ml (b3 (.rt d δ))=(UK ml δ).map λos=>(d,os):=rfl
@[simp] theorem tT{ml:List Nat}:BO ml (b3 (.nx δ))=(UK ml δ).map λos=>(.non,os):=rfl
def qow:Option Sl->Option cU
 |some (.ow d)=>b3 d
 |_=>b4
@[simp] theorem vF:UK [] δ=b3 []:=rfl
@[simp] theorem rq{ml:List Nat}:UK (i::ml) δ=(qow δ[i]?).bind λd=>(UK ml δ).map λos=>d::os:=by
 unfold UK;rw[Sf];cases h:(δ[i]? :Option Sl)with
 |none=>rfl
 | some s => cases s with
  |no=>rfl
  |va d=>rfl
  |ow d=>
   show(Option.bind _ λos=>b3 (d::os))=Option.map (λos=>d::os) _;cases (List.mapM _ ml:Option (List cU))<;>rfl
@[simp] theorem vV:qow (b3 (.ow d))=b3 d:=rfl
end
section
variable{i j:Int}{x y:Uq}{ds es:List cU}
@[simp] theorem oI_e{C:Int->Int->Bool}{g:Int->Int->cU}:oI C g (.int i) (.int j)=if C i j=ba then b3 (g i j)else b4:=rfl
@[simp] theorem uQ:aJ (.int i) (.int j)=b3 (.int (i+j)):=rfl
@[simp] theorem rB:aJ (.tup ds) (.tup es)=if ds.length+es.length<=16777216 then b3 (.tup (ds++es))else b4:=rfl
@[simp] theorem uh:aJ (.lst ds) (.lst es)=if ds.length+es.length<=16777216 then b3 (.lst (ds++es))else b4:=rfl
@[simp] theorem rN{g:Int->Int->Int}:o2I g (.int i) (.int j)=b3 (.int (g i j)):=rfl
@[simp] theorem uq:Y1 (.tup ds)=b3 (.int ds.length):=rfl
@[simp] theorem tY:Y1 (.lst ds)=b3 (.int ds.length):=rfl
@[simp] theorem wq:HA (.tup ds)=b3 (.lst ds):=rfl
@[simp] theorem tu:HA (.lst ds)=b3 (.lst ds):=rfl
@[simp] theorem tG:VD (.tup ds)=b3 (.tup ds):=rfl
@[simp] theorem wj:VD (.lst ds)=b3 (.tup ds):=rfl
@[simp] theorem rm:bE (.tup ds) (.int i)=T2 ds i:=rfl
@[simp] theorem so:bE (.lst ds) (.int i)=T2 ds i:=rfl
@[simp] theorem vc{ks:List aR}:bE (.dct ks ds) (.int i)=a8 ks ds (.inl i):=rfl
@[simp] theorem wE{ks:List aR}:bE (.dct ks ds) (.str x)=a8 ks ds (.inr x):=rfl
@[simp] theorem vI:LJ (.int i)=ba:=rfl
@[simp] theorem vp:LJ .non=ba:=rfl
@[simp] theorem wl{b:Bool}:LJ (.bl b)=ba:=rfl
@[simp] theorem uG:P2 "int" "bool"=b3 bb:=by decide+kernel
@[simp] theorem sU:P2 "int" "int"=b3 ba:=by decide+kernel
@[simp] theorem tJ:P2 "tuple" "tuple"=b3 ba:=by decide+kernel
@[simp] theorem w8:P2 "str" "str"=b3 ba:=by decide+kernel
@[simp] theorem uU:P2 "list" "list"=b3 ba:=by decide+kernel
@[simp] theorem sL{n:String}:SU (.int i) (.ty n)=(P2 "int" n).map cU.bl:=rfl
@[simp] theorem wu{n:String}:SU (.tup ds) (.ty n)=(P2 "tuple" n).map cU.bl:=rfl
@[simp] theorem uk{n:String}:SU (.lst ds) (.ty n)=(P2 "list" n).map cU.bl:=rfl
@[simp] theorem uJ{n:String}:SU (.str x) (.ty n)=(P2 "str" n).map cU.bl:=rfl
@[simp] theorem uo:MN .non .non=b3 (.bl ba):=rfl
@[simp] theorem sj:MN (.int i) .non=b3 (.bl bb):=rfl
@[simp] theorem sN:MN (.str x) .non=b3 (.bl bb):=rfl
@[simp] theorem vU:MN (.tup ds) .non=b3 (.bl bb):=rfl
@[simp] theorem uW:PH .non .non=b3 (.bl bb):=rfl
@[simp] theorem vD:PH (.int i) .non=b3 (.bl ba):=rfl
@[simp] theorem rD:PH (.str x) .non=b3 (.bl ba):=rfl
@[simp] theorem vN:PH (.tup ds) .non=b3 (.bl ba):=rfl
end
section
variable{d x:cU}{δ δ1:Ev}{r acc:List cU}{gg:VG}{tb:VB}{fe:VF}{n nl:Nat}{g:VS}
def qk1(n nl:Nat)(gg:VG)(tb:VB)(fe:VF)(r acc:List cU)(o:Option Ev):Option (List cU×Ev):=o.bind λδ1=>(tb δ1).bind λp=>if p.1=ba then(fe p.2).bind λq=>if acc.length<16777216 then ZO n nl gg tb fe r (acc++[q.1]) (q.2.take n)else b4 else ZO n nl gg tb fe r acc (p.2.take n)
def qk2(n nl:Nat)(gg:VG)(tb:VB)(fe:VF)(r acc:List cU)(o:Option (Bool×Ev)):Option (List cU×Ev):=o.bind λp=>if p.1=ba then(fe p.2).bind λq=>if acc.length<16777216 then ZO n nl gg tb fe r (acc++[q.1]) (q.2.take n)else b4 else ZO n nl gg tb fe r acc (p.2.take n)
def qk3(n nl:Nat)(gg:VG)(tb:VB)(fe:VF)(r acc:List cU)(o:Option (cU×Ev)):Option (List cU×Ev):=o.bind λq=>if acc.length<16777216 then ZO n nl gg tb fe r (acc++[q.1]) (q.2.take n)else b4
@[simp] theorem vn:ZO n nl gg tb fe [] acc δ=b3 (acc,δ):=rfl
@[simp] theorem QP:ZO n nl gg tb fe (d::r) acc δ=qk1 n nl gg tb fe r acc (gg d (δ++F7 nl)):=rfl
@[simp] theorem HL:qk1 n nl gg tb fe r acc (b3 δ)=qk2 n nl gg tb fe r acc (tb δ):=rfl
@[simp] theorem Vw:qk2 n nl gg tb fe r acc (b3 (ba,δ))=qk3 n nl gg tb fe r acc (fe δ):=rfl
@[simp] theorem Vy:qk2 n nl gg tb fe r acc (b3 (bb,δ))=ZO n nl gg tb fe r acc (δ.take n):=rfl
@[simp] theorem Vs:qk3 n nl gg tb fe r acc (b3 (x,δ))=if acc.length<16777216 then ZO n nl gg tb fe r (acc++[x]) (δ.take n)else b4:=rfl
def qf1(gg:VG)(g:VS)(r:List cU)(o:Option Ev):Option Ou:=o.bind λδ1=>(g δ1).bind (X7 (WP gg g r))
def qf2(gg:VG)(g:VS)(r:List cU)(o:Option Ou):Option Ou:=o.bind (X7 (WP gg g r))
@[simp] theorem pK:WP gg g [] δ=b3 (.nx δ):=rfl
@[simp] theorem RS:WP gg g (d::r) δ=qf1 gg g r (gg d δ):=rfl
@[simp] theorem NT:qf1 gg g r (b3 δ)=qf2 gg g r (g δ):=rfl
@[simp] theorem NU:qf2 gg g r (b3 (.nx δ))=WP gg g r δ:=rfl
@[simp] theorem v5:qf2 gg g r (b3 (.ct δ))=WP gg g r δ:=rfl
@[simp] theorem sx:qf2 gg g r (b3 (.bk δ))=b3 (.nx δ):=rfl
@[simp] theorem rH:qf2 gg g r (b3 (.rt d δ))=b3 (.rt d δ):=rfl
@[simp] theorem uu{ss:Ev}:YU [] ss δ=δ:=by cases ss<;>rfl
@[simp] theorem wF{i:Nat}{is:List Nat}{ss:Ev}:YU (i::is) (.ow d::ss) δ=YU is ss (δ.set i (.ow d)):=rfl
@[simp] theorem rC{i:Nat}{is:List Nat}{ss:Ev}:YU (i::is) (.va d::ss) δ=YU is ss δ:=rfl
@[simp] theorem uZ{i:Nat}{is:List Nat}{ss:Ev}:YU (i::is) (.no::ss) δ=YU is ss δ:=rfl
end
@[simp] theorem Vj:F7 1=[.no]:=rfl
@[simp] theorem Xc:F7 2=[.no,.no]:=rfl
@[simp] theorem vQ:F7 3=[.no,.no,.no]:=rfl
@[simp] theorem tO{i:Int}:ZG i 0=[]:=rfl
@[simp] theorem vd:ZG 0 1=[.int 0]:=rfl
@[simp] theorem vg:ZG 0 2=[.int 0,.int 1]:=rfl
@[simp] theorem v9:ZG 0 3=[.int 0,.int 1,.int 2]:=rfl
@[simp] theorem vK:ZG 0 4=[.int 0,.int 1,.int 2,.int 3]:=rfl
def T3{α:Type}{xs:List α}{i:Int}(a:0<=i)(h1:i<xs.length):T2 xs i=xs[i.toNat]? :=by unfold T2 AZ;rw[if_pos a,if_pos h1];rfl
def EQ{α:Type}{xs:List α}{i:Int}(a:0<=i)(h1:i<xs.length):∃x∈xs,T2 xs i=b3 x:=by
 rw[T3 a h1];have h:i.toNat<xs.length:=by lia
 exact⟨xs[i.toNat],Lz _,Cs h⟩
section
variable{F:bP}{fa fb fc:VF}{δ:Ev}{x y z d o:cU}{j:Nat}
noncomputable def BP(δ:Ev):Option (cU×List cU)->Option (cU×Ev)
 |some (d,[])=>b3 (d,δ)
 |_=>b4
@[simp] theorem w6:BP δ (b3 (d,[]))=b3 (d,δ):=rfl
def ES{n:Nat}{ds:List cU}{as:List AV}(h:W6 δ as=b3 ds)(a:ds.length=n)(b:WQ as=[])(c:X8 [] as 0=ba):qCb n [] F as δ (b3 ds)=BP δ (F ds):=by
 have hc:U6 [] as δ=ba:=by simp[b]
 rw[gP,if_pos ⟨a,hc⟩];cases F ds with
 |none=>rfl
 |some q=>
  obtain⟨r,os⟩:=q;rw[jJ];cases os with
  |nil=>simp[c,BP]
  |cons o os=>simp[BP]
def qx1(F:bP)(r:Option (cU×Ev)):Option (cU×Ev):=r.bind λp=>BP p.2 (F [p.1])
@[simp] theorem wC:qx1 F (b3 (x,δ))=BP δ (F [x]):=rfl
@[simp high] theorem call1:cI 1 [] F (aE fa b7) δ=qx1 F (fa δ):=by
 rw[OI,F9];cases fa δ with
 |none=>rfl
 |some p=>exact ES (as:=[.d p.1]) rfl rfl rfl rfl
def qx2(F:bP)(r:Option (cU×Ev))(fb:VF):Option (cU×Ev):=r.bind λp=>(fb p.2).bind λq=>BP q.2 (F [p.1,q.1])
def qx2b(F:bP)(x:cU)(r:Option (cU×Ev)):Option (cU×Ev):=r.bind λq=>BP q.2 (F [x,q.1])
@[simp] theorem eG:qx2 F (b3 (x,δ)) fb=qx2b F x (fb δ):=rfl
@[simp] theorem vP:qx2b F x (b3 (y,δ))=BP δ (F [x,y]):=rfl
@[simp high] theorem call2:cI 2 [] F (aE fa (aE fb b7)) δ=qx2 F (fa δ) fb:=by
 rw[OI,F9];cases fa δ with
 |none=>rfl
 |some p=>
  rw[qa_s,F9,eG];cases fb p.2 with
  |none=>rfl
  |some q=>exact ES (as:=[.d p.1,.d q.1]) rfl rfl rfl rfl
def qx3(F:bP)(r:Option (cU×Ev))(fb fc:VF):Option (cU×Ev):=r.bind λp=>(fb p.2).bind λq=>(fc q.2).bind λs=>BP s.2 (F [p.1,q.1,s.1])
def qx3b(F:bP)(x:cU)(r:Option (cU×Ev))(fc:VF):Option (cU×Ev):=r.bind λq=>(fc q.2).bind λs=>BP s.2 (F [x,q.1,s.1])
def qx3c(F:bP)(x y:cU)(r:Option (cU×Ev)):Option (cU×Ev):=r.bind λs=>BP s.2 (F [x,y,s.1])
@[simp] theorem kN:qx3 F (b3 (x,δ)) fb fc=qx3b F x (fb δ) fc:=rfl
@[simp] theorem eC:qx3b F x (b3 (y,δ)) fc=qx3c F x y (fc δ):=rfl
@[simp] theorem wb:qx3c F x y (b3 (z,δ))=BP δ (F [x,y,z]):=rfl
@[simp high] theorem call3:cI 3 [] F (aE fa (aE fb (aE fc b7))) δ=qx3 F (fa δ) fb fc:=by
 rw[OI,F9];cases fa δ with
 |none=>rfl
 |some p=>
  rw[qa_s,F9,kN];cases fb p.2 with
  |none=>rfl
  |some q=>
   rw[qa_s,F9,eC];cases fc q.2 with
   |none=>rfl
   |some s=>exact ES (as:=[.d p.1,.d q.1,.d s.1]) rfl rfl rfl rfl
noncomputable def qw3(j:Nat)(δ:Ev):Option (cU×List cU)->Option (cU×Ev)
 |some (r,[o])=>b3 (r,δ.set j (.ow o))
 |_=>b4
def qw2(F:bP)(j:Nat)(x y:cU)(δ:Ev):Option Sl->Option (cU×Ev)
 |some (.ow d)=>qw3 j δ (F [x,d,y])
 |_=>b4
def qwb(F:bP)(j:Nat)(x:cU)(r:Option (cU×Ev)):Option (cU×Ev):=r.bind λq=>qw2 F j x q.1 q.2 q.2[j]?
def qwa(F:bP)(j:Nat)(x:cU)(δ:Ev)(fb:VF)(s:Option cU):Option (cU×Ev):=s.bind λ_=>qwb F j x (fb δ)
def qw(F:bP)(j:Nat)(r:Option (cU×Ev))(fb:VF):Option (cU×Ev):=r.bind λp=>qwa F j p.1 p.2 fb (slot p.2 j)
@[simp] theorem wo:qw3 j δ (b3 (x,[o]))=b3 (x,δ.set j (.ow o)):=rfl
@[simp] theorem vE:qw2 F j x y δ (b3 (.ow d))=qw3 j δ (F [x,d,y]):=rfl
@[simp] theorem fW:qwb F j x (b3 (y,δ))=qw2 F j x y δ δ[j]? :=rfl
@[simp] theorem qD:qwa F j x δ fb (b3 d)=qwb F j x (fb δ):=rfl
@[simp] theorem qw_s:qw F j (b3 (x,δ)) fb=qwa F j x δ fb (slot δ j):=rfl
@[simp high] theorem callO:cI 3 [1] F (aE fa (aO j (aE fb b7))) δ=qw F j (fa δ) fb:=by
 rw[OI,F9];cases fa δ with
 |none=>rfl
 |some p=>
  obtain⟨x,δ1⟩:=p;rw[qa_s,aO_e,qw_s];cases h:slot δ1 j with
  |none=>rfl
  |some d0=>
   rw[gC,F9,qD];cases fb δ1 with
   |none=>rfl
   |some q=>
    obtain⟨y,δ2⟩:=q;rw[fW,qa_s,kI,Vi,Vi,Vi,qN];cases h2:δ2[j]? with
    |none=>simp[h2,qsl,qCb,qw2]
    |some s=>
     cases s with
     |no=>simp[h2,qsl,qCb,qw2]
     |va d=>simp[h2,qw2]
     |ow d=>
      simp[h2];cases F [x,d,y]with
      |none=>rfl
      |some r=>
       obtain⟨v,os⟩:=r;cases os with
       |nil=>simp[qw3]
       |cons o os=>
        cases os with
        |nil=>simp
        |cons a os=>simp[qw3]
end
section
variable{δ:Ev}{i j k l:Nat}{d e:cU}{ds es zs:List cU}{sh:List (Option Nat)}{fv fk:VF}{fs:RJ}{fg:T1}{F:bP}{n m:Int}{as:List AV}
@[simp] theorem tU:OX (b4::sh) (d::ds) 0=b3 d:=rfl
@[simp] theorem rS:NC (b3 k::sh) ds 0=b3 (ds.take k):=rfl
@[simp] theorem sV:NC (b4::sh) (d::ds) 1=NC sh ds 0:=rfl
@[simp] theorem uD:O0 (b4::sh) (e::ds) 0 d=d::ds:=rfl
@[simp] theorem vY:Q5 (b3 k::sh) ds 0 es=es++ds.drop k:=rfl
@[simp] theorem tI:Q5 (b4::sh) (e::ds) 1 es=e::Q5 sh ds 0 es:=rfl
def qNv(j:Nat)(δ:Ev):Option Sl->Option (cU×Ev)
 |some (.ow (.nst sh ds))=>(OX sh ds j).map λd=>(d,δ)
 |_=>b4
@[simp] theorem tw:fNv i j δ=qNv j δ δ[i]? :=rfl
@[simp] theorem vi:qNv j δ (b3 (.ow (.nst sh ds)))=(OX sh ds j).map λd=>(d,δ):=rfl
def qPt(k:Nat):Option Sl->Option cU
 |some (.ow (.nst sh ds))=>(NC sh ds k).map cU.lst
 |_=>b4
@[simp] theorem vS:part δ j k=qPt k δ[j]? :=rfl
@[simp] theorem sk:qPt k (b3 (.ow (.nst sh ds)))=(NC sh ds k).map cU.lst:=rfl
@[simp] theorem tV:fNl i j δ=(part δ i j).map λd=>(d,δ):=rfl
def qaP(i j:Nat)(r:Option cU)(δ:Ev)(fs:T1):Option (List AV×Ev):=r.bind λ_=>qab (.p i j) (fs δ)
@[simp] theorem aP_e:aP i j fg δ=qaP i j (part δ i j) δ fg:=rfl
@[simp] theorem vR:qaP i j (b3 d) δ fg=qab (.p i j) (fg δ):=rfl
@[simp] theorem ua:W6 δ (.p j k::as)=(part δ j k).bind λd=>(W6 δ as).map λds=>d::ds:=rfl
@[simp] theorem uv:WQ (.p j k::as)=j::WQ as:=rfl
def qNp(i j:Nat)(r:Option (cU×Ev)):Option Ou:=r.bind λp=>match p.1,p.2[i]? with
 |.int k,b3 (.ow (.nst sh ds))=>(OX sh ds j).map λ_=>.nx (p.2.set i (.ow (.nst sh (O0 sh ds j (.int k)))))
 |_,_=>b4
def qNpb(i j:Nat)(n:Int)(δ:Ev):Option Sl->Option Ou
 |some (.ow (.nst sh ds))=>(OX sh ds j).map λ_=>.nx (δ.set i (.ow (.nst sh (O0 sh ds j (.int n)))))
 |_=>b4
@[simp] theorem ve:D6 i j fv δ=qNp i j (fv δ):=rfl
@[simp] theorem vt:qNp i j (b3 (.int n,δ))=qNpb i j n δ δ[i]? :=by
 unfold qNp qNpb;simp only[Ai];generalize δ[i]?=r;cases r with
 |none=>rfl
 |some s=>
  cases s with
  |ow d=>cases d<;>rfl
  |_=>rfl
@[simp] theorem uP:qNpb i j n δ (b3 (.ow (.nst sh ds)))=(OX sh ds j).map λ_=>Ou.nx (δ.set i (.ow (.nst sh (O0 sh ds j (.int n))))):=rfl
def qNa(i j:Nat)(r:Option (List cU×Ev)):Option Ou:=r.bind λr=>match r.1,r.2[i]? with
 |[d],b3 (.ow (.nst sh ds))=>(NC sh ds j).bind λzs=>if zs.length<16777216 then b3 (.nx (r.2.set i (.ow (.nst (sh.set j (b3 (zs.length+1))) (Q5 sh ds j (zs++[d]))))))else b4
 |_,_=>b4
def qNab(i j:Nat)(d:cU)(δ:Ev):Option Sl->Option Ou
 |some (.ow (.nst sh ds))=>(NC sh ds j).bind λzs=>if zs.length<16777216 then b3 (.nx (δ.set i (.ow (.nst (sh.set j (b3 (zs.length+1))) (Q5 sh ds j (zs++[d]))))))else b4
 |_=>b4
@[simp] theorem rZ:D4 i j fs δ=(part δ i j).bind λ_=>qNa i j (fs δ):=rfl
@[simp] theorem ue:qNa i j (b3 ([d],δ))=qNab i j d δ δ[i]? :=by
 unfold qNa qNab;simp only[Ai];generalize δ[i]?=r;cases r with
 |none=>rfl
 |some s=>
  cases s with
  |ow d=>cases d<;>rfl
  |_=>rfl
@[simp] theorem sT:qNab i j d δ (b3 (.ow (.nst sh ds)))=(NC sh ds j).bind λzs=>if zs.length<16777216 then b3 (Ou.nx (δ.set i (.ow (.nst (sh.set j (b3 (zs.length+1))) (Q5 sh ds j (zs++[d]))))))else b4:=rfl
def qNq(i j k:Nat)(r:Option (List cU×Ev)):Option Ou:=r.bind λr=>match r.1,r.2[i]? with
 |[.int n,.int d],b3 (.ow (.nst sh ds))=>(OX sh ds j).bind λ_=>if k<r.2.length then b3 (.nx ((r.2.set i (.ow (.nst sh (O0 sh ds j (.int n))))).set k (.va (.int d))))else b4
 |_,_=>b4
def qNqb(i j k:Nat)(n m:Int)(δ:Ev):Option Sl->Option Ou
 |some (.ow (.nst sh ds))=>(OX sh ds j).bind λ_=>if k<δ.length then b3 (.nx ((δ.set i (.ow (.nst sh (O0 sh ds j (.int n))))).set k (.va (.int m))))else b4
 |_=>b4
@[simp] theorem uY:D5 i j k fs δ=qNq i j k (fs δ):=rfl
@[simp] theorem sF:qNq i j k (b3 ([.int n,.int m],δ))=qNqb i j k n m δ δ[i]? :=by
 unfold qNq qNqb;simp only[Ai];generalize δ[i]?=r;cases r with
 |none=>rfl
 |some s=>
  cases s with
  |ow d=>cases d<;>rfl
  |_=>rfl
@[simp] theorem v7:qNqb i j k n m δ (b3 (.ow (.nst sh ds)))=(OX sh ds j).bind λ_=>if k<δ.length then b3 (Ou.nx ((δ.set i (.ow (.nst sh (O0 sh ds j (.int n))))).set k (.va (.int m))))else b4:=rfl
def qNc(i j:Nat)(r:Option (cU×Ev)):Option Ou:=r.bind λr=>match r.1,r.2[i]? with
  |.int k,b3 (.ow (.nst sh ds))=>(NC sh ds j).bind λzs=>if 0<=k/\k<=zs.length then b3 (.nx (r.2.set i (.ow (.nst (sh.set j (b3 k.toNat)) (Q5 sh ds j (zs.take k.toNat))))))else b4
  |_,_=>b4
def qNcb(i j:Nat)(k:Int)(δ:Ev):Option Sl->Option Ou
 |some (.ow (.nst sh ds))=>(NC sh ds j).bind λzs=>if 0<=k/\k<=zs.length then b3 (.nx (δ.set i (.ow (.nst (sh.set j (b3 k.toNat)) (Q5 sh ds j (zs.take k.toNat))))))else b4
 |_=>b4
def mL(h:fv δ=b3 (.lst [],δ)):LR i j fv fk δ=(part δ i j).bind λ_=>qNc i j (fk δ):=by unfold LR;rw[h];rfl
@[simp] theorem vC:LR i j (aZ cK) fk δ=(part δ i j).bind λ_=>qNc i j (fk δ):=mL rfl
@[simp] theorem tN:qNc i j (b3 (.int n,δ))=qNcb i j n δ δ[i]? :=by
 unfold qNc qNcb;simp only[Ai];generalize δ[i]?=r;cases r with
 |none=>rfl
 |some s=>
  cases s with
  |ow d=>cases d<;>rfl
  |_=>rfl
@[simp] theorem rY:qNcb i j n δ (b3 (.ow (.nst sh ds)))=(NC sh ds j).bind λzs=>if 0<=n/\n<=zs.length then b3 (Ou.nx (δ.set i (.ow (.nst (sh.set j (b3 n.toNat)) (Q5 sh ds j (zs.take n.toNat))))))else b4:=rfl
@[simp] theorem ug:E3 d i F ds=qins (F (ds.take i++d::ds.drop i)):=rfl
end
def XN:cU:=.int 999
def CQ:cU:=.tup [.str "plus",.str "minus",.str "times",.str "least",.str "most",.str "less",.str "over"]
def T6:cU:=.int 64
def U5:cU:=.int 63
def QO:cU:=.tup [.str "row",.str "row"]
def SK:cU:=.dct [.inr "number",.inr "pick",.inr "load",.inr "take",.inr "store",.inr "put"] [.tup [.str "word"],.tup [.str "row",.str "row",.str "row"],.tup [.str "place"],.tup [.str "place",.str "row",.str "row"],.tup [.str "place",.str "row"],.tup [.str "place",.str "row",.str "row"]]
def KQ:cU:=.tup [.str "store",.str "put"]
def U4:cU:=.int 64
def Y8:cU:=.int 20
def T5:cU:=.int 3
abbrev IP:List Uq:=["NoCells","NoTree"]
noncomputable abbrev UT:List Uq:=["NoBlock","NoCells","NoRow","NoLanes","NoPlan","NoProgram","NoTree","NoLoop","NoText","NoName","TooMany","TooLong","NotValid","Nothing"]
def RU:VS:=
   (cD (XJ (OC (fB (f2 SU (fV 0) (fC (.ty "bool")))) (SR (fB (f2 SU (fV 0) (fC (.ty "int"))))))
   (bI (fC (.bl bb)))
   Z5)
   (bI (f3 oLe oLe (fV 1) (fV 0) (fV 2))))
def a7:bP:=Z2 3 [] RU
def M8:VS:=
   (cD (XJ (fB (f2 (ZV bb) (fV 0) (fC CQ)))
   (bI (fC QO))
   Z5)
   (bI (f2 Yk (fC SK) (fV 0))))
def Z3:bP:=Z2 1 [] M8
def QT:VS:=
   (bI (f2 (ZV ba) (f2 bE (fV 0) (fC (.int 0))) (fC KQ)))
def X4:bP:=Z2 1 [] QT
def R0:VS:=
   (bI (RQ (cI 3 [] a7 (aE (fV 0) (aE (fC (.int 0)) (aE (f2 Q1 (f1 Y1 (fV 1)) (fC (.int 1))) b7)))) (f2 bE (fV 1) (fV 0))))
def ZB:bP:=Z2 2 [] R0
def M6:VS:=
   (cD (XJ (fB (f2 WD (fV 0) (fC (.str "word"))))
   (bI (cI 3 [] a7 (aE (fV 1) (aE (fC (.int 0)) (aE (fC XN) b7)))))
   Z5)
   (cD (XJ (fB (f2 WD (fV 0) (fC (.str "place"))))
   (bI (cI 3 [] a7 (aE (fV 1) (aE (fC (.int 0)) (aE (fC U5) b7)))))
   Z5)
   (bI (cI 2 [] ZB (aE (fV 1) (aE (fV 2) b7))))))
def WA:bP:=Z2 3 [] M6
def M7:VS:=
   (cD (XJ (OC (SR (fB (f2 SU (fV 0) (fC (.ty "tuple"))))) (fB (f2 WD (f1 Y1 (fV 0)) (fC (.int 0)))))
   (bI (fC (.bl bb)))
   Z5)
   (cD (HU 2 3 (fV 0))
   (cD (aV 4 (xV (fIf (fB (f2 SU (fV 2) (fC (.ty "str")))) (cI 1 [] Z3 (aE (fV 2) b7)) (fC .non))))
   (cD (XJ (OC (fB (f2 MN (fV 4) (fC .non))) (fB (f2 RK (f1 Y1 (fV 4)) (f1 Y1 (fV 3)))))
   (bI (fC (.bl bb)))
   Z5)
   (bI (f1 BD (ZP [1] 2 (iZip (fV 4) (fV 3)) (EZ 2 (aD (gN 1) (aD (gN 2) V1))) UW (cI 3 [] WA (aE (fV 1) (aE (fV 2) (aE (fV 0) b7)))))))))))
def VW:bP:=Z2 5 [] M7
def RT:VS:=
   (cD (XJ (OC (SR (fB (f2 SU (fV 0) (fC (.ty "list"))))) (SR (fB (f3 oLe oLe (fV 1) (f1 Y1 (fV 0)) (fC U4)))))
   (bI (fC (.bl bb)))
   Z5)
   (bI (f1 BD (ZP [] 1 (UX (fV 0)) (gN 0) UW (cI 3 [] a7 (aE (fV 0) (aE (fC (.int 0)) (aE (fC XN) b7))))))))
def ZU:bP:=Z2 2 [] RT
def CZ:VS:=
   (cD (XJ (OC (SR (fB (f2 SU (fV 0) (fC (.ty "tuple"))))) (fB (f2 RK (f1 Y1 (fV 0)) (fC (.int 4)))))
   (bI (fC (.bl bb)))
   Z5)
   (bI (RQ (f2 SU (f2 bE (fV 0) (fC (.int 0))) (fC (.ty "str"))) (f2 WD (f2 bE (fV 0) (fC (.int 0))) (fC (.str "if"))))))
def SY:bP:=Z2 1 [] CZ
def YZ(R:bP):VS:=
   (cD (aV 5 (xV (cI 3 [] R (aE (fV 4) (aE (fV 3) (aE (f2 aJ (fV 2) (fC (.int 1))) b7))))))
   (cD (XJ (fB (f2 MN (fV 5) (fC .non)))
   (bI (fC .non))
   Z5)
   (aV 3 (xV (f2 aJ (fV 3) (f2 Y4 (aZ (cV (fC (.bl bb)) cK)) (f2 Q1 (f1 Y1 (fV 5)) (f1 Y1 (fV 3)))))))))
def ZI(R:bP):VS:=
   (cD (XJ (OC (fB (f2 WD (fV 2) (fC T5))) (SR (fB (cI 2 [] ZB (aE (f2 bE (fV 0) (fC (.int 1))) (aE (fV 1) b7))))))
   (bI (fC .non))
   Z5)
   (cD (aV 3 (xV (f2 aJ (fV 1) (aZ (cV (fC (.bl bb)) cK)))))
   (cD (UL (UX (CW (fV 0) (DJ (fC (.int 2))) pNo)) (gN 4)
   (YZ R))
   (bI (fV 3)))))
def ZY(R:bP):bP:=Z2 6 [] (ZI R)
def aT(R:bP):VS:=
   (cD (XJ (fB (cI 1 [] SY (aE (fV 4) b7)))
   (aV 3 (xV (cI 3 [] (ZY R) (aE (fV 4) (aE (fV 3) (aE (fV 2) b7))))))
   (XJ (fB (cI 2 [] VW (aE (fV 4) (aE (fV 3) b7))))
   (aV 3 (xV (f2 aJ (fV 3) (aZ (cV (cI 1 [] X4 (aE (fV 4) b7)) cK)))))
   (bI (fC .non))))
   (XJ (OC (fB (f2 MN (fV 3) (fC .non))) (fB (f2 oGt (f1 Y1 (fV 3)) (fC Y8))))
   (bI (fC .non))
   Z5))
def ZC(R:bP):VS:=
   (cD (XJ (SR (fB (f2 SU (fV 0) (fC (.ty "tuple")))))
   (bI (fC .non))
   Z5)
   (cD (aV 3 (xV (fV 1)))
   (cD (UL (UX (fV 0)) (gN 4)
   (aT R))
   (bI (fV 3)))))
def bF:Nat->bP:=recV λR=>Z2 5 [] (ZC R)
def PX:VS:=
   (cD (XJ (OC (SR (fB (f2 SU (fV 0) (fC (.ty "tuple"))))) (fB (f2 RK (f1 Y1 (fV 0)) (fC (.int 2)))))
   (bI (fC (.bl bb)))
   Z5)
   (bI (RQ (cI 3 [] a7 (aE (f2 bE (fV 0) (fC (.int 0))) (aE (fC (.int 0)) (aE (fC T6) b7)))) (f2 PH (cI 3 [] (bF 8) (aE (f2 bE (fV 0) (fC (.int 1))) (aE (aZ cK) (aE (fC (.int 0)) b7)))) (fC .non)))))
def cB:bP:=Z2 1 [] PX
def SI:VZ:=
   (CH (zIf (SR (fB (cI 1 [] cB (aE (fV 0) b7)))) (λδ=>b3 (("NoTree",b4),δ)) zNo)
   (zSeq (XJ (SR (fB (cI 1 [] cB (aE (fV 0) b7))))
   (λ_=>b4)
   Z5)
   (zIf (SR (fB (cI 2 [] ZU (aE (fV 1) (aE (f2 bE (fV 0) (fC (.int 0))) b7))))) (λδ=>b3 (("NoCells",b4),δ)) zNo)))
def XV:List cU->Option Xw:=BV 4 SI
def PL:VZ:=
   (zIf (SR (fB (cI 1 [] cB (aE (fV 0) b7)))) (λδ=>b3 (("NoTree",b4),δ)) zNo)
def WI:List cU->Option Xw:=BV 4 PL
def UY:VS:=
   (aV 2 (xV (f2 G9 (fV 2) (fC (.int 1000003)))))
def WC:VS:=
   (cD (XJ (fB (f2 oLt (fV 1) (f1 Y1 (fV 0))))
   (bI (f2 bE (fV 0) (fV 1)))
   Z5)
   (cD (XJ (fB (f2 WD (fV 0) (aZ cK)))
   (bI (fC (.int 0)))
   Z5)
   (cD (aV 2 (xV (f2 bE (fV 0) (f2 JR (fV 1) (f1 Y1 (fV 0))))))
   (cD (UL (E1 (f2 oMin (f2 G9 (fV 1) (f1 Y1 (fV 0))) (fC (.int 60)))) (gN 3)
   UY)
   (bI (f2 aJ (f2 aJ (f2 NK (f2 bE (fV 0) (f2 JR (fV 1) (f1 Y1 (fV 0)))) (fC (.int 31))) (fV 1)) (f2 NK (fV 2) (fC (.int 101)))))))))
def Z7:bP:=Z2 4 [] WC
def UA:VS:=
   (cD (aV 3 (xV (f2 JR (f2 aJ (f2 aJ (f2 NK (cI 2 [] Z7 (aE (fV 0) (aE (fV 1) b7))) (fC (.int 1103515245))) (f2 NK (fC (.int 7919)) (fV 1))) (fC (.int 12345))) (fC (.int 2147483647)))))
   (bI (f2 JR (f2 JR (f2 JR (f2 oPow (fV 3) (fC (.int 5))) (fC (.int 2147483647))) (fC (.int 999983))) (fV 2))))
def YG:bP:=Z2 4 [] UA
def RV:VS:=
   (cD (WT 1 SS (cV (fC (.int 0)) cK))
   (bI (cI 3 [] YG (aE (fV 0) (aE (f1 Y1 (fO 1)) (aE (fV 2) b7))))))
def b5:bP:=Z2 3 [1] RV
def RX:VS:=
   (bI (f2 bE (fV 2) (cI 3 [1] b5 (aE (fV 0) (aO 1 (aE (f1 Y1 (fV 2)) b7))))))
def b8:bP:=Z2 3 [1] RX
def UB:VS:=
   (cD (HR 2 (fV 3) (f2 JR (f2 aJ (JG 2 (fV 3) (cI 3 [1] b5 (aE (fV 0) (aO 1 (aE (fV 4) b7))))) (cI 3 [1] b8 (aE (fV 0) (aO 1 (aE (aZ (cV (fC (.int 1)) (cV (fC (.int 1)) (cV (fC (.int 1)) (cV (fC (.int 0)) (cV (fC (.int 3)) cK)))))) b7))))) (fV 4)))
   (bI (f2 bE (fO 2) (fV 3))))
def aL:bP:=Z2 5 [1,2] UB
def P0:VS:=
   (cD (aV 5 (xV (cI 3 [1] b5 (aE (fV 0) (aO 1 (aE (fC (.int 13)) b7))))))
   (cD (XJ (OC (fB (f2 WD (fV 2) (aZ cK))) (fB (f2 WD (fV 5) (fC (.int 0)))))
   (cD (XJ (fB (f2 WD (cI 3 [1] b5 (aE (fV 0) (aO 1 (aE (fC (.int 2)) b7)))) (fC (.int 0))))
   (bI (cC (cV (fC (.str "number")) (cV (cI 3 [1] b8 (aE (fV 0) (aO 1 (aE (aZ (cV (fC (.int 0)) (cV (fC (.int 1)) (cV (fC (.int 2)) (cV (fC (.int 5)) (cV (fC (.int 999)) (cV (cI 3 [1] b5 (aE (fV 0) (aO 1 (aE (fC (.int 1000)) b7)))) cK))))))) b7)))) cK))))
   Z5)
   (bI (cC (cV (fC (.str "load")) (cV (cI 5 [1,2] aL (aE (fV 0) (aO 1 (aO 3 (aE (fC (.str "load")) (aE (fV 4) b7)))))) cK)))))
   Z5)
   (cD (BW (ZP [0,1,2] 1 (E1 (fC (.int 3))) (gN 3) UW (f2 bE (fV 2) (f2 oMax (fC (.int 0)) (f2 Q1 (f2 Q1 (f1 Y1 (fV 2)) (fC (.int 1))) (cI 3 [1] b5 (aE (fV 0) (aO 1 (aE (fC (.int 6)) b7)))))))) (EZ 3 (aD (gN 6) (aD (gN 7) (aD (gN 8) V1)))))
   (cD (XJ (fB (f2 (ZV bb) (fV 5) (cC (cV (fC (.int 1)) (cV (fC (.int 2)) cK)))))
   (bI (cC (cV (fC (.str "load")) (cV (cI 5 [1,2] aL (aE (fV 0) (aO 1 (aO 3 (aE (fC (.str "load")) (aE (fV 4) b7)))))) cK))))
   Z5)
   (cD (XJ (fB (f2 WD (fV 5) (fC (.int 3))))
   (bI (cC (cV (fC (.str "take")) (cV (cI 5 [1,2] aL (aE (fV 0) (aO 1 (aO 3 (aE (fC (.str "take")) (aE (fV 4) b7)))))) (cV (fV 8) (cV (fV 6) cK))))))
   Z5)
   (cD (XJ (fB (f2 (ZV bb) (fV 5) (cC (cV (fC (.int 4)) (cV (fC (.int 5)) cK)))))
   (bI (cC (cV (fC (.str "store")) (cV (cI 5 [1,2] aL (aE (fV 0) (aO 1 (aO 3 (aE (fC (.str "store")) (aE (fV 4) b7)))))) (cV (fV 6) cK)))))
   Z5)
   (cD (XJ (fB (f2 WD (fV 5) (fC (.int 6))))
   (bI (cC (cV (fC (.str "put")) (cV (cI 5 [1,2] aL (aE (fV 0) (aO 1 (aO 3 (aE (fC (.str "put")) (aE (fV 4) b7)))))) (cV (fV 6) (cV (fV 8) cK))))))
   Z5)
   (cD (XJ (fB (f2 WD (fV 5) (fC (.int 7))))
   (bI (cC (cV (fC (.str "pick")) (cV (fV 8) (cV (fV 6) (cV (fV 7) cK))))))
   Z5)
   (bI (cC (cV (f2 bE (aZ (cV (fC (.str "over")) (cV (fC (.str "plus")) (cV (fC (.str "minus")) (cV (fC (.str "times")) (cV (fC (.str "least")) (cV (fC (.str "most")) (cV (fC (.str "less")) cK)))))))) (cI 3 [1] b5 (aE (fV 0) (aO 1 (aE (fC (.int 7)) b7))))) (cV (fV 6) (cV (fV 7) cK)))))))))))))
def YH:bP:=Z2 9 [1,3] P0
def Y6:VS:=
   (cD (aV 10 (xV (f2 aJ (f2 FC (fV 3) (fV 9)) (cI 3 [1] b8 (aE (fV 0) (aO 1 (aE (aZ (cV (fC (.int 1)) (cV (fC (.int 1)) (cV (fC (.int 1)) (cV (fC (.int 1)) (cV (f1 JS (fC (.int 1))) (cV (fC (.int 0)) (cV (fC (.int 2)) cK)))))))) b7)))))))
   (WT 8 SS (cV (fIf (T4 (fB (f3 oLe oLt (fC (.int 0)) (fV 10) (f1 Y1 (fV 3)))) (fB (f2 RK (f2 bE (fV 3) (fV 10)) (f2 Q1 (f1 Y1 (fV 2)) (fC (.int 1)))))) (f2 bE (fV 3) (fV 10)) (fV 9)) cK)))
def U9:VS:=
   (cD (aV 6 (xV (f2 bE (fV 2) (f1 JS (fC (.int 1))))))
   (cD (aV 7 (xV (fIf (fB (f2 (ZV bb) (f2 bE (fV 6) (fC (.int 0))) (cC (cV (fC (.str "load")) (cV (fC (.str "take")) (cV (fC (.str "store")) (cV (fC (.str "put")) cK))))))) (fC (.int 2)) (fC (.int 1)))))
   (cD (aV 8 (xO (aZ cK)))
   (cD (UL (UX (CW (fV 6) (DJ (fV 7)) pNo)) (gN 9)
   Y6)
   (cD (XJ (fB (f2 WD (fV 7) (fC (.int 1))))
   (bI (f2 aJ (CW (fV 6) pNo (DJ (fC (.int 1)))) (f1 VD (fO 8))))
   Z5)
   (cD (HR 4 (f2 bE (fV 6) (fC (.int 0))) (f2 JR (f2 aJ (f2 bE (fV 6) (fC (.int 1))) (fC (.int 1))) (fV 5)))
   (bI (f2 aJ (cC (cV (f2 bE (fV 6) (fC (.int 0))) (cV (f2 bE (fO 4) (f2 bE (fV 6) (fC (.int 0)))) cK))) (f1 VD (fO 8))))))))))
def ZM:bP:=Z2 11 [1,4] U9
def Y7:VS:=
   (XJ (T4 (fB (f2 oLt (f1 Y1 (fO 4)) (fV 2))) (fB (f2 RK (f2 bE (f2 bE (fO 4) (f1 JS (fC (.int 1)))) (fC (.int 0))) (fC (.str "number")))))
   (cD (WT 4 SS (cV (cI 6 [1,4] ZM (aE (fV 0) (aO 1 (aO 4 (aO 5 (aO 6 (aE (fV 3) b7))))))) cK))
   (XJ (fB (f2 (ZV ba) (f2 bE (f2 bE (fO 4) (f1 JS (fC (.int 1)))) (fC (.int 0))) (cC (cV (fC (.str "store")) (cV (fC (.str "put")) cK)))))
   (WT 5 SS (cV (f2 Q1 (f1 Y1 (fO 4)) (fC (.int 1))) cK))
   Z5))
   Z5)
def W3:VS:=
   (cD (WT 4 SS (cV (cI 5 [1,3] YH (aE (fV 0) (aO 1 (aO 5 (aO 6 (aE (fV 3) b7)))))) cK))
   (cD (XJ (fB (f2 (ZV ba) (f2 bE (f2 bE (fO 4) (f1 JS (fC (.int 1)))) (fC (.int 0))) (cC (cV (fC (.str "store")) (cV (fC (.str "put")) cK)))))
   (WT 5 SS (cV (f2 Q1 (f1 Y1 (fO 4)) (fC (.int 1))) cK))
   Z5)
   (UL (E1 (cI 3 [1] b8 (aE (fV 0) (aO 1 (aE (aZ (cV (fC (.int 0)) (cV (fC (.int 1)) (cV (fC (.int 1)) (cV (fC (.int 2)) (cV (fC (.int 3)) cK)))))) b7))))) (gN 7)
   Y7)))
def RY:VS:=
   (cD (NY 4 5 6 (xO (aZ cK)) (xO (aZ cK)) (xO (fC (.dct [] []))))
   (cD (UM (fB (f2 oLt (f1 Y1 (fO 4)) (fV 2)))
   W3)
   (bI (f1 VD (fO 4)))))
def XT:bP:=Z2 8 [1] RY
def PB:VS:=
   (cD (XJ (fB (f2 WD (f2 bE (fV 0) (fC (.int 0))) (fC (.str "number"))))
   (bI (aZ cK))
   Z5)
   (bI (fIf (fB (f2 (ZV bb) (f2 bE (fV 0) (fC (.int 0))) (cC (cV (fC (.str "load")) (cV (fC (.str "take")) (cV (fC (.str "store")) (cV (fC (.str "put")) cK))))))) (f1 HA (CW (fV 0) (DJ (fC (.int 2))) pNo)) (f1 HA (CW (fV 0) (DJ (fC (.int 1))) pNo)))))
def aK:bP:=Z2 1 [] PB
def PZ:VS:=
   (cD (aV 2 (xV (f2 bE (f2 bE (fV 0) (fC (.int 1))) (fV 1))))
   (cD (XJ (fB (f2 (ZV bb) (f2 bE (fV 2) (fC (.int 0))) (cC (cV (fC (.str "load")) (cV (fC (.str "take")) (cV (fC (.str "store")) (cV (fC (.str "put")) cK)))))))
   (bI (f2 oGe (f2 bE (fV 2) (fC (.int 1))) (f2 bE (fV 0) (fC (.int 0)))))
   Z5)
   (bI (RQ (f2 WD (f2 bE (fV 2) (fC (.int 0))) (fC (.str "over"))) (f2 (ZV ba) (CW (f2 bE (f2 bE (fV 0) (fC (.int 1))) (f2 bE (fV 2) (fC (.int 2)))) pNo (DJ (fC (.int 2)))) (ZP [] 1 (iR2 (fC (.int 1)) (fC (.int 1000))) (gN 0) UW (cC (cV (fC (.str "number")) (cV (fV 0) cK)))))))))
def Y5:bP:=Z2 3 [] PZ
def W1:VS:=
   (cD (aV 7 (xV (ZP [] 1 (UX (cC (cV (fV 6) (cV (fV 4) cK)))) (gN 0) (fB (f2 (ZV bb) (f2 bE (fV 0) (fC (.int 0))) (cC (cV (fC (.str "store")) (cV (fC (.str "put")) cK))))) (fV 0))))
   (cD (aV 8 (xO (aZ (cV (f2 (ZV bb) (fV 5) (cI 1 [] aK (aE (fV 4) b7))) (cV (RQ (cI 2 [] Y5 (aE (fV 0) (aE (fV 5) b7))) (cI 2 [] Y5 (aE (fV 0) (aE (fV 3) b7)))) cK)))))
   (cD (WT 8 SS (cV (RQ (f2 (ZV bb) (f2 bE (fV 6) (fC (.int 0))) (fV 2)) (RQ (f2 (ZV bb) (f2 bE (fV 4) (fC (.int 0))) (fV 2)) (RQ (f2 WD (f2 bE (fV 6) (fC (.int 1))) (f2 bE (fV 4) (fC (.int 1)))) (f2 RK (fV 7) (aZ cK))))) cK))
   (cD (WT 8 SS (cV (RQ (cI 2 [] Y5 (aE (fV 0) (aE (fV 5) b7))) (f2 (ZV bb) (f2 bE (fV 4) (fC (.int 0))) (cC (cV (fC (.str "store")) (cV (fC (.str "put")) cK))))) cK))
   (cD (WT 8 SS (cV (RQ (cI 2 [] Y5 (aE (fV 0) (aE (fV 3) b7))) (f2 (ZV bb) (f2 bE (fV 6) (fC (.int 0))) (cC (cV (fC (.str "store")) (cV (fC (.str "put")) cK))))) cK))
   (XJ (fB (f2 (ZV bb) (fC (.bl ba)) (fO 8)))
   (WT 1 SS (cV (cC (cV (fV 5) (cV (fV 3) cK))) cK))
   Z5))))))
def W2:VS:=
   (UL (M9 (CW (f2 bE (fV 0) (fC (.int 1))) pNo (DJ (fV 3)))) (EZ 2 (aD (gN 5) (aD (gN 6) V1)))
   W1)
def RW:VS:=
   (cD (PJ 1 2 (xO (aZ cK)) (xV (cC (cV (fC (.str "load")) (cV (fC (.str "take")) (cV (fC (.str "store")) (cV (fC (.str "put")) cK)))))))
   (cD (UL (M9 (f2 bE (fV 0) (fC (.int 1)))) (EZ 2 (aD (gN 3) (aD (gN 4) V1)))
   W2)
   (bI (f1 FD (fO 1)))))
def XS:bP:=Z2 9 [] RW
def ZR:VS:=
   (cD (aV 6 (xV (ZP [3,4] 1 (UX (fO 4)) (gN 2) (fB (f2 WD (ZP [1,2] 2 (UX (fV 0)) (EZ 2 (aD (gN 2) (aD (gN 3) V1))) (T4 (fB (f2 WD (fV 3) (fV 1))) (fB (f2 (ZV bb) (fV 2) (fO 0)))) (fC (.int 1))) (aZ cK))) (fV 2))))
   (cD (WT 5 SS (cV (cI 3 [1] b8 (aE (fV 0) (aO 1 (aE (fV 6) b7)))) cK))
   (WT 4 mRem (cV (f2 bE (fO 5) (f1 JS (fC (.int 1)))) cK))))
def YA:VS:=
   (cD (NY 3 4 5 (xV (cI 1 [] XS (aE (fV 2) b7))) (xO (TJ (f1 Y1 (f2 bE (fV 2) (fC (.int 1)))))) (xO (aZ cK)))
   (cD (UM (fB (f2 RK (fO 4) (aZ cK)))
   ZR)
   (bI (fO 5))))
def aF:bP:=Z2 7 [1] YA
def aN:VS:=
   (cD (XJ (fB (f2 WD (f2 bE (fV 0) (fC (.int 0))) (fC (.str "number"))))
   (bI (fV 0))
   Z5)
   (cD (aV 2 (xV (fIf (fB (f2 (ZV bb) (f2 bE (fV 0) (fC (.int 0))) (cC (cV (fC (.str "load")) (cV (fC (.str "take")) (cV (fC (.str "store")) (cV (fC (.str "put")) cK))))))) (fC (.int 2)) (fC (.int 1)))))
   (bI (f2 aJ (CW (fV 0) pNo (DJ (fV 2))) (f1 VD (ZP [1] 1 (UX (CW (fV 0) (DJ (fV 2)) pNo)) (gN 1) UW (f2 bE (fV 0) (fV 1))))))))
def bT:bP:=Z2 3 [] aN
def WJ:VS:=
   (cD (aV 3 (xV (cI 3 [1] b8 (aE (fV 0) (aO 1 (aE (aZ (cV (fC (.int 3)) (cV (fC (.int 6)) (cV (fC (.int 9)) (cV (fC (.int 64)) cK))))) b7))))))
   (cD (aV 4 (xV (cI 3 [1] b8 (aE (fV 0) (aO 1 (aE (aZ (cV (fC (.int 0)) (cV (fV 3) (cV (fV 3) (cV (cI 3 [1] b5 (aE (fV 0) (aO 1 (aE (f2 aJ (fV 3) (fC (.int 1))) b7)))) cK))))) b7))))))
   (cD (aV 5 (xV (cC (cV (fV 4) (cV (cI 4 [1] XT (aE (fV 0) (aO 1 (aE (cI 3 [1] b5 (aE (fV 0) (aO 1 (aE (f2 aJ (fV 2) (fC (.int 1))) b7)))) (aE (fV 3) b7))))) cK)))))
   (cD (XJ (fB (f2 oGt (cI 3 [1] b5 (aE (fV 0) (aO 1 (aE (fC (.int 3)) b7)))) (fC (.int 0))))
   (bI (fV 5))
   Z5)
   (cD (aV 6 (xV (cI 3 [1] aF (aE (fV 0) (aO 1 (aE (fV 5) b7))))))
   (cD (aV 7 (xV (f1 DD (ZP [] 2 (M9 (fV 6)) (EZ 2 (aD (gN 0) (aD (gN 1) V1))) UW (cC (cV (fV 1) (cV (fV 0) cK)))))))
   (bI (cC (cV (fV 4) (cV (f1 VD (ZP [5,7] 1 (UX (fV 6)) (gN 2) UW (cI 2 [] bT (aE (f2 bE (f2 bE (fV 0) (fC (.int 1))) (fV 2)) (aE (fV 1) b7))))) cK))))))))))
def ZX:bP:=Z2 8 [1] WJ
def PC:VS:=
   (cD (aV 1 (xO (aZ (cV (f2 (UH IP UT) (fV 0) (fC (.fn "NoBlock"))) (cV (f2 (UH IP UT) (fV 0) (fC (.fn "NoCells"))) (cV (f2 (UH IP UT) (fV 0) (fC (.fn "NoRow"))) (cV (f2 (UH IP UT) (fV 0) (fC (.fn "NoLanes"))) cK)))))))
   (cD (WT 1 G0 (cV (aZ (cV (f2 (UH IP UT) (fV 0) (fC (.fn "NoPlan"))) (cV (f2 (UH IP UT) (fV 0) (fC (.fn "NoProgram"))) (cV (f2 (UH IP UT) (fV 0) (fC (.fn "NoTree"))) (cV (f2 (UH IP UT) (fV 0) (fC (.fn "NoLoop"))) cK))))) cK))
   (cD (WT 1 G0 (cV (aZ (cV (f2 (UH IP UT) (fV 0) (fC (.fn "NoText"))) (cV (f2 (UH IP UT) (fV 0) (fC (.fn "NoName"))) (cV (f2 (UH IP UT) (fV 0) (fC (.fn "TooMany"))) (cV (f2 (UH IP UT) (fV 0) (fC (.fn "TooLong"))) cK))))) cK))
   (cD (WT 1 G0 (cV (aZ (cV (f2 (UH IP UT) (fV 0) (fC (.fn "NotValid"))) (cV (f2 (UH IP UT) (fV 0) (fC (.fn "Nothing"))) cK))) cK))
   (cD (XJ (OC (fB (f2 RK (f2 JO (fO 1) (fC (.bl ba))) (fC (.int 1)))) (SR (fB (f2 (UH IP UT) (fV 0) (fC (.ty "ValueError"))))))
   (bI (cC (cV (fC (.str "refused")) (cV (f1 JS (fC (.int 1))) cK))))
   Z5)
   (bI (cC (cV (fC (.str "refused")) (cV (f2 JQ (fO 1) (fC (.bl ba))) cK)))))))))
def XM:bP:=Z2 2 [] PC
def aG(R:bP):VS:=
   (XJ (T4 (fB (f2 RK (fNl 4 1) (aZ cK))) (T4 (fB (f2 oLt (fV 3) (fC (.int 3)))) (T4 (fB (f2 oGt (fV 2) (fC (.int 1)))) (fB (f2 WD (cI 3 [1] b5 (aE (fV 0) (aO 1 (aE (fC (.int 4)) b7)))) (fC (.int 0)))))))
   (cD (PJ 8 9 (xV (cI 3 [1] b8 (aE (fV 0) (aO 1 (aP 4 1 b7))))) (xV (cI 3 [1] b5 (aE (fV 0) (aO 1 (aE (fV 2) b7))))))
   (cD (D5 4 0 10 (cV (f2 aJ (fNv 4 0) (fC (.int 1))) (cV (f2 G9 (fV 9) (fC (.int 2))) cK)))
   (cD (aV 11 (xV (cI 6 [1,4] R (aE (fV 0) (aO 1 (aE (f2 Q1 (fV 9) (fV 10)) (aE (f2 aJ (fV 3) (fC (.int 1))) (aO 4 (aE (fV 5) b7)))))))))
   (cD (aV 12 (xV (cI 6 [1,4] R (aE (fV 0) (aO 1 (aE (fV 10) (aE (f2 aJ (fV 3) (fC (.int 1))) (aO 4 (aE (fV 5) b7)))))))))
   (cD (WT 6 SS (cV (cC (cV (fC (.str "if")) (cV (fV 8) (cV (fV 11) (cV (fV 12) cK))))) cK))
   (aV 2 (xV (f2 Q1 (f2 Q1 (fV 2) (fC (.int 1))) (fV 9)))))))))
   (cD (aV 13 (xV (cI 4 [1] (insD 3 YH) (aE (fV 0) (aO 1 (aP 4 1 (aE (fV 5) b7)))))))
   (cD (XJ (fB (f2 (ZV ba) (f2 bE (fV 13) (fC (.int 0))) (cC (cV (fC (.str "store")) (cV (fC (.str "put")) cK)))))
   (D4 4 1 (cV (fNv 4 0) cK))
   Z5)
   (cD (D6 4 0 (f2 aJ (fNv 4 0) (fC (.int 1))))
   (cD (WT 6 SS (cV (fV 13) cK))
   (aV 2 (xV (f2 Q1 (fV 2) (fC (.int 1))))))))))
def ZJ(R:bP):VS:=
   (cD (PJ 6 7 (xO (aZ cK)) (xV (f1 Y1 (fNl 4 1))))
   (cD (UM (fB (f2 oGt (fV 2) (fC (.int 0))))
   (aG R))
   (cD (XJ (fB (f2 oGt (fV 3) (fC (.int 0))))
   (LR 4 1 (aZ cK) (fV 7))
   Z5)
   (bI (f1 VD (fO 6))))))
def aY:Nat->bP:=recV λR=>Z2 14 [1,4] (ZJ R)
def RZ:VS:=
   (cD (aV 3 (xV (cI 3 [1] b8 (aE (fV 0) (aO 1 (aE (aZ (cV (fC (.int 3)) (cV (fC (.int 6)) (cV (fC (.int 64)) cK)))) b7))))))
   (cD (aV 4 (xV (cI 5 [1] (E3 (.nst [b4,b3 0] [.int 0]) 4 (aY 8)) (aE (fV 0) (aO 1 (aE (cI 3 [1] b5 (aE (fV 0) (aO 1 (aE (f2 aJ (fV 2) (fC (.int 1))) b7)))) (aE (fC (.int 0)) (aE (fV 3) b7))))))))
   (bI (cC (cV (cI 3 [1] b8 (aE (fV 0) (aO 1 (aE (aZ (cV (fC (.int 0)) (cV (fV 3) (cV (cI 3 [1] b5 (aE (fV 0) (aO 1 (aE (f2 aJ (fV 3) (fC (.int 1))) b7)))) cK)))) b7)))) (cV (fV 4) cK))))))
def ZA:bP:=Z2 5 [1] RZ
def PY:VS:=
   (sTry (bI (fIf (fB (f2 WD (fV 0) (fC (.int 0)))) (λ_=>b4) (λ_=>b4)))
   (zIf (fB (f2 WD (fV 0) (fC (.int 0)))) (MC 1 WI (aE (fV 1) b7)) (MC 2 XV (aE (fV 1) (aE (fV 2) b7))))
   3 (bI (cI 1 [] XM (aE (fV 3) b7))))
def a6:bP:=Z2 4 [] PY
def UZ:VS:=
   (cD (aV 1 (xO (aZ (cV (cC (cV (fV 0) (cV (cC (cV (fC (.str "if")) (cV (fC (.int 0)) (cV (cC (cV (fV 0) cK)) (cV (cC cK) cK))))) (cV (cC (cV (fC (.str "plus")) (cV (fC (.int 0)) (cV (fC (.int 2)) cK)))) cK)))) (cV (cC (cV (fV 0) (cV (cC (cV (fC (.str "if")) (cV (fC (.int 0)) (cV (cC (cV (fV 0) cK)) (cV (fC (.tup [.tup [.str "plus",.int 0,.int 2]])) cK))))) cK))) cK)))))
   (cD (WT 1 G0 (cV (aZ (cV (fC (.tup [.tup [.str "if",.int 0,.tup [],.tup []]])) (cV (cC (cV (fV 0) (cV (fC (.tup [.str "if",.int 1,.tup [],.tup []])) cK))) (cV (cC (cV (fV 0) (cV (fC (.tup [.str "if",.int 0,.tup []])) cK))) (cV (cC (cV (fV 0) (cV (fC (.tup [.str "if",.int 0,.lst [],.tup []])) cK))) cK))))) cK))
   (cD (WT 1 G0 (cV (aZ (cV (cC (cV (fV 0) (cV (fC (.tup [.str "if",.str "0",.tup [],.tup []])) cK))) (cV (f2 Y4 (cC (cV (fV 0) cK)) (fC (.int 21))) (cV (cC (cV (fV 0) (cV (cC (cV (fC (.str "if")) (cV (fC (.int 0)) (cV (f2 Y4 (cC (cV (fV 0) cK)) (fC (.int 10))) (cV (f2 Y4 (cC (cV (fV 0) cK)) (fC (.int 9))) cK))))) cK))) cK)))) cK))
   (cD (WT 1 G0 (cV (aZ (cV (cC (cV (fV 0) (cV (cC (cV (fC (.str "if")) (cV (fC (.int 0)) (cV (cC (cV (fV 0) cK)) (cV (cC cK) cK))))) (cV (fC (.tup [.str "if",.int 2,.tup [],.tup []])) cK)))) (cV (cC (cV (fV 0) (cV (cC (cV (fC (.str "store")) (cV (fC (.int 0)) (cV (fC (.int 0)) cK)))) (cV (fC (.tup [.str "if",.int 1,.tup [],.tup []])) cK)))) cK))) cK))
   (bI (f2 aJ (fO 1) (aZ (cV (cC (cV (fV 0) (cV (fC (.tup [.str "if",.int 0,.tup [],.tup []])) (cV (cC (cV (fC (.str "plus")) (cV (fC (.int 0)) (cV (fC (.int 1)) cK)))) cK)))) (cV (aZ (cV (fV 0) cK)) (cV (cC (cV (fV 0) (cV (fC (.int 5)) cK))) (cV (fC .non) (cV (cC (cV (fV 0) (cV (fC (.tup [.str "if",.bl ba,.tup [],.tup []])) cK))) cK))))))))))))
def aB:bP:=Z2 2 [] UZ
def TC:VS:=
   (XJ (fB (f2 RK (cI 3 [] a6 (aE (fC (.int 1)) (aE (fV 2) (aE (fV 10) b7)))) (cC (cV (fC (.str "refused")) (cV (fC (.int 1)) cK)))))
   (bI (fC (.bl bb)))
   Z5)
def CN:VS:=
   (aV 7 (xV (cC (cV (cC (cV (fC (.str "if")) (cV (fC (.int 0)) (cV (cC (cV (fV 4) cK)) (cV (fV 7) cK))))) cK))))
def CO:VS:=
   (aV 5 (xV (cC (cV (cC (cV (fC (.str "if")) (cV (fC (.int 0)) (cV (fV 5) (cV (cC (cV (fV 4) cK)) cK))))) cK))))
def Vh:VS:=
   (cD (aV 1 (xO (aZ cK)))
   (cD (PJ 2 3 (xV (cI 3 [1] ZA (aE (fV 0) (aO 1 (aE (fC (.int 12)) b7))))) (xV (cI 3 [1] ZX (aE (fV 0) (aO 1 (aE (fC (.int 20)) b7))))))
   (cD (XJ (OC (fB (f2 YI (cI 1 [] cB (aE (fV 2) b7)) (fC (.bl ba)))) (fB (f2 YI (cI 1 [] cB (aE (fV 3) b7)) (fC (.bl ba)))))
   (bI (fC (.bl bb)))
   Z5)
   (cD (BW (fC (.tup [.tup [.str "load",.int 0],.tup []])) (EZ 2 (aD (gN 4) (aD (gN 5) V1))))
   (cD (UL (E1 (fC (.int 3))) (gN 6)
   CO)
   (cD (XJ (OC (fB (f2 YI (cI 1 [] cB (aE (cC (cV (fC (.int 1)) (cV (f2 aJ (cC (cV (fV 4) cK)) (fV 5)) cK))) b7)) (fC (.bl ba)))) (fB (f2 YI (cI 1 [] cB (aE (cC (cV (fC (.int 1)) (cV (cC (cV (fV 4) (cV (cC (cV (fC (.str "if")) (cV (fC (.int 0)) (cV (fV 5) (cV (cC cK) cK))))) cK))) cK))) b7)) (fC (.bl bb)))))
   (bI (fC (.bl bb)))
   Z5)
   (cD (aV 7 (xV (cC cK)))
   (cD (UL (E1 (fC (.int 3))) (gN 6)
   CN)
   (cD (XJ (OC (fB (f2 YI (cI 1 [] cB (aE (cC (cV (fC (.int 1)) (cV (f2 aJ (cC (cV (fV 4) cK)) (fV 7)) cK))) b7)) (fC (.bl ba)))) (fB (f2 YI (cI 1 [] cB (aE (cC (cV (fC (.int 1)) (cV (cC (cV (fV 4) (cV (cC (cV (fC (.str "if")) (cV (fC (.int 0)) (cV (cC cK) (cV (fV 7) cK))))) cK))) cK))) b7)) (fC (.bl bb)))))
   (bI (fC (.bl bb)))
   Z5)
   (cD (aV 8 (xV (cI 3 [1] b8 (aE (fV 0) (aO 1 (aE (cI 1 [] aB (aE (fV 4) b7)) b7))))))
   (cD (XJ (OC (fB (f2 YI (cI 1 [] cB (aE (cC (cV (fC (.int 1)) (cV (fV 8) cK))) b7)) (fC (.bl bb)))) (fB (f2 RK (ZP [8] 1 (E1 (fC (.int 2))) (gN 1) UW (cI 3 [] a6 (aE (fV 1) (aE (cC (cV (fC (.int 1)) (cV (fV 0) cK))) (aE (fC .non) b7))))) (f2 Y4 (fC (.lst [.tup [.str "refused",.int 6]])) (fC (.int 2))))))
   (bI (fC (.bl bb)))
   Z5)
   (cD (aV 9 (xV (cI 3 [1] b8 (aE (fV 0) (aO 1 (aE (fC (.lst [.non,.int 5,.tup [],.tup [.int 0],.lst [.int 0,.tup []],.tup [.int 65,.tup []],.tup [.bl ba,.tup []],.tup [.int 0,.tup [],.tup []],.str "tree"])) b7))))))
   (cD (XJ (OC (fB (f2 YI (cI 1 [] cB (aE (fV 9) b7)) (fC (.bl bb)))) (fB (f2 RK (ZP [9] 1 (E1 (fC (.int 2))) (gN 1) UW (cI 3 [] a6 (aE (fV 1) (aE (fV 0) (aE (fC .non) b7))))) (f2 Y4 (fC (.lst [.tup [.str "refused",.int 6]])) (fC (.int 2))))))
   (bI (fC (.bl bb)))
   Z5)
   (cD (UL (UX (aZ (cV (fC .non) (cV (cC (cV (fC (.int 0)) cK)) (cV (f2 Y4 (aZ (cV (fC (.int 0)) cK)) (fC (.int 65))) (cV (f2 Y4 (aZ (cV (fC (.int 1000)) cK)) (fC (.int 64))) (cV (f2 Y4 (aZ (cV (fC (.str "0")) cK)) (fC (.int 64))) cK))))))) (gN 10)
   TC)
   (cD (aV 11 (xV (cC (cV (fV 4) (cV (cC (cV (fC (.str "plus")) (cV (fC (.int 4)) (cV (fC (.int 0)) cK)))) (cV (fC (.tup [.str "if",.int 5,.tup [.tup [.str "store",.int 3,.int 5]],.tup []])) cK))))))
   (cD (aV 12 (xV (cC (cV (fV 4) (cV (cC (cV (fC (.str "if")) (cV (fC (.int 0)) (cV (cC (cV (fV 4) (cV (cC (cV (fC (.str "plus")) (cV (fC (.int 0)) (cV (fC (.int 2)) cK)))) cK))) (cV (fV 11) cK))))) (cV (cC (cV (fC (.str "plus")) (cV (fC (.int 0)) (cV (fC (.int 0)) cK)))) cK))))))
   (bI (RQ (f2 BE (cI 1 [] cB (aE (cC (cV (fC (.int 0)) (cV (fV 12) cK))) b7)) (fC (.bl ba))) (f2 BE (cI 1 [] cB (aE (cC (cV (fC (.int 1)) (cV (cC (cV (fV 4) (cV (cC (cV (fC (.str "if")) (cV (fC (.int 0)) (cV (f2 Y4 (cC (cV (fV 4) cK)) (fC (.int 9))) (cV (f2 Y4 (cC (cV (fV 4) cK)) (fC (.int 9))) cK))))) cK))) cK))) b7)) (fC (.bl ba)))))))))))))))))))))
def KB:bP:=Z2 13 [] Vh
end L2
namespace RR
open PySem L2
structure Txt(K:Ah)(mg:Uq->Option Uk):Prop where
 fnm:∀x a,Gs K Up x=b3 (b3 (.ref a))->mg x=b3 (.ref a)
 n_len:mg "len"=b4
 n_range:mg "range"=b4
 n_min:mg "min"=b4
 n_max:mg "max"=b4
 R9:mg "list"=b4
 n_tuple:mg "tuple"=b4
 n_sorted:mg "sorted"=b4
 n_isinstance:mg "isinstance"=b4
 n_bool:mg "bool"=b4
 n_int:mg "int"=b4
 n_str:mg "str"=b4
 n_enumerate:mg "enumerate"=b4
 n_zip:mg "zip"=b4
 n_all:mg "all"=b4
 n_dict:mg "dict"=b4
 n_ValueError:mg "ValueError"=b4
 v_DEEDS:∃u v,mg "DEEDS"=b3 u/\bV v u/\∀N H M,bO K N H M v CQ
 v_DEED_PARTS:∃u v,mg "DEED_PARTS"=b3 u/\bV v u/\∀N H M,bO K N H M v QO
 v_MOST_CELLS:∃u v,mg "MOST_CELLS"=b3 u/\bV v u/\∀N H M,bO K N H M v U4
 v_MOST_DEEP:∃u v,mg "MOST_DEEP"=b3 u/\bV v u/\∀N H M,bO K N H M v T5
 v_MOST_PLACE:∃u v,mg "MOST_PLACE"=b3 u/\bV v u/\∀N H M,bO K N H M v U5
 v_MOST_SURE:∃u v,mg "MOST_SURE"=b3 u/\bV v u/\∀N H M,bO K N H M v T6
 v_MOST_TREE_ROWS:∃u v,mg "MOST_TREE_ROWS"=b3 u/\bV v u/\∀N H M,bO K N H M v Y8
 v_MOST_WORD:∃u v,mg "MOST_WORD"=b3 u/\bV v u/\∀N H M,bO K N H M v XN
 v_OTHER_PARTS:∃u v,mg "OTHER_PARTS"=b3 u/\bV v u/\∀N H M,bO K N H M v SK
 v_WRITERS:∃u v,mg "WRITERS"=b3 u/\bV v u/\∀N H M,bO K N H M v KQ
 v_Nothing:∃u v,mg "Nothing"=b3 u/\bV v u/\∀N H M,bO K N H M v (.fn "Nothing")
 v_NotValid:∃u v,mg "NotValid"=b3 u/\bV v u/\∀N H M,bO K N H M v (.fn "NotValid")
 v_TooLong:∃u v,mg "TooLong"=b3 u/\bV v u/\∀N H M,bO K N H M v (.fn "TooLong")
 v_TooMany:∃u v,mg "TooMany"=b3 u/\bV v u/\∀N H M,bO K N H M v (.fn "TooMany")
 v_NoName:∃u v,mg "NoName"=b3 u/\bV v u/\∀N H M,bO K N H M v (.fn "NoName")
 v_NoText:∃u v,mg "NoText"=b3 u/\bV v u/\∀N H M,bO K N H M v (.fn "NoText")
 v_NoLoop:∃u v,mg "NoLoop"=b3 u/\bV v u/\∀N H M,bO K N H M v (.fn "NoLoop")
 v_NoTree:∃u v,mg "NoTree"=b3 u/\bV v u/\∀N H M,bO K N H M v (.fn "NoTree")
 v_NoProgram:∃u v,mg "NoProgram"=b3 u/\bV v u/\∀N H M,bO K N H M v (.fn "NoProgram")
 v_NoPlan:∃u v,mg "NoPlan"=b3 u/\bV v u/\∀N H M,bO K N H M v (.fn "NoPlan")
 v_NoLanes:∃u v,mg "NoLanes"=b3 u/\bV v u/\∀N H M,bO K N H M v (.fn "NoLanes")
 v_NoRow:∃u v,mg "NoRow"=b3 u/\bV v u/\∀N H M,bO K N H M v (.fn "NoRow")
 v_NoCells:∃u v,mg "NoCells"=b3 u/\bV v u/\∀N H M,bO K N H M v (.fn "NoCells")
 v_NoBlock:∃u v,mg "NoBlock"=b3 u/\bV v u/\∀N H M,bO K N H M v (.fn "NoBlock")
 x_NoCells:∃C,XE K "NoCells" C/\mg "NoCells"=b3 (.ref C)
 x_NoTree:∃C,XE K "NoTree" C/\mg "NoTree"=b3 (.ref C)
 xi:XI K IP UT
section
variable{P:Av}{w:Uu}{K:Ah}{mg:Uq->Option Uk}{base:Uv}{f:Ul}{fd:Dw}
noncomputable abbrev Nx0:List Uq:=["thing","low","high"]
abbrev Qx0:List Uq:=["thing","low","high"]
def oY:b6 Nx0 Qx0 (cO (top 19)):=Y0
def jH(F:XU K "is_whole" "is_whole" (top 19) f fd)(T:Txt K mg):aA P w K mg base CX0 1 f fd Qx0 (spV K [] 3 a7):=
 RL P w K mg base Nx0 Qx0 0 RU [] F oY λ_ _ _ _ _ _ c b a=>by
  refine cS ?_ ?_
  ·exact(bC (VU (WX (Y3 (KA T.n_isinstance (vv 0) (vty T.n_bool Zj))) (YO (X0 (Y3 (KA T.n_isinstance (vv 0) (vty T.n_int lS)))))))
   (cN (cE ZT))
   bY)
  exact cN (cE (nY HC HC s_le s_le (vv 1) (vv 0) (vv 2)))
abbrev Nx1:List Uq:=["deed"]
abbrev Qx1:List Uq:=["deed"]
def lZ:b6 Nx1 Qx1 (cO (top 38)):=Y0
def mO(F:XU K "parts_of" "parts_of" (top 38) f fd)(T:Txt K mg):aA P w K mg base CX0 1 f fd Qx1 (spV K [] 1 Z3):=
 RL P w K mg base Nx1 Qx1 0 M8 [] F lZ λ_ _ _ _ _ _ c b a=>by
  refine cS ?_ ?_
  ·exact (bC (bS (R6 b) (YJ (neg := bb)) (vv 0) (bG (by rfl) T.v_DEEDS) (by with_unfolding_all rfl))
   (cN (cE (bG (by rfl) T.v_DEED_PARTS)))
   bY)
  exact cN (cE (fT rfl a (bG (by rfl) T.v_OTHER_PARTS) (vv 0) ⟨rfl,rfl,rfl,rfl⟩))
abbrev Nx2:List Uq:=["row"]
abbrev Qx2:List Uq:=["row"]
def jU:b6 Nx2 Qx2 (cO (top 39)):=Y0
def dW(F:XU K "makes_word" "makes_word" (top 39) f fd)(T:Txt K mg):aA P w K mg base CX0 1 f fd Qx2 (spV K [] 1 X4):=
 RL P w K mg base Nx2 Qx2 0 QT [] F jU λ_ _ _ _ _ _ c b a=>by exact(cN (cE (XY (QW b) (YJ (neg:=ba)) (X3 a (vv 0) cT) (bG (by rfl) T.v_WRITERS) (by with_unfolding_all rfl))))
abbrev Nx3:List Uq:=["thing","able"]
abbrev Qx3:List Uq:=["thing","able"]
def kS:b6 Nx3 Qx3 (cO (top 43)):=Y0
def fX(F:XU K "may_name" "may_name" (top 43) f fd)(T:Txt K mg)(c:bJ P w K mg base "is_whole" 1 Qx0 [] a7 f_x0):aA P w K mg base CX0 2 f fd Qx3 (spV K [] 2 ZB):=
 RL P w K mg base Nx3 Qx3 1 R0 [] F kS λ_ _ _ _ _ _ b d a=>by exact(cN (cE (WW (bK c b (cQ (vv 0) (cQ cT (cQ (cM (ZH WR UO (XG T.n_len (vv 1)) cT)) cL)))) (VQ (X3 a (vv 1) (vv 0))))))
abbrev Nx4:List Uq:=["part","thing","able"]
abbrev Qx4:List Uq:=["part","thing","able"]
def jB:b6 Nx4 Qx4 (cO (top 44)):=Y0
def fU(F:XU K "fits" "fits" (top 44) f fd)(T:Txt K mg)(c:bJ P w K mg base "is_whole" 1 Qx0 [] a7 f_x0)(e:bJ P w K mg base "may_name" 2 Qx3 [] ZB f_x3):aA P w K mg base CX0 3 f fd Qx4 (spV K [] 3 WA):=
 RL P w K mg base Nx4 Qx4 2 M6 [] F jB λ_ _ _ _ _ _ a b d=>by
  refine cS ?_ ?_
  ·exact(bC (VV b (vv 0) cG)
   (cN (cE (bK c a (cQ (vv 1) (cQ cT (cQ (cM (bG (by rfl) T.v_MOST_WORD)) cL))))))
   bY)
  refine cS ?_ ?_
  ·exact(bC (VV b (vv 0) cG)
   (cN (cE (bK c a (cQ (vv 1) (cQ cT (cQ (cM (bG (by rfl) T.v_MOST_PLACE)) cL))))))
   bY)
  exact cN (cE (bK e a (cQ (vv 1) (cQ (vv 2) cL))))
noncomputable abbrev Nx5:List Uq:=["thing","able","deed","rest","parts"]
abbrev Qx5:List Uq:=["thing","able"]
def zAV:b6 Nx5 Qx5 (cO (top 45)):=Y0
def dQ(F:XU K "is_row" "is_row" (top 45) f fd)(T:Txt K mg)(d:bJ P w K mg base "parts_of" 1 Qx1 [] Z3 f_x1)(e:bJ P w K mg base "fits" 3 Qx4 [] WA f_x4):aA P w K mg base CX0 4 f fd Qx5 (spV K [] 2 VW):=
 RL P w K mg base Nx5 Qx5 3 M7 [] F zAV λ_ _ _ _ _ _ b a g=>by
  refine cS ?_ ?_
  ·exact(bC (VU (WX (X0 (Y3 (KA T.n_isinstance (vv 0) (vty T.n_tuple YV)))) (YO (VV a (XG T.n_len (vv 0)) cT))))
   (cN (cE ZT))
   bY)
  refine cS ?_ ?_
  ·exact(eM (i:=2) (j:=3) rfl rfl zAV.nd rfl rfl (by decide) (Cg rfl) (Cg rfl) (vv 0))
  refine cS ?_ ?_
  ·exact(bM zAV.nd (bB (cM (MA (Y3 (KA T.n_isinstance (vv 2) (vty T.n_str Yb))) (bK d b (cQ (vv 2) cL)) YN))))
  refine cS ?_ ?_
  ·exact(bC (VU (WX (bS FF Vk (vv 4) YN) (YO (bS (OY a) O8 (XG T.n_len (vv 4)) (XG T.n_len (vv 3))))))
   (cN (cE ZT))
   bY)
  exact cN (cE (Vl (kAll rfl) Wx (by rfl) T.n_all Yh (bX (YY ["able","part","given"] [1] 2 (gA rfl (by rfl) T.n_zip (vv 4) (vv 3)) (λc _ _ _ _=>⟨(SG (K:=K) rfl rfl (Z4 (bN c) (Z4 (bN c) VR))),VO,(cM (bK e b (cQ (vv 1) (cQ (vv 2) (cQ (vv 0) cL)))))⟩)))))
abbrev Nx6:List Uq:=["thing","sure"]
abbrev Qx6:List Uq:=["thing","sure"]
def eU:b6 Nx6 Qx6 (cO (top 48)):=Y0
def fH(F:XU K "is_cells" "is_cells" (top 48) f fd)(T:Txt K mg)(d:bJ P w K mg base "is_whole" 1 Qx0 [] a7 f_x0):aA P w K mg base CX0 2 f fd Qx6 (spV K [] 2 ZU):=
 RL P w K mg base Nx6 Qx6 1 RT [] F eU λ_ _ _ _ _ _ b e a=>by
  refine cS ?_ ?_
  ·exact (bC (VU (WX (X0 (Y3 (KA T.n_isinstance (vv 0) (vty T.R9 OD)))) (YO (X0 (IM HC HC s_le s_le (vv 1) (XG T.n_len (vv 0)) (bG (by rfl) T.v_MOST_CELLS))))))
   (cN (cE ZT))
   bY)
  exact cN (cE (Vl (kAll rfl) Wx (by rfl) T.n_all Yh (bX (YY ["word"] [] 1 (VT rfl (vv 0)) (λc _ _ _ _=>⟨(bN c),VO,(cM (bK d b (cQ (vv 0) (cQ cT (cQ (cM (bG (by rfl) T.v_MOST_WORD)) cL)))))⟩)))))
abbrev Nx7:List Uq:=["thing"]
abbrev Qx7:List Uq:=["thing"]
def dY:b6 Nx7 Qx7 (cO (top 57)):=Y0
def iK(F:XU K "is_if" "is_if" (top 57) f fd)(T:Txt K mg):aA P w K mg base CX0 1 f fd Qx7 (spV K [] 1 SY):=
 RL P w K mg base Nx7 Qx7 0 CZ [] F dY λ_ _ _ _ _ _ c b a=>by
  refine cS ?_ ?_
  ·exact(bC (VU (WX (X0 (Y3 (KA T.n_isinstance (vv 0) (vty T.n_tuple YV)))) (YO (bS (OY b) O8 (XG T.n_len (vv 0)) cT))))
   (cN (cE ZT))
   bY)
  exact cN (cE (WW (KA T.n_isinstance (X3 a (vv 0) cT) (vty T.n_str Yb)) (VQ (veq b (X3 a (vv 0) cT) cG))))
noncomputable abbrev Nx8:List Uq:=["thing","able","deep","sight","side","within"]
abbrev Qx8:List Uq:=["thing","able","deep"]
def HV:b6 Nx8 Qx8 (cO (top 58)):=Y0
noncomputable abbrev Nx9:List Uq:=["things","able","deep","sight","thing"]
abbrev Qx9:List Uq:=["things","able","deep"]
def HW:b6 Nx9 Qx9 (cO (top 59)):=Y0
def oA{R:bP}{a:Nat}(h:4<=a)(F:XU K "sight_behind_if" "sight_behind_if" (top 58) f fd)(T:Txt K mg)(e:bJ P w K mg base "may_name" 2 Qx3 [] ZB f_x3)(g:bJ P w K mg base "sight_behind" a Qx9 [] R f_x9):aA P w K mg base CX0 (a+1) f fd Qx8 (spV K [] 3 (Z2 6 [] (ZI R))):=
 RL P w K mg base Nx8 Qx8 (a+0) (ZI R) [] F HV λ_ _ _ _ _ _ c d b=>by
  refine cS ?_ ?_
  ·exact (bC (VU (WX (VV d (vv 2) (bG (by rfl) T.v_MOST_DEEP)) (YO (X0 (Y3 (bK (hk := by lia) e c (cQ (cM (X3 b (vv 0) cT)) (cQ (vv 1) cL))))))))
   (cN (cE YN))
   bY)
  refine cS ?_ ?_
  ·exact(bM HV.nd (bB (cM (bL ZK aC (vv 1) (bX (bR (cH (cW ZT cR))))))))
  refine cS ?_ ?_
  ·exact(WF Cz rfl (VT rfl (cM (RB rfl (vv 0) (RE cT) RD))) (bN HV.nd)
   (cS (bM HV.nd (bB (cM (bK (hk:=by lia) g c (cQ (vv 4) (cQ (vv 3) (cQ (cM (bL ZK aC (vv 2) cT)) cL)))))))
   (cS (bC (bS FF Vk (vv 5) YN)
   (cN (cE YN))
   bY)
   (cN (bM HV.nd (bB (cM (bL ZK aC (vv 3) (bL NF T7 (bX (bR (cH (cW ZT cR)))) (ZH WR UO (XG T.n_len (vv 5)) (XG T.n_len (vv 3))))))))))))
  exact cN (cE (vv 3))
def lT{R:bP}{a:Nat}(j:4<=a)(F:XU K "sight_behind" "sight_behind" (top 59) f fd)(T:Txt K mg)(c:bJ P w K mg base "makes_word" 1 Qx2 [] X4 f_x2)(d:bJ P w K mg base "is_row" 4 Qx5 [] VW f_x5)(e:bJ P w K mg base "is_if" 1 Qx7 [] SY f_x7)(g:bJ P w K mg base "sight_behind_if" (a+1) Qx8 [] (ZY R) f_x8):aA P w K mg base CX0 (a+2) f fd Qx9 (spV K [] 3 (Z2 5 [] (ZC R))):=
 RL P w K mg base Nx9 Qx9 (a+1) (ZC R) [] F HW λ_ _ _ _ _ _ b i h=>by
  refine cS ?_ ?_
  ·exact(bC (X0 (Y3 (KA T.n_isinstance (vv 0) (vty T.n_tuple YV))))
   (cN (cE YN))
   bY)
  refine cS ?_ ?_
  ·exact(bM HW.nd (bB (vv 1)))
  refine cS ?_ ?_
  ·exact(WF Cz rfl (VT rfl (vv 0)) (bN HW.nd)
   (cS (bC (Y3 (bK (hk:=by lia) e b (cQ (vv 4) cL)))
   (cN (bM HW.nd (bB (cM (bK (hk:=by lia) g b (cQ (vv 4) (cQ (vv 3) (cQ (vv 2) cL))))))))
   (cN (bC (Y3 (bK (hk:=by lia) d b (cQ (vv 4) (cQ (vv 3) cL))))
   (cN (bM HW.nd (bB (cM (bL ZK aC (vv 3) (bX (bR (cH (cW (bK (hk:=by lia) c b (cQ (vv 4) cL)) cR)))))))))
   (cN (cE YN)))))
   (cN (bC (VU (WX (bS FF Vk (vv 3) YN) (YO (bS HB s_gt (XG T.n_len (vv 3)) (bG (by rfl) T.v_MOST_TREE_ROWS)))))
   (cN (cE YN))
   bY))))
  exact cN (cE (vv 3))
abbrev Nx10:List Uq:=["thing"]
abbrev EM:List Uq:=["thing"]
def pH:b6 Nx10 EM (cO (top 60)):=Y0
def qo(F:XU K "is_tree" "is_tree" (top 60) f fd)(T:Txt K mg)(e:bJ P w K mg base "is_whole" 1 Qx0 [] a7 f_x0)(d:bJ P w K mg base "sight_behind" 20 Qx9 [] (bF 8) f_x9):aA P w K mg base CX0 21 f fd EM (spV K [] 1 cB):=
 RL P w K mg base Nx10 EM 20 PX [] F pH λ_ _ _ _ _ _ b c a=>by
  refine cS ?_ ?_
  ·exact(bC (VU (WX (X0 (Y3 (KA T.n_isinstance (vv 0) (vty T.n_tuple YV)))) (YO (bS (OY c) O8 (XG T.n_len (vv 0)) cT))))
   (cN (cE ZT))
   bY)
  exact cN (cE (WW (bK e b (cQ (cM (X3 a (vv 0) cT)) (cQ cT (cQ (cM (bG (by rfl) T.v_MOST_SURE)) cL)))) (VQ (XY gO iY (bK d b (cQ (cM (X3 a (vv 0) cT)) (cQ (bX (bR (cH cR))) (cQ cT cL)))) YN))))
noncomputable abbrev Nx11:List Uq:=["tree","cells","then","fault"]
abbrev Qx11:List Uq:=["tree","cells"]
def kZ:b6 Nx11 Qx11 (cO (top 63)):=Y0
def oO(F:XU K "run_tree" "run_tree" (top 63) f fd)(T:Txt K mg)(d:bJ P w K mg base "is_cells" 2 Qx6 [] ZU f_x6)(c:bJ P w K mg base "is_tree" 21 EM [] cB f_x10):aA P w K mg base (CXv P w) 22 f fd Qx11 (spX K 2 XV):=
 okZ P w K mg base Nx11 Qx11 21 SI F kZ λ_ _ _ _ _ _ b e a=>by
  exact(dF (WY (Vr (X0 (Y3 (bK c b (cQ (vv 0) cL)))) (WY (N8 rfl J4 rfl (by rfl) T.x_NoTree)) F5))
   (Zm (bC (X0 (Y3 (bK c b (cQ (vv 0) cL))))
   (cN cX)
   bY)
   (WY (Vr (X0 (Y3 (bK d b (cQ (vv 1) (cQ (cM (X3 a (vv 0) cT)) cL))))) (WY (N8 rfl J4 rfl (by rfl) T.x_NoCells)) F5))))
noncomputable abbrev Nx12:List Uq:=["tree","sure","rows","flat"]
abbrev Qx12:List Uq:=["tree"]
def qv:b6 Nx12 Qx12 (cO (top 65)):=Y0
def eD(F:XU K "flattened" "flattened" (top 65) f fd)(T:Txt K mg)(c:bJ P w K mg base "is_tree" 21 EM [] cB f_x10):aA P w K mg base (CXv P w) 22 f fd Qx12 (spX K 1 WI):=
 okZ P w K mg base Nx12 Qx12 21 PL F qv λ_ _ _ _ _ _ b d a=>by exact(WY (Vr (X0 (Y3 (bK c b (cQ (vv 0) cL)))) (WY (N8 rfl J4 rfl (by rfl) T.x_NoTree)) F5))
noncomputable abbrev Nx13:List Uq:=["_law_script","_law_k","_law_rest","_law_again"]
abbrev Qx13:List Uq:=["_law_script","_law_k"]
def J5:b6 Nx13 Qx13 (cO (top 67)):=Y0
def eR(F:XU K "_law_cell_at" "_law_cell_at" (top 67) f fd)(T:Txt K mg):aA P w K mg base CX0 1 f fd Qx13 (spV K [] 2 Z7):=
 RL P w K mg base Nx13 Qx13 0 WC [] F J5 λ_ _ _ _ _ _ c b a=>by
  refine cS ?_ ?_
  ·exact(bC (bS HD s_lt (vv 1) (XG T.n_len (vv 0)))
   (cN (cE (X3 a (vv 0) (vv 1))))
   bY)
  refine cS ?_ ?_
  ·exact(bC (VV b (vv 0) (bX (bR (cH cR))))
   (cN (cE cT))
   bY)
  refine cS ?_ ?_
  ·exact(bM J5.nd (bB (cM (X3 a (vv 0) (ZH UJ PK (vv 1) (XG T.n_len (vv 0)))))))
  refine cS ?_ ?_
  ·exact (WF Cz rfl (XZ (by rfl) T.n_range (X1 (AE rfl) pB (by rfl) T.n_min iB (ZH JU FT (vv 1) (XG T.n_len (vv 0))) cT)) (bN J5.nd)
   (cN (bM J5.nd (bB (cM (ZH JU FT (vv 2) cT))))))
  exact cN (cE (bL ZK aC (bL ZK aC (bL JL OE (X3 a (vv 0) (ZH UJ PK (vv 1) (XG T.n_len (vv 0)))) cT) (vv 1)) (bL JL OE (vv 2) cT)))
noncomputable abbrev Nx14:List Uq:=["_law_script","_law_k","_law_bound","_law_drawn"]
abbrev Qx14:List Uq:=["_law_script","_law_k","_law_bound"]
def zB1:b6 Nx14 Qx14 (cO (top 68)):=Y0
def nE(F:XU K "_law_mixed" "_law_mixed" (top 68) f fd)(T:Txt K mg)(a:bJ P w K mg base "_law_cell_at" 1 Qx13 [] Z7 f_x13):aA P w K mg base CX0 2 f fd Qx14 (spV K [] 3 YG):=
 RL P w K mg base Nx14 Qx14 1 UA [] F zB1 λ_ _ _ _ _ _ c d b=>by
  refine cS ?_ ?_
  ·exact(bM zB1.nd (bB (cM (ZH UJ PK (bL ZK aC (bL ZK aC (bL JL OE (bK a c (cQ (vv 0) (cQ (vv 1) cL))) cT) (bL JL OE cT (vv 1))) cT) cT))))
  exact cN (cE (ZH UJ PK (ZH UJ PK (ZH UJ PK (ZH eK iP (vv 3) cT) cT) cT) (vv 2)))
abbrev Nx15:List Uq:=["_law_script","_law_town","_law_bound"]
abbrev ME:List Uq:=["_law_script","_law_town","_law_bound"]
def pA:b6 Nx15 ME (cO (top 69)):=Y0
def fS(F:XU K "_law_draw" "_law_draw" (top 69) f fd)(T:Txt K mg)(a:bJ P w K mg base "_law_mixed" 2 Qx14 [] YG f_x14):aA P w K mg base CX0 3 f fd ME (spV K [1] 3 b5):=
 RL P w K mg base Nx15 ME 2 RV [1] F pA λ_ _ _ _ _ _ c d b=>by
  refine cS ?_ ?_
  ·exact(ZQ Bi Bj aI XW (pv 1) (cH (cW cT cR)))
  exact cN (cE (bK a c (cQ (vv 0) (cQ (cM (XG T.n_len (vo 1))) (cQ (vv 2) cL)))))
abbrev Nx16:List Uq:=["_law_script","_law_town","_law_some"]
abbrev PN:List Uq:=["_law_script","_law_town","_law_some"]
def eX:b6 Nx16 PN (cO (top 70)):=Y0
def iA(F:XU K "_law_pick" "_law_pick" (top 70) f fd)(T:Txt K mg)(c:bJ P w K mg base "_law_draw" 3 ME [1] b5 f_x15):aA P w K mg base CX0 4 f fd PN (spV K [1] 3 b8):=
 RL P w K mg base Nx16 PN 3 RX [1] F eX λ_ _ _ _ _ _ b d a=>by exact(cN (cE (X3 a (vv 2) (bK c b (cQ (vv 0) (bH (pv 1) (cQ (cM (XG T.n_len (vv 2))) cL)))))))
noncomputable abbrev Nx17:List Uq:=["_law_script","_law_town","_law_seen","_law_deed","_law_room"]
abbrev Qx17:List Uq:=["_law_script","_law_town","_law_seen","_law_deed","_law_room"]
def kG:b6 Nx17 Qx17 (cO (top 71)):=Y0
def pP(F:XU K "_law_place" "_law_place" (top 71) f fd)(T:Txt K mg)(c:bJ P w K mg base "_law_draw" 3 ME [1] b5 f_x15)(d:bJ P w K mg base "_law_pick" 4 PN [1] b8 f_x16):aA P w K mg base CX0 5 f fd Qx17 (spV K [1,2] 5 aL):=
 RL P w K mg base Nx17 Qx17 4 UB [1,2] F kG λ_ _ _ _ _ _ b e a=>by
  refine cS ?_ ?_
  ·exact(EI a (pv 2) (vv 3) (cM (ZH UJ PK (bL ZK aC (pE a (pv 2) (vv 3) (cM (bK c b (cQ (vv 0) (bH (pv 1) (cQ (vv 4) cL))))) ⟨rfl,rfl,rfl,rfl⟩) (bK d b (cQ (vv 0) (bH (pv 1) (cQ (bX (bR (cH (cW cT (cW cT (cW cT (cW cT (cW cT cR)))))))) cL))))) (vv 4))) rfl)
  exact cN (cE (X3 a (vo 2) (vv 3)))
noncomputable abbrev Nx18:List Uq:=["_law_script","_law_town","_law_made","_law_seen","_law_room","_law_kind","_law_a","_law_b","_law_c"]
abbrev Qx18:List Uq:=["_law_script","_law_town","_law_made","_law_seen","_law_room"]
def NZ:b6 Nx18 Qx18 (cO (top 72)):=Y0
def pJ(F:XU K "_law_row" "_law_row" (top 72) f fd)(T:Txt K mg)(e:bJ P w K mg base "_law_draw" 3 ME [1] b5 f_x15)(h:bJ P w K mg base "_law_pick" 4 PN [1] b8 f_x16)(d:bJ P w K mg base "_law_place" 5 Qx17 [1,2] aL f_x17):aA P w K mg base CX0 6 f fd Qx18 (spV K [1,3] 5 YH):=
 RL P w K mg base Nx18 Qx18 5 P0 [1,3] F NZ λ_ _ _ _ _ _ a b c=>by
  refine cS ?_ ?_
  ·exact(bM NZ.nd (bB (cM (bK e a (cQ (vv 0) (bH (pv 1) (cQ cT cL)))))))
  refine cS ?_ ?_
  ·exact(bC (VU (WX (VV b (vv 2) (bX (bR (cH cR)))) (YO (VV b (vv 5) cT))))
   (cS (bC (VV b (bK e a (cQ (vv 0) (bH (pv 1) (cQ cT cL)))) cT)
   (cN (cE (cJ (cW cG (cW (bK h a (cQ (vv 0) (bH (pv 1) (cQ (bX (bR (cH (cW cT (cW cT (cW cT (cW cT (cW cT (cW (bK e a (cQ (vv 0) (bH (pv 1) (cQ cT cL)))) cR))))))))) cL)))) cR)))))
   bY)
   (cN (cE (cJ (cW cG (cW (bK d a (cQ (vv 0) (bH (pv 1) (bH (pv 3) (cQ cG (cQ (vv 4) cL)))))) cR))))))
   bY)
  refine cS ?_ ?_
  ·exact(Yd (bX (YY ["_law_script","_law_town","_law_made","_law_k"] [0,1,2] 1 (XZ (by rfl) T.n_range cT) (λg _ _ _ _=>⟨(bN g),VO,(cM (X3 c (vv 2) (X1 (AD rfl) lN (by rfl) T.n_max oP cT (ZH WR UO (ZH WR UO (XG T.n_len (vv 2)) cT) (bK e a (cQ (vv 0) (bH (pv 1) (cQ cT cL))))))))⟩))) (SG (K:=K) rfl rfl (Z4 (bN NZ.nd) (Z4 (bN NZ.nd) (Z4 (bN NZ.nd) VR)))))
  refine cS ?_ ?_
  ·exact (bC (bS (R6 b) (YJ (neg := bb)) (vv 5) (cJ (cW cT (cW cT cR))) (by with_unfolding_all rfl))
   (cN (cE (cJ (cW cG (cW (bK d a (cQ (vv 0) (bH (pv 1) (bH (pv 3) (cQ cG (cQ (vv 4) cL)))))) cR)))))
   bY)
  refine cS ?_ ?_
  ·exact(bC (VV b (vv 5) cT)
   (cN (cE (cJ (cW cG (cW (bK d a (cQ (vv 0) (bH (pv 1) (bH (pv 3) (cQ cG (cQ (vv 4) cL)))))) (cW (vv 8) (cW (vv 6) cR)))))))
   bY)
  refine cS ?_ ?_
  ·exact (bC (bS (R6 b) (YJ (neg := bb)) (vv 5) (cJ (cW cT (cW cT cR))) (by with_unfolding_all rfl))
   (cN (cE (cJ (cW cG (cW (bK d a (cQ (vv 0) (bH (pv 1) (bH (pv 3) (cQ cG (cQ (vv 4) cL)))))) (cW (vv 6) cR))))))
   bY)
  refine cS ?_ ?_
  ·exact(bC (VV b (vv 5) cT)
   (cN (cE (cJ (cW cG (cW (bK d a (cQ (vv 0) (bH (pv 1) (bH (pv 3) (cQ cG (cQ (vv 4) cL)))))) (cW (vv 6) (cW (vv 8) cR)))))))
   bY)
  refine cS ?_ ?_
  ·exact(bC (VV b (vv 5) cT)
   (cN (cE (cJ (cW cG (cW (vv 8) (cW (vv 6) (cW (vv 7) cR)))))))
   bY)
  exact cN (cE (cJ (cW (X3 c (bX (bR (cH (cW cG (cW cG (cW cG (cW cG (cW cG (cW cG (cW cG cR)))))))))) (bK e a (cQ (vv 0) (bH (pv 1) (cQ cT cL))))) (cW (vv 6) (cW (vv 7) cR)))))
noncomputable abbrev Nx20:List Uq:=["_law_script","_law_town","_law_rows_here","_law_made","_law_seen","_law_room","_law_last","_law_first","_law_names_here","_law_name","_law_at"]
abbrev Qx20:List Uq:=["_law_script","_law_town","_law_rows_here","_law_made","_law_seen","_law_room"]
def QD:b6 Nx20 Qx20 (cO (top 74)):=Y0
def Zt(F:XU K "_law_next" "_law_next" (top 74) f fd)(T:Txt K mg)(d:bJ P w K mg base "_law_pick" 4 PN [1] b8 f_x16):aA P w K mg base CX0 5 f fd Qx20 (spV K [1,4] 6 ZM):=
 RL P w K mg base Nx20 Qx20 4 U9 [1,4] F QD λ_ _ _ _ _ _ c b a=>by
  refine cS ?_ ?_
  ·exact(bM QD.nd (bB (cM (X3 a (vv 2) (UR cT)))))
  refine cS ?_ ?_
  ·exact(bM QD.nd (bB (cM (MA (bS (R6 b) (YJ (neg:=bb)) (X3 a (vv 6) cT) (cJ (cW cG (cW cG (cW cG (cW cG cR))))) (by with_unfolding_all rfl)) cT cT))))
  refine cS ?_ ?_
  ·exact(bM QD.nd (U3 (bR (cH cR))))
  refine cS ?_ ?_
  ·exact(WF Cz rfl (VT rfl (cM (RB rfl (vv 6) (RE (vv 7)) RD))) (bN QD.nd)
   (cS (bM QD.nd (bB (cM (bL ZK aC (kR rfl (vv 3) (vv 9)) (bK d c (cQ (vv 0) (bH (pv 1) (cQ (bX (bR (cH (cW cT (cW cT (cW cT (cW cT (cW (UR cT) (cW cT (cW cT cR)))))))))) cL))))))))
   (cN (ZQ Bi Bj aI XW (pv 8) (cH (cW (MA (VU (QH (IM HC HD s_le s_lt cT (vv 10) (XG T.n_len (vv 3))) (OT (bS (OY b) O8 (X3 a (vv 3) (vv 10)) (ZH WR UO (XG T.n_len (vv 2)) cT))))) (X3 a (vv 3) (vv 10)) (vv 9)) cR))))))
  refine cS ?_ ?_
  ·exact(bC (VV b (vv 7) cT)
   (cN (cE (bL ZK aC (RB rfl (vv 6) RD (RE cT)) (L9 TL TF (by rfl) T.n_tuple YV (vo 8)))))
   bY)
  refine cS ?_ ?_
  ·exact(EI a (pv 4) (X3 a (vv 6) cT) (cM (ZH UJ PK (bL ZK aC (X3 a (vv 6) cT) cT) (vv 5))) rfl)
  exact cN (cE (bL ZK aC (cJ (cW (X3 a (vv 6) cT) (cW (X3 a (vo 4) (X3 a (vv 6) cT)) cR))) (L9 TL TF (by rfl) T.n_tuple YV (vo 8))))
noncomputable abbrev Nx19:List Uq:=["_law_script","_law_town","_law_many","_law_room","_law_rows_here","_law_made","_law_seen","_law_again"]
abbrev Qx19:List Uq:=["_law_script","_law_town","_law_many","_law_room"]
def FU:b6 Nx19 Qx19 (cO (top 73)):=Y0
def oT(F:XU K "_law_rows" "_law_rows" (top 73) f fd)(T:Txt K mg)(g:bJ P w K mg base "_law_pick" 4 PN [1] b8 f_x16)(e:bJ P w K mg base "_law_row" 6 Qx18 [1,3] YH f_x18)(d:bJ P w K mg base "_law_next" 5 Qx20 [1,4] ZM f_x20):aA P w K mg base CX0 7 f fd Qx19 (spV K [1] 4 XT):=
 RL P w K mg base Nx19 Qx19 6 RY [1] F FU λ_ _ _ _ _ _ c b a=>by
  refine cS ?_ ?_
  ·exact(Zq (i:=4) (j:=5) (k:=6) rfl FU.nd rfl rfl rfl (by decide) (by decide) (by decide) rfl rfl rfl (U3 (bR (cH cR))) (U3 (bR (cH cR))) (U3 iJ) rfl)
  refine cS ?_ ?_
  ·exact(N7 Cz (bS HD s_lt (XG T.n_len (vo 4)) (vv 2))
   (cS (ZQ Bi Bj aI XW (pv 4) (cH (cW (bK e c (cQ (vv 0) (bH (pv 1) (bH (pv 5) (bH (pv 6) (cQ (vv 3) cL)))))) cR)))
   (cS (bC (bS (QW b) (YJ (neg:=ba)) (X3 a (X3 a (vo 4) (UR cT)) cT) (cJ (cW cG (cW cG cR))) (by with_unfolding_all rfl))
   (cN (ZQ Bi Bj aI XW (pv 5) (cH (cW (ZH WR UO (XG T.n_len (vo 4)) cT) cR))))
   bY)
   (cN (WF Cz rfl (XZ (by rfl) T.n_range (bK g c (cQ (vv 0) (bH (pv 1) (cQ (bX (bR (cH (cW cT (cW cT (cW cT (cW cT (cW cT cR)))))))) cL))))) (bN FU.nd)
   (cN (bC (VU (QH (bS HD s_lt (XG T.n_len (vo 4)) (vv 2)) (OT (bS (OY b) O8 (X3 a (X3 a (vo 4) (UR cT)) cT) cG))))
   (cS (ZQ Bi Bj aI XW (pv 4) (cH (cW (bK d c (cQ (vv 0) (bH (pv 1) (bH (pv 4) (bH (pv 5) (bH (pv 6) (cQ (vv 3) cL))))))) cR)))
   (cN (bC (bS (QW b) (YJ (neg:=ba)) (X3 a (X3 a (vo 4) (UR cT)) cT) (cJ (cW cG (cW cG cR))) (by with_unfolding_all rfl))
   (cN (ZQ Bi Bj aI XW (pv 5) (cH (cW (ZH WR UO (XG T.n_len (vo 4)) cT) cR))))
   bY)))
   bY)))))))
  exact cN (cE (L9 TL TF (by rfl) T.n_tuple YV (vo 4)))
abbrev Nx22:List Uq:=["_law_row_here"]
abbrev Qx22:List Uq:=["_law_row_here"]
def Ze:b6 Nx22 Qx22 (cO (top 76)):=Y0
def oN(F:XU K "_law_names" "_law_names" (top 76) f fd)(T:Txt K mg):aA P w K mg base CX0 1 f fd Qx22 (spV K [] 1 aK):=
 RL P w K mg base Nx22 Qx22 0 PB [] F Ze λ_ _ _ _ _ _ c b a=>by
  refine cS ?_ ?_
  ·exact(bC (VV b (X3 a (vv 0) cT) cG)
   (cN (cE (bX (bR (cH cR)))))
   bY)
  exact cN (cE (MA (bS (R6 b) (YJ (neg:=bb)) (X3 a (vv 0) cT) (cJ (cW cG (cW cG (cW cG (cW cG cR))))) (by with_unfolding_all rfl)) (bX (Yl Wv R9 (by rfl) T.R9 OD (Vn (RB rfl (vv 0) (RE cT) RD)))) (bX (Yl Wv R9 (by rfl) T.R9 OD (Vn (RB rfl (vv 0) (RE cT) RD))))))
noncomputable abbrev Nx23:List Uq:=["_law_block_here","_law_row_here","_law_here"]
abbrev Qx23:List Uq:=["_law_block_here","_law_row_here"]
def zB0:b6 Nx23 Qx23 (cO (top 77)):=Y0
def qE(F:XU K "_law_may" "_law_may" (top 77) f fd)(T:Txt K mg):aA P w K mg base CX0 1 f fd Qx23 (spV K [] 2 Y5):=
 RL P w K mg base Nx23 Qx23 0 PZ [] F zB0 λ_ _ _ _ _ _ d b a=>by
  refine cS ?_ ?_
  ·exact(bM zB0.nd (bB (cM (X3 a (X3 a (vv 0) cT) (vv 1)))))
  refine cS ?_ ?_
  ·exact (bC (bS (R6 b) (YJ (neg := bb)) (X3 a (vv 2) cT) (cJ (cW cG (cW cG (cW cG (cW cG cR))))) (by with_unfolding_all rfl))
   (cN (cE (XY dR s_ge (X3 a (vv 2) cT) (X3 a (vv 0) cT))))
   bY)
  exact cN (cE (WW (veq b (X3 a (vv 2) cT) cG) (VQ (XY (QW b) (YJ (neg:=ba)) (RB rfl (X3 a (X3 a (vv 0) cT) (X3 a (vv 2) cT)) RD (RE cT)) (bX (YY ["_law_k"] [] 1 (CD (by rfl) T.n_range cT cT) (λc _ _ _ _=>⟨(bN c),VO,(cM (cJ (cW cG (cW (vv 0) cR))))⟩))) (by with_unfolding_all rfl)))))
noncomputable abbrev Nx24:List Uq:=["_law_block_here","_law_made","_law_cells","_law_two","_law_there","_law_one","_law_here","_law_writes","_law_reasons"]
abbrev Qx24:List Uq:=["_law_block_here"]
def UP:b6 Nx24 Qx24 (cO (top 78)):=Y0
def jT(F:XU K "_law_must" "_law_must" (top 78) f fd)(T:Txt K mg)(e:bJ P w K mg base "_law_names" 1 Qx22 [] aK f_x22)(d:bJ P w K mg base "_law_may" 1 Qx23 [] Y5 f_x23):aA P w K mg base CX0 2 f fd Qx24 (spV K [] 1 XS):=
 RL P w K mg base Nx24 Qx24 1 RW [] F UP λ_ _ _ _ _ _ c b a=>by
  refine cS ?_ ?_
  ·exact(OS (i:=1) (j:=2) rfl UP.nd rfl rfl (by decide) rfl rfl (U3 (bR (cH cR))) (bB (cM (cJ (cW cG (cW cG (cW cG (cW cG cR))))))) rfl)
  refine cS ?_ ?_
  ·exact (WF Cz rfl (J9 rfl (by rfl) T.n_enumerate (cM (X3 a (vv 0) cT))) (SG (K := K) rfl rfl (Z4 (bN UP.nd) (Z4 (bN UP.nd) VR)))
   (cN (WF Cz rfl (J9 rfl (by rfl) T.n_enumerate (cM (RB rfl (X3 a (vv 0) cT) RD (RE (vv 3))))) (SG (K:=K) rfl rfl (Z4 (bN UP.nd) (Z4 (bN UP.nd) VR)))
   (cS (lI bb UP.nd ["_law_row_here"] [] 1 (VT rfl (cM (cJ (cW (vv 6) (cW (vv 4) cR))))) (λg _ _ _ _=>⟨(bN g),(F3 (bS (R6 b) (YJ (neg:=bb)) (X3 a (vv 0) cT) (cJ (cW cG (cW cG cR))) (by with_unfolding_all rfl))),(vv 0)⟩))
   (cS (bM UP.nd (U3 (bR (cH (cW (XY (R6 b) (YJ (neg:=bb)) (vv 5) (bK e c (cQ (vv 4) cL)) (by with_unfolding_all rfl)) (cW (WW (bK d c (cQ (vv 0) (cQ (vv 5) cL))) (VQ (bK d c (cQ (vv 0) (cQ (vv 3) cL))))) cR))))))
   (cS (ZQ Bi Bj aI XW (pv 8) (cH (cW (WW (XY (R6 b) (YJ (neg:=bb)) (X3 a (vv 6) cT) (vv 2) (by with_unfolding_all rfl)) (WW (XY (R6 b) (YJ (neg:=bb)) (X3 a (vv 4) cT) (vv 2) (by with_unfolding_all rfl)) (WW (veq b (X3 a (vv 6) cT) (X3 a (vv 4) cT)) (VQ (XY (OY b) O8 (vv 7) (bX (bR (cH cR)))))))) cR)))
   (cS (ZQ Bi Bj aI XW (pv 8) (cH (cW (WW (bK d c (cQ (vv 0) (cQ (vv 5) cL))) (VQ (XY (R6 b) (YJ (neg:=bb)) (X3 a (vv 4) cT) (cJ (cW cG (cW cG cR))) (by with_unfolding_all rfl)))) cR)))
   (cS (ZQ Bi Bj aI XW (pv 8) (cH (cW (WW (bK d c (cQ (vv 0) (cQ (vv 3) cL))) (VQ (XY (R6 b) (YJ (neg:=bb)) (X3 a (vv 6) cT) (cJ (cW cG (cW cG cR))) (by with_unfolding_all rfl)))) cR)))
   (cN (bC (bS (R6 b) (YJ (neg:=bb)) ZT (vo 8) (by with_unfolding_all rfl))
   (cN (ZQ Bi Bj aI XW (pv 1) (cH (cW (cJ (cW (vv 5) (cW (vv 3) cR))) cR))))
   bY))))))))))
  exact cN (cE (bX (gL jZ qt (by rfl) T.n_sorted mW (Vn (vo 1)))))
noncomputable abbrev Nx26:List Uq:=["_law_script","_law_town","_law_block_here","_law_pairs","_law_left","_law_made","_law_ready"]
abbrev Qx26:List Uq:=["_law_script","_law_town","_law_block_here"]
def FV:b6 Nx26 Qx26 (cO (top 80)):=Y0
def eW(F:XU K "_law_mixed_order" "_law_mixed_order" (top 80) f fd)(T:Txt K mg)(g:bJ P w K mg base "_law_pick" 4 PN [1] b8 f_x16)(e:bJ P w K mg base "_law_must" 2 Qx24 [] XS f_x24):aA P w K mg base CX0 5 f fd Qx26 (spV K [1] 3 aF):=
 RL P w K mg base Nx26 Qx26 4 YA [1] F FV λ_ _ _ _ _ _ d b a=>by
  refine cS ?_ ?_
  ·exact(jS (i:=3) (j:=4) (k:=5) rfl rfl FV.nd rfl rfl rfl (by decide) (by decide) (by decide) (Bk rfl) (Bk rfl) (Cg rfl) (bB (cM (bK e d (cQ (vv 2) cL)))) (U3 (CG rfl (by rfl) T.R9 OD (by rfl) T.n_range oX (XG T.n_len (X3 a (vv 2) cT)))) (U3 (bR (cH cR))))
  refine cS ?_ ?_
  ·exact(N7 Cz (bS (OY b) O8 (vo 4) (bX (bR (cH cR))))
   (cS (cY bb FV.nd ["_law_pairs","_law_left","_law_row_here"] [3,4] 1 (mJ rfl (vo 4)) (λc _ _ _ _=>⟨(bN c),(F3 (VV b (bX (YY ["_law_left","_law_row_here","_law_one","_law_two"] [1,2] 2 (VT rfl (vv 0)) (λc _ _ _ _=>⟨(SG (K:=K) rfl rfl (Z4 (bN c) (Z4 (bN c) VR))),(F3 (VU (QH (VV b (vv 3) (vv 1)) (OT (bS (R6 b) (YJ (neg:=bb)) (vv 2) (vo 0) (by with_unfolding_all rfl)))))),cT⟩))) (bX (bR (cH cR))))),(vv 2)⟩))
   (cS (ZQ Bi Bj aI XW (pv 5) (cH (cW (bK g d (cQ (vv 0) (bH (pv 1) (cQ (vv 6) cL)))) cR)))
   (cN (ZQ PySem.F.slot_list_remove PySem.F.type_list_remove BB dL (pv 4) (cH (cW (X3 a (vo 5) (UR cT)) cR)))))))
  exact cN (nC (pv 5))
abbrev Nx27:List Uq:=["_law_row_here","_law_names_here","_law_first"]
abbrev Qx27:List Uq:=["_law_row_here","_law_names_here"]
def zAY:b6 Nx27 Qx27 (cO (top 81)):=Y0
def kU(F:XU K "_law_renamed" "_law_renamed" (top 81) f fd)(T:Txt K mg):aA P w K mg base CX0 1 f fd Qx27 (spV K [] 2 bT):=
 RL P w K mg base Nx27 Qx27 0 aN [] F zAY λ_ _ _ _ _ _ d b a=>by
  refine cS ?_ ?_
  ·exact(bC (VV b (X3 a (vv 0) cT) cG)
   (cN (cE (vv 0)))
   bY)
  refine cS ?_ ?_
  ·exact(bM zAY.nd (bB (cM (MA (bS (R6 b) (YJ (neg:=bb)) (X3 a (vv 0) cT) (cJ (cW cG (cW cG (cW cG (cW cG cR))))) (by with_unfolding_all rfl)) cT cT))))
  exact cN (cE (bL ZK aC (RB rfl (vv 0) RD (RE (vv 2))) (L9 TL TF (by rfl) T.n_tuple YV (bX (YY ["_law_names_here","_law_name"] [1] 1 (VT rfl (cM (RB rfl (vv 0) (RE (vv 2)) RD))) (λc _ _ _ _=>⟨(bN c),VO,(cM (X3 a (vv 0) (vv 1)))⟩))))))
noncomputable abbrev Nx21:List Uq:=["_law_script","_law_town","_law_most","_law_room","_law_sure","_law_block_here","_law_order_there","_law_names_here"]
abbrev Qx21:List Uq:=["_law_script","_law_town","_law_most"]
def QE:b6 Nx21 Qx21 (cO (top 75)):=Y0
def mX(F:XU K "_law_block" "_law_block" (top 75) f fd)(T:Txt K mg)(d:bJ P w K mg base "_law_draw" 3 ME [1] b5 f_x15)(e:bJ P w K mg base "_law_pick" 4 PN [1] b8 f_x16)(g:bJ P w K mg base "_law_rows" 7 Qx19 [1] XT f_x19)(h:bJ P w K mg base "_law_mixed_order" 5 Qx26 [1] aF f_x26)(i:bJ P w K mg base "_law_renamed" 1 Qx27 [] bT f_x27):aA P w K mg base CX0 8 f fd Qx21 (spV K [1] 3 ZX):=
 RL P w K mg base Nx21 Qx21 7 WJ [1] F QE λ_ _ _ _ _ _ a j b=>by
  refine cS ?_ ?_
  ·exact(bM QE.nd (bB (cM (bK e a (cQ (vv 0) (bH (pv 1) (cQ (bX (bR (cH (cW cT (cW cT (cW cT (cW cT cR))))))) cL)))))))
  refine cS ?_ ?_
  ·exact(bM QE.nd (bB (cM (bK e a (cQ (vv 0) (bH (pv 1) (cQ (bX (bR (cH (cW cT (cW (vv 3) (cW (vv 3) (cW (bK d a (cQ (vv 0) (bH (pv 1) (cQ (cM (bL ZK aC (vv 3) cT)) cL)))) cR))))))) cL)))))))
  refine cS ?_ ?_
  ·exact(bM QE.nd (bB (cM (cJ (cW (vv 4) (cW (bK g a (cQ (vv 0) (bH (pv 1) (cQ (cM (bK d a (cQ (vv 0) (bH (pv 1) (cQ (cM (bL ZK aC (vv 2) cT)) cL))))) (cQ (vv 3) cL))))) cR))))))
  refine cS ?_ ?_
  ·exact(bC (bS HB s_gt (bK d a (cQ (vv 0) (bH (pv 1) (cQ cT cL)))) cT)
   (cN (cE (vv 5)))
   bY)
  refine cS ?_ ?_
  ·exact(bM QE.nd (bB (cM (bK h a (cQ (vv 0) (bH (pv 1) (cQ (vv 5) cL)))))))
  refine cS ?_ ?_
  ·exact(bM QE.nd (bB (bX (CF rfl rfl (by rfl) T.n_dict Zz (bX (YY ["_law_number","_law_row_here"] [] 2 (J9 rfl (by rfl) T.n_enumerate (vv 6)) (λc _ _ _ _=>⟨(SG (K:=K) rfl rfl (Z4 (bN c) (Z4 (bN c) VR))),VO,(cM (cJ (cW (vv 1) (cW (vv 0) cR))))⟩)))))))
  exact cN (cE (cJ (cW (vv 4) (cW (L9 TL TF (by rfl) T.n_tuple YV (bX (YY ["_law_block_here","_law_names_here","_law_row_here"] [5,7] 1 (VT rfl (vv 6)) (λc _ _ _ _=>⟨(bN c),VO,(cM (bK i a (cQ (cM (X3 b (X3 b (vv 0) cT) (vv 2))) (cQ (vv 1) cL))))⟩)))) cR))))
abbrev Nx25:List Uq:=["_law_e","_law_own"]
abbrev Qx25:List Uq:=["_law_e"]
def zAZ:b6 Nx25 Qx25 (cO (top 79)):=Y0
def eJ(F:XU K "_law_which" "_law_which" (top 79) f fd)(T:Txt K mg):FnH P w K mg base 1 f fd Qx25 (spV K [] 1 XM):=
 okWH P w K mg base Nx25 Qx25 0 PC [] F zAZ λ_ _ _ _ _ c b a=>by
  refine cS ?_ ?_
  ·exact(bM zAZ.nd (U3 (bR (cH (cW (X1 R7 (WU T.xi) (by rfl) T.n_isinstance bU (vv 0) (bG (by rfl) T.v_NoBlock)) (cW (X1 R7 (WU T.xi) (by rfl) T.n_isinstance bU (vv 0) (bG (by rfl) T.v_NoCells)) (cW (X1 R7 (WU T.xi) (by rfl) T.n_isinstance bU (vv 0) (bG (by rfl) T.v_NoRow)) (cW (X1 R7 (WU T.xi) (by rfl) T.n_isinstance bU (vv 0) (bG (by rfl) T.v_NoLanes)) cR))))))))
  refine cS ?_ ?_
  ·exact(ZQ Ef Eg (LA (K:=K) rfl) P6 (pv 1) (cH (cW (bX (bR (cH (cW (X1 R7 (WU T.xi) (by rfl) T.n_isinstance bU (vv 0) (bG (by rfl) T.v_NoPlan)) (cW (X1 R7 (WU T.xi) (by rfl) T.n_isinstance bU (vv 0) (bG (by rfl) T.v_NoProgram)) (cW (X1 R7 (WU T.xi) (by rfl) T.n_isinstance bU (vv 0) (bG (by rfl) T.v_NoTree)) (cW (X1 R7 (WU T.xi) (by rfl) T.n_isinstance bU (vv 0) (bG (by rfl) T.v_NoLoop)) cR))))))) cR)))
  refine cS ?_ ?_
  ·exact(ZQ Ef Eg (LA (K:=K) rfl) P6 (pv 1) (cH (cW (bX (bR (cH (cW (X1 R7 (WU T.xi) (by rfl) T.n_isinstance bU (vv 0) (bG (by rfl) T.v_NoText)) (cW (X1 R7 (WU T.xi) (by rfl) T.n_isinstance bU (vv 0) (bG (by rfl) T.v_NoName)) (cW (X1 R7 (WU T.xi) (by rfl) T.n_isinstance bU (vv 0) (bG (by rfl) T.v_TooMany)) (cW (X1 R7 (WU T.xi) (by rfl) T.n_isinstance bU (vv 0) (bG (by rfl) T.v_TooLong)) cR))))))) cR)))
  refine cS ?_ ?_
  ·exact(ZQ Ef Eg (LA (K:=K) rfl) P6 (pv 1) (cH (cW (bX (bR (cH (cW (X1 R7 (WU T.xi) (by rfl) T.n_isinstance bU (vv 0) (bG (by rfl) T.v_NotValid)) (cW (X1 R7 (WU T.xi) (by rfl) T.n_isinstance bU (vv 0) (bG (by rfl) T.v_Nothing)) cR))))) cR)))
  refine cS ?_ ?_
  ·exact (bC (VU (WX (bS (OY b) O8 (Wb rfl PySem.F.slot_list_count PySem.F.type_list_count qX iT (vo 1) ZT) cT) (YO (X0 (Y3 (X1 R7 (WU T.xi) (by rfl) T.n_isinstance bU (vv 0) (vty T.n_ValueError MG)))))))
   (cN (cE (cJ (cW cG (cW (UR cT) cR)))))
   bY)
  exact cN (cE (cJ (cW cG (cW (Wb rfl Lm Ln lQ nS (vo 1) ZT) cR))))
noncomputable abbrev Nx28:List Uq:=["_law_script","_law_town","_law_many","_law_deep","_law_seen","_law_room","_law_rows_here","_law_first","_law_c","_law_inner","_law_left","_law_one","_law_two","_law_row_here"]
abbrev Qx28:List Uq:=["_law_script","_law_town","_law_many","_law_deep","_law_seen","_law_room"]
def VM:b6 Nx28 Qx28 (cO (top 82)):=Y0
def eT{R:bP}{b:Nat}(m:6<=b)(F:XU K "_law_tree_rows" "_law_tree_rows" (top 82) f fd)(T:Txt K mg)(g:bJ P w K mg base "_law_draw" 3 ME [1] b5 f_x15)(l:bJ P w K mg base "_law_pick" 4 PN [1] b8 f_x16)(h:bJ P w K mg base "_law_row" 6 Qx18 [1,3] YH f_x18)(e:bJ P w K mg base "_law_tree_rows" b Qx28 [1,4] R f_x28):aA P w K mg base CX0 (b+1) f fd Qx28 (spV K [1,4] 6 (Z2 14 [1,4] (ZJ R))):=
 RL P w K mg base Nx28 Qx28 (b+0) (ZJ R) [1,4] F VM λ_ _ _ _ _ _ a d c=>by
  refine cS ?_ ?_
  ·exact(OS (i:=6) (j:=7) rfl VM.nd rfl rfl (by decide) rfl rfl (U3 (bR (cH cR))) (bB (cM (XG T.n_len (Xv (pv 4) (j:=1) XX)))) rfl)
  refine cS ?_ ?_
  ·exact(N7 Cz (bS HB s_gt (vv 2) cT)
   (cN (bC (VU (QH (bS (OY d) O8 (Xv (pv 4) (j:=1) XX) (bX (bR (cH cR)))) (QH (bS HD s_lt (vv 3) cT) (QH (bS HB s_gt (vv 2) cT) (OT (VV d (bK (hk:=by lia) g a (cQ (vv 0) (bH (pv 1) (cQ cT cL)))) cT))))))
   (cS (OS (i:=8) (j:=9) rfl VM.nd rfl rfl (by decide) rfl rfl (bB (cM (bK (hk:=by lia) l a (cQ (vv 0) (bH (pv 1) (Zw (pv 4) (j:=1) XX cL)))))) (bB (cM (bK (hk:=by lia) g a (cQ (vv 0) (bH (pv 1) (cQ (vv 2) cL)))))) rfl)
   (cS (qp (k:=10) rfl VM.nd rfl rfl (pv 4) (j:=0) XX (cH (cW (bL ZK aC (Vm (pv 4) (j:=0) XX) cT) (cW (ZH JU FT (vv 9) cT) cR))))
   (cS (bM VM.nd (bB (cM (bK (hk:=by lia) e a (cQ (vv 0) (bH (pv 1) (cQ (cM (ZH WR UO (vv 9) (vv 10))) (cQ (cM (bL ZK aC (vv 3) cT)) (bH (pv 4) (cQ (vv 5) cL))))))))))
   (cS (bM VM.nd (bB (cM (bK (hk:=by lia) e a (cQ (vv 0) (bH (pv 1) (cQ (vv 10) (cQ (cM (bL ZK aC (vv 3) cT)) (bH (pv 4) (cQ (vv 5) cL))))))))))
   (cS (ZQ Bi Bj aI XW (pv 6) (cH (cW (cJ (cW cG (cW (vv 8) (cW (vv 11) (cW (vv 12) cR))))) cR)))
   (cN (bM VM.nd (bB (cM (ZH WR UO (ZH WR UO (vv 2) cT) (vv 9)))))))))))
   (cS (bM VM.nd (bB (cM (nP (K:=K) (i:=3) (mF:=[1]) rfl h (by decide) a (by lia) (by rfl) (EH (vv 0) (Zb (pv 1) (Zx (pv 4) (j:=1) XX (hU (pv 5)))))))))
   (cS (bC (bS (QW d) (YJ (neg:=ba)) (X3 c (vv 13) cT) (cJ (cW cG (cW cG cR))) (by with_unfolding_all rfl))
   (cN (nB (pv 4) (j:=1) XX (cH (cW (Vm (pv 4) (j:=0) XX) cR))))
   bY)
   (cS (qZ (pv 4) (j:=0) XX (cM (bL ZK aC (Vm (pv 4) (j:=0) XX) cT)))
   (cS (ZQ Bi Bj aI XW (pv 6) (cH (cW (vv 13) cR)))
   (cN (bM VM.nd (bB (cM (ZH WR UO (vv 2) cT))))))))))))
  refine cS ?_ ?_
  ·exact(bC (bS HB s_gt (vv 3) cT)
   (cN (pG (pv 4) (j:=1) XX (vv 7) (bR (cH cR))))
   bY)
  exact cN (cE (L9 TL TF (by rfl) T.n_tuple YV (vo 6)))
noncomputable abbrev Nx29:List Uq:=["_law_script","_law_town","_law_most","_law_room","_law_rows_here"]
abbrev Qx29:List Uq:=["_law_script","_law_town","_law_most"]
def FW:b6 Nx29 Qx29 (cO (top 83)):=Y0
def lU(F:XU K "_law_tree" "_law_tree" (top 83) f fd)(T:Txt K mg)(b:bJ P w K mg base "_law_draw" 3 ME [1] b5 f_x15)(c:bJ P w K mg base "_law_pick" 4 PN [1] b8 f_x16)(e:bJ P w K mg base "_law_tree_rows" 14 Qx28 [1,4] (aY 8) f_x28):aA P w K mg base CX0 15 f fd Qx29 (spV K [1] 3 ZA):=
 RL P w K mg base Nx29 Qx29 14 RZ [1] F FW λ_ _ _ _ _ _ a g d=>by
  refine cS ?_ ?_
  ·exact(bM FW.nd (bB (cM (bK c a (cQ (vv 0) (bH (pv 1) (cQ (bX (bR (cH (cW cT (cW cT (cW cT cR)))))) cL)))))))
  refine cS ?_ ?_
  ·exact(bM FW.nd (bB (cM (qQ (i:=4) (mF:=[1]) e a (EH (vv 0) (Zb (pv 1) (EH (cM (bK b a (cQ (vv 0) (bH (pv 1) (cQ (cM (bL ZK aC (vv 2) cT)) cL))))) (EH cT (jD (n:=0) XX (pv 3))))))))))
  exact cN (cE (cJ (cW (bK c a (cQ (vv 0) (bH (pv 1) (cQ (bX (bR (cH (cW cT (cW (vv 3) (cW (bK b a (cQ (vv 0) (bH (pv 1) (cQ (cM (bL ZK aC (vv 3) cT)) cL)))) cR)))))) cL)))) (cW (vv 4) cR))))
noncomputable abbrev Nx30:List Uq:=["_law_what","_law_thing","_law_cells","_law_e"]
abbrev Qx30:List Uq:=["_law_what","_law_thing","_law_cells"]
def zAX:b6 Nx30 Qx30 (cO (top 84)):=Y0
def mZ(F:XU K "_law_ask" "_law_ask" (top 84) f fd)(T:Txt K mg)(d:DefH P w K mg base "_law_which" 1 Qx25 (spV K [] 1 XM) f_x25)(e:DefX P w K mg base "run_tree" 22 Qx11 XV f_x11)(g:DefX P w K mg base "flattened" 22 Qx12 WI f_x12):aA P w K mg base CX0 23 f fd Qx30 (spV K [] 3 a6):=
 RL P w K mg base Nx30 Qx30 22 PY [] F zAX λ_ _ _ _ _ _ a b c=>by
  exact(cN (iN (i:=3) rfl rfl rfl zAX.nd rfl rfl (by decide) (by rfl) (λ_=>T.fnm _ _)
   (cN (cE (MA (VV b (vv 0) cT) IL IL)))
   (λ_ _ _ hz=>(WY (qb (dP (VV b (vv 0) cT) (EJ hz rfl g a (by decide) (by rfl) rfl (cQ (vv 1) cL)) (EJ hz rfl e a (by decide) (by rfl) rfl (cQ (vv 1) (cQ (vv 2) cL)))))))
   λ_=>(cN (cE (mU d (a.h.mark _) (cQ (vv 3) cL))))))
abbrev Nx31:List Uq:=["_law_load","_law_some"]
abbrev Qx31:List Uq:=["_law_load"]
def zAW:b6 Nx31 Qx31 (cO (top 85)):=Y0
def jL(F:XU K "_law_bad_trees" "_law_bad_trees" (top 85) f fd)(T:Txt K mg):aA P w K mg base CX0 1 f fd Qx31 (spV K [] 1 aB):=
 RL P w K mg base Nx31 Qx31 0 UZ [] F zAW λ_ _ _ _ _ _ c b a=>by
  refine cS ?_ ?_
  ·exact(@bM _ _ _ _ _ _ _ _ _ zAW.nd (@U3 _ _ _ _ _ _ (@bR _ _ _ _ _ _ _ (@cH _ _ _ _ _ _ _ (@cW _ _ _ _ _ _ _ _ _ _ _ _ (@cJ _ _ _ _ _ _ _ _ _ (@cW _ _ _ _ _ _ _ _ _ _ _ _ (@vv _ _ _ _ _ 0 rfl (by first|exact Cg rfl|exact Bk (Cg rfl)|exact Bk (Bk rfl)) (by decide) (by decide)) (@cW _ _ _ _ _ _ _ _ _ _ _ _ (@cJ _ _ _ _ _ _ _ _ _ (@cW _ _ _ _ _ _ _ _ _ _ _ _ cG (@cW _ _ _ _ _ _ _ _ _ _ _ _ cT (@cW _ _ _ _ _ _ _ _ _ _ _ _ (@cJ _ _ _ _ _ _ _ _ _ (@cW _ _ _ _ _ _ _ _ _ _ _ _ (@vv _ _ _ _ _ 0 rfl (by first|exact Cg rfl|exact Bk (Cg rfl)|exact Bk (Bk rfl)) (by decide) (by decide)) cR rfl rfl rfl)) (@cW _ _ _ _ _ _ _ _ _ _ _ _ (@cJ _ _ _ _ _ _ _ _ _ cR) cR rfl rfl rfl) rfl rfl rfl) rfl rfl rfl) rfl rfl rfl)) (@cW _ _ _ _ _ _ _ _ _ _ _ _ (@cJ _ _ _ _ _ _ _ _ _ (@cW _ _ _ _ _ _ _ _ _ _ _ _ cG (@cW _ _ _ _ _ _ _ _ _ _ _ _ cT (@cW _ _ _ _ _ _ _ _ _ _ _ _ cT cR rfl rfl rfl) rfl rfl rfl) rfl rfl rfl)) cR rfl rfl rfl) rfl rfl rfl) rfl rfl rfl)) (@cW _ _ _ _ _ _ _ _ _ _ _ _ (@cJ _ _ _ _ _ _ _ _ _ (@cW _ _ _ _ _ _ _ _ _ _ _ _ (@vv _ _ _ _ _ 0 rfl (by first|exact Cg rfl|exact Bk (Cg rfl)|exact Bk (Bk rfl)) (by decide) (by decide)) (@cW _ _ _ _ _ _ _ _ _ _ _ _ (@cJ _ _ _ _ _ _ _ _ _ (@cW _ _ _ _ _ _ _ _ _ _ _ _ cG (@cW _ _ _ _ _ _ _ _ _ _ _ _ cT (@cW _ _ _ _ _ _ _ _ _ _ _ _ (@cJ _ _ _ _ _ _ _ _ _ (@cW _ _ _ _ _ _ _ _ _ _ _ _ (@vv _ _ _ _ _ 0 rfl (by first|exact Cg rfl|exact Bk (Cg rfl)|exact Bk (Bk rfl)) (by decide) (by decide)) cR rfl rfl rfl)) (@cW _ _ _ _ _ _ _ _ _ _ _ _ (@XD _ _ _ 2 _ _ rfl) cR rfl rfl rfl) rfl rfl rfl) rfl rfl rfl) rfl rfl rfl)) cR rfl rfl rfl) rfl rfl rfl)) cR rfl rfl rfl) rfl rfl rfl) rfl))) rfl (by first|exact .inl rfl|exact .inr rfl) (by decide) rfl (by first|exact .inl rfl|exact .inr rfl|assumption))
  refine cS ?_ ?_
  ·exact(@ZQ _ _ _ _ _ _ _ _ _ _ _ _ _ _ _ _ _ Ef Eg (LA (K:=K) rfl) P6 (pv 1) (@cH _ _ _ _ _ _ _ (@cW _ _ _ _ _ _ _ _ _ _ _ _ (@bX _ _ _ _ _ _ (@bR _ _ _ _ _ _ _ (@cH _ _ _ _ _ _ _ (@cW _ _ _ _ _ _ _ _ _ _ _ _ (@XD _ _ _ 3 _ _ rfl) (@cW _ _ _ _ _ _ _ _ _ _ _ _ (@cJ _ _ _ _ _ _ _ _ _ (@cW _ _ _ _ _ _ _ _ _ _ _ _ (@vv _ _ _ _ _ 0 rfl (by first|exact Cg rfl|exact Bk (Cg rfl)|exact Bk (Bk rfl)) (by decide) (by decide)) (@cW _ _ _ _ _ _ _ _ _ _ _ _ (@XD _ _ _ 2 _ _ rfl) cR rfl rfl rfl) rfl rfl rfl)) (@cW _ _ _ _ _ _ _ _ _ _ _ _ (@cJ _ _ _ _ _ _ _ _ _ (@cW _ _ _ _ _ _ _ _ _ _ _ _ (@vv _ _ _ _ _ 0 rfl (by first|exact Cg rfl|exact Bk (Cg rfl)|exact Bk (Bk rfl)) (by decide) (by decide)) (@cW _ _ _ _ _ _ _ _ _ _ _ _ (@XD _ _ _ 2 _ _ rfl) cR rfl rfl rfl) rfl rfl rfl)) (@cW _ _ _ _ _ _ _ _ _ _ _ _ (@cJ _ _ _ _ _ _ _ _ _ (@cW _ _ _ _ _ _ _ _ _ _ _ _ (@vv _ _ _ _ _ 0 rfl (by first|exact Cg rfl|exact Bk (Cg rfl)|exact Bk (Bk rfl)) (by decide) (by decide)) (@cW _ _ _ _ _ _ _ _ _ _ _ _ (@XD _ _ _ 2 _ _ rfl) cR rfl rfl rfl) rfl rfl rfl)) cR rfl rfl rfl) rfl rfl rfl) rfl rfl rfl) rfl rfl rfl) rfl))) cR rfl rfl rfl) rfl) rfl rfl rfl rfl rfl rfl rfl)
  refine cS ?_ ?_
  ·exact(@ZQ _ _ _ _ _ _ _ _ _ _ _ _ _ _ _ _ _ Ef Eg (LA (K:=K) rfl) P6 (pv 1) (@cH _ _ _ _ _ _ _ (@cW _ _ _ _ _ _ _ _ _ _ _ _ (@bX _ _ _ _ _ _ (@bR _ _ _ _ _ _ _ (@cH _ _ _ _ _ _ _ (@cW _ _ _ _ _ _ _ _ _ _ _ _ (@cJ _ _ _ _ _ _ _ _ _ (@cW _ _ _ _ _ _ _ _ _ _ _ _ (@vv _ _ _ _ _ 0 rfl (by first|exact Cg rfl|exact Bk (Cg rfl)|exact Bk (Bk rfl)) (by decide) (by decide)) (@cW _ _ _ _ _ _ _ _ _ _ _ _ (@XD _ _ _ 2 _ _ rfl) cR rfl rfl rfl) rfl rfl rfl)) (@cW _ _ _ _ _ _ _ _ _ _ _ _ (@bL _ _ _ _ _ _ _ _ _ _ _ _ _ _ _ _ _ NF T7 (@cJ _ _ _ _ _ _ _ _ _ (@cW _ _ _ _ _ _ _ _ _ _ _ _ (@vv _ _ _ _ _ 0 rfl (by first|exact Cg rfl|exact Bk (Cg rfl)|exact Bk (Bk rfl)) (by decide) (by decide)) cR rfl rfl rfl)) cT rfl) (@cW _ _ _ _ _ _ _ _ _ _ _ _ (@cJ _ _ _ _ _ _ _ _ _ (@cW _ _ _ _ _ _ _ _ _ _ _ _ (@vv _ _ _ _ _ 0 rfl (by first|exact Cg rfl|exact Bk (Cg rfl)|exact Bk (Bk rfl)) (by decide) (by decide)) (@cW _ _ _ _ _ _ _ _ _ _ _ _ (@cJ _ _ _ _ _ _ _ _ _ (@cW _ _ _ _ _ _ _ _ _ _ _ _ cG (@cW _ _ _ _ _ _ _ _ _ _ _ _ cT (@cW _ _ _ _ _ _ _ _ _ _ _ _ (@bL _ _ _ _ _ _ _ _ _ _ _ _ _ _ _ _ _ NF T7 (@cJ _ _ _ _ _ _ _ _ _ (@cW _ _ _ _ _ _ _ _ _ _ _ _ (@vv _ _ _ _ _ 0 rfl (by first|exact Cg rfl|exact Bk (Cg rfl)|exact Bk (Bk rfl)) (by decide) (by decide)) cR rfl rfl rfl)) cT rfl) (@cW _ _ _ _ _ _ _ _ _ _ _ _ (@bL _ _ _ _ _ _ _ _ _ _ _ _ _ _ _ _ _ NF T7 (@cJ _ _ _ _ _ _ _ _ _ (@cW _ _ _ _ _ _ _ _ _ _ _ _ (@vv _ _ _ _ _ 0 rfl (by first|exact Cg rfl|exact Bk (Cg rfl)|exact Bk (Bk rfl)) (by decide) (by decide)) cR rfl rfl rfl)) cT rfl) cR rfl rfl rfl) rfl rfl rfl) rfl rfl rfl) rfl rfl rfl)) cR rfl rfl rfl) rfl rfl rfl)) cR rfl rfl rfl) rfl rfl rfl) rfl rfl rfl) rfl))) cR rfl rfl rfl) rfl) rfl rfl rfl rfl rfl rfl rfl)
  refine cS ?_ ?_
  ·exact(@ZQ _ _ _ _ _ _ _ _ _ _ _ _ _ _ _ _ _ Ef Eg (LA (K:=K) rfl) P6 (pv 1) (@cH _ _ _ _ _ _ _ (@cW _ _ _ _ _ _ _ _ _ _ _ _ (@bX _ _ _ _ _ _ (@bR _ _ _ _ _ _ _ (@cH _ _ _ _ _ _ _ (@cW _ _ _ _ _ _ _ _ _ _ _ _ (@cJ _ _ _ _ _ _ _ _ _ (@cW _ _ _ _ _ _ _ _ _ _ _ _ (@vv _ _ _ _ _ 0 rfl (by first|exact Cg rfl|exact Bk (Cg rfl)|exact Bk (Bk rfl)) (by decide) (by decide)) (@cW _ _ _ _ _ _ _ _ _ _ _ _ (@cJ _ _ _ _ _ _ _ _ _ (@cW _ _ _ _ _ _ _ _ _ _ _ _ cG (@cW _ _ _ _ _ _ _ _ _ _ _ _ cT (@cW _ _ _ _ _ _ _ _ _ _ _ _ (@cJ _ _ _ _ _ _ _ _ _ (@cW _ _ _ _ _ _ _ _ _ _ _ _ (@vv _ _ _ _ _ 0 rfl (by first|exact Cg rfl|exact Bk (Cg rfl)|exact Bk (Bk rfl)) (by decide) (by decide)) cR rfl rfl rfl)) (@cW _ _ _ _ _ _ _ _ _ _ _ _ (@cJ _ _ _ _ _ _ _ _ _ cR) cR rfl rfl rfl) rfl rfl rfl) rfl rfl rfl) rfl rfl rfl)) (@cW _ _ _ _ _ _ _ _ _ _ _ _ (@XD _ _ _ 2 _ _ rfl) cR rfl rfl rfl) rfl rfl rfl) rfl rfl rfl)) (@cW _ _ _ _ _ _ _ _ _ _ _ _ (@cJ _ _ _ _ _ _ _ _ _ (@cW _ _ _ _ _ _ _ _ _ _ _ _ (@vv _ _ _ _ _ 0 rfl (by first|exact Cg rfl|exact Bk (Cg rfl)|exact Bk (Bk rfl)) (by decide) (by decide)) (@cW _ _ _ _ _ _ _ _ _ _ _ _ (@cJ _ _ _ _ _ _ _ _ _ (@cW _ _ _ _ _ _ _ _ _ _ _ _ cG (@cW _ _ _ _ _ _ _ _ _ _ _ _ cT (@cW _ _ _ _ _ _ _ _ _ _ _ _ cT cR rfl rfl rfl) rfl rfl rfl) rfl rfl rfl)) (@cW _ _ _ _ _ _ _ _ _ _ _ _ (@XD _ _ _ 2 _ _ rfl) cR rfl rfl rfl) rfl rfl rfl) rfl rfl rfl)) cR rfl rfl rfl) rfl rfl rfl) rfl))) cR rfl rfl rfl) rfl) rfl rfl rfl rfl rfl rfl rfl)
  exact cN (@cE _ _ _ _ _ _ _ _ _ (@bL _ _ _ _ _ _ _ _ _ _ _ _ _ _ _ _ _ ZK aC (@vo _ _ _ _ _ 1 rfl (by first|exact Cg rfl|exact Bk (Cg rfl)|exact Bk (Bk rfl)) (by decide) (by decide)) (@bX _ _ _ _ _ _ (@bR _ _ _ _ _ _ _ (@cH _ _ _ _ _ _ _ (@cW _ _ _ _ _ _ _ _ _ _ _ _ (@cJ _ _ _ _ _ _ _ _ _ (@cW _ _ _ _ _ _ _ _ _ _ _ _ (@vv _ _ _ _ _ 0 rfl (by first|exact Cg rfl|exact Bk (Cg rfl)|exact Bk (Bk rfl)) (by decide) (by decide)) (@cW _ _ _ _ _ _ _ _ _ _ _ _ (@XD _ _ _ 2 _ _ rfl) (@cW _ _ _ _ _ _ _ _ _ _ _ _ (@cJ _ _ _ _ _ _ _ _ _ (@cW _ _ _ _ _ _ _ _ _ _ _ _ cG (@cW _ _ _ _ _ _ _ _ _ _ _ _ cT (@cW _ _ _ _ _ _ _ _ _ _ _ _ cT cR rfl rfl rfl) rfl rfl rfl) rfl rfl rfl)) cR rfl rfl rfl) rfl rfl rfl) rfl rfl rfl)) (@cW _ _ _ _ _ _ _ _ _ _ _ _ (@bX _ _ _ _ _ _ (@bR _ _ _ _ _ _ _ (@cH _ _ _ _ _ _ _ (@cW _ _ _ _ _ _ _ _ _ _ _ _ (@vv _ _ _ _ _ 0 rfl (by first|exact Cg rfl|exact Bk (Cg rfl)|exact Bk (Bk rfl)) (by decide) (by decide)) cR rfl rfl rfl) rfl))) (@cW _ _ _ _ _ _ _ _ _ _ _ _ (@cJ _ _ _ _ _ _ _ _ _ (@cW _ _ _ _ _ _ _ _ _ _ _ _ (@vv _ _ _ _ _ 0 rfl (by first|exact Cg rfl|exact Bk (Cg rfl)|exact Bk (Bk rfl)) (by decide) (by decide)) (@cW _ _ _ _ _ _ _ _ _ _ _ _ cT cR rfl rfl rfl) rfl rfl rfl)) (@cW _ _ _ _ _ _ _ _ _ _ _ _ YN (@cW _ _ _ _ _ _ _ _ _ _ _ _ (@cJ _ _ _ _ _ _ _ _ _ (@cW _ _ _ _ _ _ _ _ _ _ _ _ (@vv _ _ _ _ _ 0 rfl (by first|exact Cg rfl|exact Bk (Cg rfl)|exact Bk (Bk rfl)) (by decide) (by decide)) (@cW _ _ _ _ _ _ _ _ _ _ _ _ (@XD _ _ _ 2 _ _ rfl) cR rfl rfl rfl) rfl rfl rfl)) cR rfl rfl rfl) rfl rfl rfl) rfl rfl rfl) rfl rfl rfl) rfl rfl rfl) rfl))) rfl) rfl)
noncomputable abbrev Nx32:List Uq:=["_law_script","_law_town","_law_tree_here","_law_block_here","_law_load","_law_deep","_law_again","_law_last","_law_bad","_law_odd","_law_cells","_law_inner","_law_good"]
abbrev Qx32:List Uq:=["_law_script"]
def YM:b6 Nx32 Qx32 (cO (top 86)):=Y0
def Zf(F:XU K "law" "law" (top 86) f fd)(T:Txt K mg)(b:bJ P w K mg base "is_tree" 21 EM [] cB f_x10)(g:bJ P w K mg base "_law_pick" 4 PN [1] b8 f_x16)(h:bJ P w K mg base "_law_block" 8 Qx21 [1] ZX f_x21)(k:bJ P w K mg base "_law_tree" 15 Qx29 [1] ZA f_x29)(e:bJ P w K mg base "_law_ask" 23 Qx30 [] a6 f_x30)(l:bJ P w K mg base "_law_bad_trees" 1 Qx31 [] aB f_x31):aA P w K mg base CX0 24 f fd Qx32 (spV K [] 1 KB):=
 RL P w K mg base Nx32 Qx32 23 Vh [] F YM λ_ _ _ _ _ _ a c m=>by
  refine cS ?_ ?_
  ·exact(bM YM.nd (U3 (bR (cH cR))))
  refine cS ?_ ?_
  ·exact(OS (i:=2) (j:=3) rfl YM.nd rfl rfl (by decide) rfl rfl (bB (cM (bK k a (cQ (vv 0) (bH (pv 1) (cQ cT cL)))))) (bB (cM (bK h a (cQ (vv 0) (bH (pv 1) (cQ cT cL)))))) rfl)
  refine cS ?_ ?_
  ·exact(bC (VU (WX (bS WK UN (bK b a (cQ (vv 2) cL)) ZT) (YO (bS WK UN (bK b a (cQ (vv 3) cL)) ZT))))
   (cN (cE ZT))
   bY)
  refine cS ?_ ?_
  ·exact(@Yd _ _ _ _ _ _ _ _ _ (@cM _ _ _ _ _ _ _ _ (@XD _ _ _ 2 _ _ rfl) rfl) (@SG _ _ _ _ _ _ _ _ rfl rfl (@Z4 _ _ _ _ _ _ _ (@bN _ _ _ _ _ _ YM.nd rfl (by first|exact .inl rfl|exact .inr rfl) (by decide) (by first|exact .inl rfl|exact .inr rfl|assumption)) (@Z4 _ _ _ _ _ _ _ (@bN _ _ _ _ _ _ YM.nd rfl (by first|exact .inl rfl|exact .inr rfl) (by decide) (by first|exact .inl rfl|exact .inr rfl|assumption)) VR rfl) rfl) rfl rfl) rfl rfl rfl)
  refine cS ?_ ?_
  ·exact (WF Cz rfl (XZ (by rfl) T.n_range cT) (bN YM.nd)
   (cN (bM YM.nd (bB (cM (cJ (cW (cJ (cW cG (cW cT (cW (vv 5) (cW (cJ (cW (vv 4) cR)) cR))))) cR)))))))
  refine cS ?_ ?_
  ·exact(bC (VU (WX (bS WK UN (bK b a (cQ (cM (cJ (cW cT (cW (bL ZK aC (cJ (cW (vv 4) cR)) (vv 5)) cR)))) cL)) ZT) (YO (bS WK UN (bK b a (cQ (cM (cJ (cW cT (cW (cJ (cW (vv 4) (cW (cJ (cW cG (cW cT (cW (vv 5) (cW (cJ cR) cR))))) cR))) cR)))) cL)) ZT))))
   (cN (cE ZT))
   bY)
  refine cS ?_ ?_
  ·exact(bM YM.nd (bB (cM (cJ cR))))
  refine cS ?_ ?_
  ·exact (WF Cz rfl (XZ (by rfl) T.n_range cT) (bN YM.nd)
   (cN (bM YM.nd (bB (cM (cJ (cW (cJ (cW cG (cW cT (cW (cJ (cW (vv 4) cR)) (cW (vv 7) cR))))) cR)))))))
  refine cS ?_ ?_
  ·exact(bC (VU (WX (bS WK UN (bK b a (cQ (cM (cJ (cW cT (cW (bL ZK aC (cJ (cW (vv 4) cR)) (vv 7)) cR)))) cL)) ZT) (YO (bS WK UN (bK b a (cQ (cM (cJ (cW cT (cW (cJ (cW (vv 4) (cW (cJ (cW cG (cW cT (cW (cJ cR) (cW (vv 7) cR))))) cR))) cR)))) cL)) ZT))))
   (cN (cE ZT))
   bY)
  refine cS ?_ ?_
  ·exact(bM YM.nd (bB (cM (bK g a (cQ (vv 0) (bH (pv 1) (cQ (cM (bK l a (cQ (vv 4) cL))) cL)))))))
  refine cS ?_ ?_
  ·exact(@bC _ _ _ _ _ _ _ _ _ _ _ (@VU _ _ _ _ _ _ (@WX _ _ _ _ _ _ _ _ _ _ _ (@bS _ _ _ _ _ _ _ _ _ _ _ _ _ _ _ _ _ WK UN (@bK _ _ _ _ _ _ _ _ _ _ _ _ _ _ _ _ _ b a (@cQ _ _ _ _ _ _ _ _ _ (@cM _ _ _ _ _ _ _ _ (@cJ _ _ _ _ _ _ _ _ _ (@cW _ _ _ _ _ _ _ _ _ _ _ _ cT (@cW _ _ _ _ _ _ _ _ _ _ _ _ (@vv _ _ _ _ _ 8 rfl (by first|exact Cg rfl|exact Bk (Cg rfl)|exact Bk (Bk rfl)) (by decide) (by decide)) cR rfl rfl rfl) rfl rfl rfl)) rfl) cL rfl) rfl (by decide) rfl (by decide) rfl rfl) ZT (UG _) rfl) (@YO _ _ _ _ _ _ _ (@bS _ _ _ _ _ _ _ _ _ _ _ _ _ _ _ _ _ (OY c) O8 (@bX _ _ _ _ _ _ (YY ["_law_bad","_law_what"] [8] 1 (@XZ _ _ _ _ _ _ _ _ _ _ _ (by rfl) T.n_range cT rfl rfl) (λd _ _ _ _=>⟨(@bN _ _ _ _ _ _ d rfl (by first|exact .inl rfl|exact .inr rfl) (by decide) (by first|exact .inl rfl|exact .inr rfl|assumption)),VO,(@cM _ _ _ _ _ _ _ _ (@bK _ _ _ _ _ _ _ _ _ _ _ _ _ _ _ _ _ e a (@cQ _ _ _ _ _ _ _ _ _ (@vv _ _ _ _ _ 1 rfl (by first|exact Cg rfl|exact Bk (Cg rfl)|exact Bk (Bk rfl)) (by decide) (by decide)) (@cQ _ _ _ _ _ _ _ _ _ (@cM _ _ _ _ _ _ _ _ (@cJ _ _ _ _ _ _ _ _ _ (@cW _ _ _ _ _ _ _ _ _ _ _ _ cT (@cW _ _ _ _ _ _ _ _ _ _ _ _ (@vv _ _ _ _ _ 0 rfl (by first|exact Cg rfl|exact Bk (Cg rfl)|exact Bk (Bk rfl)) (by decide) (by decide)) cR rfl rfl rfl) rfl rfl rfl)) rfl) (@cQ _ _ _ _ _ _ _ _ _ YN cL rfl) rfl) rfl) rfl (by decide) rfl (by decide) rfl rfl) rfl)⟩))) (@bL _ _ _ _ _ _ _ _ _ _ _ _ _ _ _ _ _ NF T7 (@bX _ _ _ _ _ _ (@F4 _ _ _ 1 _ _ _ rfl (by decide))) cT rfl) (UG _) rfl)))) (@cN _ _ _ _ _ (@cE _ _ _ _ _ _ _ _ _ ZT rfl)) bY)
  refine cS ?_ ?_
  ·exact(@bM _ _ _ _ _ _ _ _ _ YM.nd (@bB _ _ _ _ _ _ (@cM _ _ _ _ _ _ _ _ (@bK _ _ _ _ _ _ _ _ _ _ _ _ _ _ _ _ _ g a (@cQ _ _ _ _ _ _ _ _ _ (@vv _ _ _ _ _ 0 rfl (by first|exact Cg rfl|exact Bk (Cg rfl)|exact Bk (Bk rfl)) (by decide) (by decide)) (@bH _ _ _ _ _ _ _ _ (pv 1) (@cQ _ _ _ _ _ _ _ _ _ (@bX _ _ _ _ _ _ (@F4 _ _ _ 2 _ _ _ rfl (by decide))) cL rfl) rfl) rfl) rfl (by decide) rfl (by decide) rfl rfl) rfl)) rfl (by first|exact .inl rfl|exact .inr rfl) (by decide) rfl (by first|exact .inl rfl|exact .inr rfl|assumption))
  refine cS ?_ ?_
  ·exact(@bC _ _ _ _ _ _ _ _ _ _ _ (@VU _ _ _ _ _ _ (@WX _ _ _ _ _ _ _ _ _ _ _ (@bS _ _ _ _ _ _ _ _ _ _ _ _ _ _ _ _ _ WK UN (@bK _ _ _ _ _ _ _ _ _ _ _ _ _ _ _ _ _ b a (@cQ _ _ _ _ _ _ _ _ _ (@vv _ _ _ _ _ 9 rfl (by first|exact Cg rfl|exact Bk (Cg rfl)|exact Bk (Bk rfl)) (by decide) (by decide)) cL rfl) rfl (by decide) rfl (by decide) rfl rfl) ZT (UG _) rfl) (@YO _ _ _ _ _ _ _ (@bS _ _ _ _ _ _ _ _ _ _ _ _ _ _ _ _ _ (OY c) O8 (@bX _ _ _ _ _ _ (YY ["_law_odd","_law_what"] [9] 1 (@XZ _ _ _ _ _ _ _ _ _ _ _ (by rfl) T.n_range cT rfl rfl) (λd _ _ _ _=>⟨(@bN _ _ _ _ _ _ d rfl (by first|exact .inl rfl|exact .inr rfl) (by decide) (by first|exact .inl rfl|exact .inr rfl|assumption)),VO,(@cM _ _ _ _ _ _ _ _ (@bK _ _ _ _ _ _ _ _ _ _ _ _ _ _ _ _ _ e a (@cQ _ _ _ _ _ _ _ _ _ (@vv _ _ _ _ _ 1 rfl (by first|exact Cg rfl|exact Bk (Cg rfl)|exact Bk (Bk rfl)) (by decide) (by decide)) (@cQ _ _ _ _ _ _ _ _ _ (@vv _ _ _ _ _ 0 rfl (by first|exact Cg rfl|exact Bk (Cg rfl)|exact Bk (Bk rfl)) (by decide) (by decide)) (@cQ _ _ _ _ _ _ _ _ _ YN cL rfl) rfl) rfl) rfl (by decide) rfl (by decide) rfl rfl) rfl)⟩))) (@bL _ _ _ _ _ _ _ _ _ _ _ _ _ _ _ _ _ NF T7 (@bX _ _ _ _ _ _ (@F4 _ _ _ 1 _ _ _ rfl (by decide))) cT rfl) (UG _) rfl)))) (@cN _ _ _ _ _ (@cE _ _ _ _ _ _ _ _ _ ZT rfl)) bY)
  refine cS ?_ ?_
  ·exact(WF Cz rfl (VT rfl (bX (bR (cH (cW YN (cW (cJ (cW cT cR)) (cW (bL NF T7 (bX (bR (cH (cW cT cR)))) cT) (cW (bL NF T7 (bX (bR (cH (cW cT cR)))) cT) (cW (bL NF T7 (bX (bR (cH (cW cG cR)))) cT) cR))))))))) (bN YM.nd)
   (cN (bC (bS (OY c) O8 (bK e a (cQ cT (cQ (vv 2) (cQ (vv 10) cL)))) (cJ (cW cG (cW cT cR))))
   (cN (cE ZT))
   bY)))
  refine cS ?_ ?_
  ·exact(@bM _ _ _ _ _ _ _ _ _ YM.nd (@bB _ _ _ _ _ _ (@cM _ _ _ _ _ _ _ _ (@cJ _ _ _ _ _ _ _ _ _ (@cW _ _ _ _ _ _ _ _ _ _ _ _ (@vv _ _ _ _ _ 4 rfl (by first|exact Cg rfl|exact Bk (Cg rfl)|exact Bk (Bk rfl)) (by decide) (by decide)) (@cW _ _ _ _ _ _ _ _ _ _ _ _ (@cJ _ _ _ _ _ _ _ _ _ (@cW _ _ _ _ _ _ _ _ _ _ _ _ cG (@cW _ _ _ _ _ _ _ _ _ _ _ _ cT (@cW _ _ _ _ _ _ _ _ _ _ _ _ cT cR rfl rfl rfl) rfl rfl rfl) rfl rfl rfl)) (@cW _ _ _ _ _ _ _ _ _ _ _ _ (@XD _ _ _ 3 _ _ rfl) cR rfl rfl rfl) rfl rfl rfl) rfl rfl rfl)) rfl)) rfl (by first|exact .inl rfl|exact .inr rfl) (by decide) rfl (by first|exact .inl rfl|exact .inr rfl|assumption))
  refine cS ?_ ?_
  ·exact(bM YM.nd (bB (cM (cJ (cW (vv 4) (cW (cJ (cW cG (cW cT (cW (cJ (cW (vv 4) (cW (cJ (cW cG (cW cT (cW cT cR)))) cR))) (cW (vv 11) cR))))) (cW (cJ (cW cG (cW cT (cW cT cR)))) cR)))))))
  exact cN (cE (WW (XY Xe Yn (bK b a (cQ (cM (cJ (cW cT (cW (vv 12) cR)))) cL)) ZT) (VQ (XY Xe Yn (bK b a (cQ (cM (cJ (cW cT (cW (cJ (cW (vv 4) (cW (cJ (cW cG (cW cT (cW (bL NF T7 (cJ (cW (vv 4) cR)) cT) (cW (bL NF T7 (cJ (cW (vv 4) cR)) cT) cR))))) cR))) cR)))) cL)) ZT))))
end
end RR
namespace L2
open PySem
def VA(a b:String):Be a=Be b↔a=b:=by
 refine⟨λh=>?_,λh=>by rw[h]⟩;rw[Hy,Hy]at h;injection h with h;have h2:a.toList.map Qb=b.toList.map Qb:=by simpa using h
 have f:a.toList=b.toList:=by
  have inj:∀(l m:List Char),l.map Qb=m.map Qb->l=m:=by
   intro l;induction l with
   |nil=>intro m h;cases m with
    |nil=>rfl
    |cons=>cases h
   | cons c l d => intro m h;cases m with
    |nil=>cases h
    |cons e m=>
     simp only[Ba,Jz]at h;rw[d m h.2,Char.toNat_inj.mp h.1]
  exact inj _ _ h2
 exact String.toList_inj.mp f
def B4(a:String):Ub (Be a)=ba:=by
 unfold Ub;rw[Hy];simp only[List.all_toArray,Tz,Dn,Ti,decide_eq_true_eq];intro c _;have:=c.valid
 rcases this with h|⟨_,h⟩
 ·show c.val.toNat<1114112
  have:c.val.toNat<55296:=h
  lia
 ·exact h
def QA(k:Nat)(d:cU):Prop:=d.isD=ba/\d.pd.canLay0=ba/\d.pd.depth<=k
def YB{k:Nat}{i:Int}:QA k (.int i):=⟨rfl,rfl,Er _⟩
def Xu{k:Nat}{i:Bool}:QA k (.bl i):=⟨rfl,rfl,Er _⟩
def YR{k:Nat}{a:String}:QA k (.str (Be a)):=⟨rfl,by simp[cU.pd,Go,B4],Er _⟩
theorem JT{k:Nat}:∀{ds:List cU},(∀d∈ds,QA k d)->GO ds=ba/\Ik (pds ds)=ba/\Fm (pds ds)<=k
 |[],_=>⟨rfl,rfl,Er _⟩
 |d::ds,h=>by obtain⟨g,f,j⟩:=h d Au;obtain⟨c,b,i⟩:=JT λe a=>h e (An _ a);refine⟨by simp[GO,g,c],by simp[pds,Ik,f,b],?_⟩;simp only[pds,Fm];lia
def OP{k:Nat}{ds:List cU}(h:∀d∈ds,QA k d):QA (k+1) (.tup ds):=by obtain⟨a,b,c⟩:=JT h;exact⟨by simpa[cU.isD]using a,by simpa[cU.pd,Go]using b,by simp only[cU.pd,Ir];lia⟩
def YC{k:Nat}{ds:List cU}(h:∀d∈ds,QA k d):QA (k+1) (.lst ds):=by obtain⟨a,b,c⟩:=JT h;exact⟨by simpa[cU.isD]using a,by simpa[cU.pd,Go]using b,by simp only[cU.pd,Ir];lia⟩
def QA.ok{k:Nat}{d:cU}(h:QA k d)(hk:k<=64:=by decide):LJ d=ba:=by
 unfold LJ Fc;simp only[h.1,h.2.1,Tr,Ad,decide_eq_true_eq];have:=h.2.2
 lia
@[simp] theorem tZ{a:String}:LJ (.str (Be a))=ba:=(YR (k:=0)).ok
def YD{k:Nat}:∀d∈([]:List cU),QA k d:=λ_ h=>nomatch h
def Z0{k:Nat}{d:cU}{ds:List cU}(h:QA k d)(t:∀d∈ds,QA k d):∀e∈d::ds,QA k e:=λe a=>by
 rcases Am.mp a with z|z
 ·rw[z];exact h
 ·exact t e z
@[simp] theorem eN{i j:Int}:eqD (.int i) (.int j)=decide (i=j):=by show(i==j)=_;rw[Mt]
@[simp] theorem sO{a b:String}:eqD (.str (Be a)) (.str (Be b))=decide (a=b):=by show(Be a==Be b)=_;rw[Mt];simp only[VA]
@[simp] theorem wz{i j:Int}:WD (.int i) (.int j)=b3 (.bl (decide (i=j))):=by unfold WD;simp
@[simp] theorem uB{i j:Int}:RK (.int i) (.int j)=b3 (.bl (!decide (i=j))):=by unfold RK;simp
@[simp] theorem wa{a b:String}:WD (.str (Be a)) (.str (Be b))=b3 (.bl (decide (a=b))):=by unfold WD;simp
@[simp] theorem rV{a b:String}:RK (.str (Be a)) (.str (Be b))=b3 (.bl (!decide (a=b))):=by unfold RK;simp
def Xs{j k:Nat}{d e:cU}(h:QA j d)(h':QA k e)(a:j<=64:=by decide)(hk:k<=64:=by decide):WD d e=b3 (.bl (eqD d e)):=by unfold WD;rw[h.ok a,h'.ok hk];rfl
def DF{j k:Nat}{d e:cU}(h:QA j d)(h':QA k e)(a:j<=64:=by decide)(hk:k<=64:=by decide):RK d e=b3 (.bl (!eqD d e)):=by unfold RK;rw[h.ok a,h'.ok hk];rfl
def Vt{j k:Nat}{neg:Bool}{d:cU}{ds:List cU}(h:QA j d)(h':∀e∈ds,QA k e)(a:j<=64:=by decide)(hk:k+1<=64:=by decide):ZV neg d (.tup ds)=b3 (.bl (if neg then !K6 d ds else K6 d ds)):=by unfold ZV;simp[h.ok a,(OP h').ok hk]
def JP{j k:Nat}{neg:Bool}{d:cU}{ds:List cU}(h:QA j d)(h':∀e∈ds,QA k e)(a:j<=64:=by decide)(hk:k+1<=64:=by decide):ZV neg d (.lst ds)=b3 (.bl (if neg then !K6 d ds else K6 d ds)):=by unfold ZV;simp[h.ok a,(YC h').ok hk]
@[simp] theorem wm{d:cU}:K6 d []=bb:=(rfl)
@[simp] theorem Vq{d e:cU}{ds:List cU}:K6 d (e::ds)=(eqD e d || K6 d ds):=(rfl)
@[simp] theorem C5{neg:Bool}{a b c:String}:ZV neg (.str (Be a)) (.tup [.str (Be b),.str (Be c)])=b3 (.bl (if neg then !(decide (b=a) || decide (c=a))else decide (b=a) || decide (c=a))):=by rw[Vt (j:=0) YR (Z0 (YR (k:=0)) (Z0 YR YD))];simp
@[simp] theorem Wy{neg:Bool}{a b c d e:String}:ZV neg (.str (Be a)) (.tup [.str (Be b),.str (Be c),.str (Be d),.str (Be e)])=b3 (.bl (if neg then !(decide (b=a) || (decide (c=a) || (decide (d=a) || decide (e=a))))else decide (b=a) || (decide (c=a) || (decide (d=a) || decide (e=a))))):=by rw[Vt (j:=0) YR (Z0 (YR (k:=0)) (Z0 YR (Z0 YR (Z0 YR YD))))];simp
@[simp] theorem tD{neg:Bool}{a b c:Int}:ZV neg (.int a) (.tup [.int b,.int c])=b3 (.bl (if neg then !(decide (b=a) || decide (c=a))else decide (b=a) || decide (c=a))):=by rw[Vt (j:=0) YB (Z0 (YB (k:=0)) (Z0 YB YD))];simp
def VY(ns:List Int):cU:=.lst (ns.map .int)
def XH(n:Nat):cU:=.lst (Aw n (.int 0))
theorem K8:∀ns:List Int,GO (ns.map cU.int)=ba
 |[]=>rfl
 |n::ns=>by simp[GO,cU.isD,K8 ns]
theorem HF:∀ns:List Int,pds (ns.map cU.int)=ns.map Po
 |[]=>rfl
 |n::ns=>by simp[pds,cU.pd,HF ns]
def pR(ns:List Int):LJ (.lst (ns.map .int))=ba:=by unfold LJ;simp only[cU.isD,K8,cU.pd,HF,Tr];exact HZ ns
def T9(ns:List Int):WD (.lst (ns.map .int)) (.lst [])=b3 (.bl ns.isEmpty):=by unfold WD;rw[pR,show LJ (.lst [])=ba from by decide+kernel];cases ns<;>rfl
theorem K5:∀n:Nat,U0 (Aw n (.int 0))=ba
 |0=>rfl
 |n+1=>by simp[Dz,U0,cU.hard,K5 n]
@[simp] theorem uS(n:Nat):UE (XH n)=ba:=K5 n
theorem KS:∀(ds:List cU) (a b:cU) (r:Int) (s:Sl),∃r' s',WP (gN 3) (aV 2 (xV (f2 G9 (fV 2) (fC (.int 1000003))))) ds [.va a,.va b,.va (.int r),s]=b3 (.nx [.va a,.va b,.va (.int r'),s'])
 |[],a,b,r,s=>⟨r,s,rfl⟩
 |d::ds,a,b,r,s=>by obtain⟨r',s',h⟩:=KS ds a b (r/1000003) (.va d);exact⟨r',s',by simp[cDiv,h]⟩
def OJ{ns:List Int}{i:Int}(c:0<=i)(h1:i<ns.length):∃r∈ns,T2 (ns.map cU.int) i=b3 (.int r):=by obtain⟨x,a,e⟩:=EQ (xs:=ns.map cU.int) c (by simpa using h1);obtain⟨r,b,rfl⟩:=Cu.mp a;exact⟨r,b,e⟩
def jG(ns:List Int)(k:Nat)(hl:ns.length<=63)(hk:k<1000000):∃r,Z7 [VY ns,.int k]=b3 (.int r,[]):=by
 unfold Z7;rw[bD];unfold WC UY VY;by_cases h:(k:Int)<ns.length
 ·obtain ⟨r,_,e⟩ := OJ (ns := ns) (i := k) (by lia) h
  exact⟨r,by simp[a9,h,e]⟩
 ·cases ns with
  |nil=>
   have o:¬((k:Int)<0):=by lia
   have e:WD (.lst []) (.lst [])=b3 (.bl ba):=T9 [];exact⟨0,by simp[a9,o,e]⟩
  |cons m g=>
   generalize a:m::g=ns at*;have f:(0:Int)<ns.length:=by rw[<-a];simp
   have n:=Hw (k:Int) (show(ns.length:Int)≠0 by lia);have d:=Ff (k:Int) f;obtain⟨r,_,e⟩:=OJ (ns:=ns) n d;have l:ns.isEmpty=bb:=by rw[<-a];rfl
   have q:0<=(k:Int)/ns.length:=Int.ediv_nonneg (by lia) (by lia);have j: -4611686018427387904<=(if(60:Int)<(k:Int)/ns.length then 60 else(k:Int)/ns.length)/\(if(60:Int)<(k:Int)/ns.length then 60 else(k:Int)/ns.length)<4611686018427387904:=by split<;>lia
   obtain⟨r',s',p⟩:=KS (ZG 0 (if(60:Int)<(k:Int)/ns.length then 60 else(k:Int)/ns.length).toNat) (.lst (ns.map .int)) (.int k) r .no;have c:0<ns.length:=by lia
   have b:(ns.length:Int)<1073741824:=by lia
   exact⟨r*31+k+r'*101,by simp[a9,h,T9,l,f,c,b,e,cDiv,j,p,cMul]⟩
noncomputable def cel(ns:List Int)(k:Nat):Int:=match Z7 [VY ns,.int k]with
 |some (.int r,_)=>r
 |_=>0
def lM(ns:List Int)(k:Nat)(hl:ns.length<=63)(hk:k<1000000):Z7 [VY ns,.int k]=b3 (.int (cel ns k),[]):=by obtain⟨r,e⟩:=jG ns k hl hk;unfold cel;rw[e]
noncomputable def MJ(ns:List Int)(n:Nat)(b:Int):Int:=((cel ns (n+1)*1103515245+7919*(((n+1:Nat)):Int)+12345) % 2147483647) ^ 5 % 2147483647 % 999983 % b
def SM(ns:List Int)(n:Nat){b:Int}(h:0<b):0<=MJ ns n b:=Hw _ (by lia)
def MZ(ns:List Int)(n:Nat){b:Int}(h:0<b):MJ ns n b<b:=Ff _ h
def pF(ns:List Int)(n:Nat)(b:Int)(hl:ns.length<=63)(d:n<900000)(c:0<b):YG [VY ns,.int ((n+1:Nat):Int),.int b]=b3 (.int (MJ ns n b),[]):=by
 have e:=lM ns (n+1) hl (by lia);unfold YG;rw[bD];unfold UA MJ;have g:=Hw (cel ns (n+1)*1103515245+7919*((n+1:Nat):Int)+12345) (show(2147483647:Int)≠0 by decide);have f:=Ff (cel ns (n+1)*1103515245+7919*((n+1:Nat):Int)+12345) (show(0:Int)<2147483647 by decide);generalize hz:(cel ns (n+1)*1103515245+7919*((n+1:Nat):Int)+12345) % 2147483647=z at*;have a:z.natAbs<18446744073709551616:=by lia
 generalize hk:((n+1:Nat):Int)=k at*;simp[a9,e,cMul,cPow,hz,a,c]
def Y9(ns:List Int)(n:Nat)(b:Int)(hl:ns.length<=63)(f:n<900000)(g:0<b):b5 [VY ns,XH n,.int b]=b3 (.int (MJ ns n b),[XH (n+1)]):=by
 have e:=pF ns n b hl f g;unfold b5;rw[bD];unfold RV;have c:XH n=.lst (Aw n (.int 0)):=rfl;have a:XH (n+1)=.lst (Aw n (.int 0)++[.int 0]):=by unfold XH;rw[List.replicate_succ']
 rw[a,c];have d:n<16777216:=by lia
 push_cast at e
 simp[a9,d,e]
def YS(ns:List Int)(n:Nat)(xs:List cU)(hl:ns.length<=63)(b:n<900000)(d:0<xs.length):∃x∈xs,b8 [VY ns,XH n,.lst xs]=b3 (x,[XH (n+1)]):=by
 have a:(0:Int)<xs.length:=by lia
 obtain⟨x,c,e⟩:=EQ (xs:=xs) (SM ns n a) (MZ ns n a);refine⟨x,c,?_⟩;unfold b8;rw[bD];unfold RX;simp[a9,Y9 ns n _ hl b a,e]
def CV(ns:List Int)(n:Nat)(b:Int)(hl:ns.length<=63)(a:n<900000)(c:0<b)(tl:Ev):cI 3 [1] b5 (aE (fV 0) (aO 1 (aE (fC (.int b)) b7))) (.va (VY ns):: .ow (XH n)::tl)=b3 (.int (MJ ns n b),.va (VY ns):: .ow (XH (n+1))::tl):=by simp[Y9 ns n b hl a c]
abbrev Sn(m:Nat)(d:cU):Prop:=∃(ks:List aR) (vs:List Int),d=.dct ks (vs.map .int)/\ks.length=vs.length/\ks.Nodup/\ks.length<=m
abbrev MT(n:Nat)(d:cU):Prop:=Sn (8*n) d
def MT.mono{n m:Nat}{d:cU}(h:MT n d)(b:n<=m):MT m d:=by obtain⟨ks,vs,h1,h2,a,c⟩:=h;exact⟨ks,vs,h1,h2,a,by lia⟩
theorem Xm:∀(ks:List aR) (vs:List Int) (k:aR) (q:Int),∃r,(a8 ks (vs.map .int) k).getD (.int q)=.int r
 |[],_,_,q=>⟨q,by simp[a8]⟩
 |_::_,[],_,q=>⟨q,by simp[a8]⟩
 | k' :: ks,v :: vs,k,q => by
  by_cases h:k'=k
  ·exact⟨v,by simp[a8,h]⟩
  ·obtain⟨r,e⟩:=Xm ks vs k q
   exact⟨r,by simp only[Ba,a8,if_neg h];exact e⟩
theorem putI:∀(ks:List aR) (vs:List Int) (k:aR) (p:Int),ks.length=vs.length->ks.Nodup->∃(a:List aR) (b:List Int),YE ks (vs.map .int) k (.int p)=(a,b.map .int)/\a.length=b.length/\a.Nodup/\a.length<=ks.length+1/\(∀z∈a,z=k∨z∈ks)/\a8 a (b.map .int) k=b3 (.int p)
 |[],[],k,p,_,_=>⟨[k],[p],by simp[YE],rfl,by simp,by simp,by simp,by simp[a8]⟩
 | k' :: ks,v :: vs,k,p,hl,c => by
  by_cases h:k'=k
  ·subst h
   exact⟨k'::ks,p::vs,by simp[YE],by simpa using hl,c,by simp,by simp,by simp[a8]⟩
  ·obtain ⟨a,b,e,h1,h2,g,d,f⟩ := putI ks vs k p (by simpa using hl) (Cb.mp c).2
   refine⟨k'::a,v::b,by simp only[Ba,YE,if_neg h,e],by simp[h1],?_,by simp;lia,?_,by simp only[Ba,a8,if_neg h];exact f⟩
   ·refine Cb.mpr ⟨λz => ?_,h2⟩
    rcases d _ z with y|y
    ·exact h y
    ·exact(Cb.mp c).1 y
   ·intro z hz
    rcases Am.mp hz with y|y
    ·exact .inr (by rw[y];exact Au)
    ·exact(d z y).imp id (An _)
def HI(ns:List Int)(n:Nat)(sn:cU)(x:Uq)(room:Int)(hl:ns.length<=63)(r:n<800000)(j:MT n sn)(g:0<room):∃p d,0<=p/\p<room/\MT (n+2) d/\aL [VY ns,XH n,sn,.str x,.int room]=b3 (.int p,[XH (n+2),d]):=by
 obtain⟨ks,vs,rfl,h1,h2,u⟩:=j;obtain⟨a,k⟩:=Xm ks vs (.inr x) (MJ ns n room);obtain⟨y,i,q⟩:=YS ns (n+1) [.int 1,.int 1,.int 1,.int 0,.int 3] hl (by lia) (by simp);obtain⟨b,rfl⟩:∃b,y=.int b:=by simp only[Am,Ax,or_false]at i;rcases i with h|h|h|h|h<;>exact⟨_,h⟩
 obtain⟨f,c,e,o,m,t,s,l⟩:=putI ks vs (.inr x) ((a+b) % room) h1 h2;refine⟨(a+b) % room,.dct f (c.map .int),Hw _ (by lia),Ff _ g,⟨f,c,rfl,o,m,by lia⟩,?_⟩;have hk:ks.length<16777216:=by lia
 unfold aL;rw[bD];unfold UB;simp[a9,Y9 ns n room hl (by lia) g,k,q,g,hk,h2,e,l]
inductive aS(M:Int->Prop):cU->Prop
 |number {n:Int}:0<=n->n<=999->aS M (.tup [.str "number",.int n])
 |two {x:String}{a b:Int}:x∈["over","plus","minus","times","least","most","less"]->M a->M b->aS M (.tup [.str x,.int a,.int b])
 |pick {c a b:Int}:M c->M a->M b->aS M (.tup [.str "pick",.int c,.int a,.int b])
 |load {p:Int}:0<=p->p<=63->aS M (.tup [.str "load",.int p])
 |take {p c a:Int}:0<=p->p<=63->M c->M a->aS M (.tup [.str "take",.int p,.int c,.int a])
 |store {p a:Int}:0<=p->p<=63->M a->aS M (.tup [.str "store",.int p,.int a])
 |put {p a c:Int}:0<=p->p<=63->M a->M c->aS M (.tup [.str "put",.int p,.int a,.int c])
def jM(ns:List Int)(n:Nat)(made:List Int)(hl:ns.length<=63)(k:n<800000)(l:0<made.length)(s:Sl):∃a b c,a∈made/\b∈made/\c∈made∧ZO 3 1 (gN 3) UW (f2 bE (fV 2) (f2 oMax (fC (.int 0)) (f2 Q1 (f2 Q1 (f1 Y1 (fV 2)) (fC (.int 1))) (cI 3 [1] b5 (aE (fV 0) (aO 1 (aE (fC (.int 6)) b7))))))) [.int 0,.int 1,.int 2] [] [.va (VY ns),.ow (XH n),.va (.lst (made.map .int))]=b3 ([.int a,.int b,.int c],[.va (VY ns),.ow (XH (n+3)),.va (.lst (made.map .int))]):=by
 have one:∀m,∃a∈made,T2 (made.map cU.int) (if(made.length:Int)-1-MJ ns m 6>0 then(made.length:Int)-1-MJ ns m 6 else 0)=b3 (.int a):=λm=>by
  have:=SM ns m (b:=6) (by decide)
  exact OJ (by split<;>lia) (by split<;>lia)
 obtain⟨a,h,f⟩:=one n;obtain⟨b,g,e⟩:=one (n+1);obtain⟨c,hc,d⟩:=one (n+2);refine⟨a,b,c,h,g,hc,?_⟩;have d0:=Y9 ns n 6 hl (by lia) (by decide);have j:=Y9 ns (n+1) 6 hl (by lia) (by decide);have i:=Y9 ns (n+2) 6 hl (by lia) (by decide);simp only[gt_iff_lt,Int.sub_pos]at f e d;simp[d0,j,i,f,e,d]
def onC(x:String):Prop:=x= "load" ∨x= "take" ∨x= "store" ∨x= "put"
def PlOK(room:Int)(row:cU):Prop:=∀(x:String) (p:Int) (t:List cU),row=.tup (.str x:: .int p::t)->onC x->p<room
def Q3{room p:Int}{x:String}{t:List cU}(h:p<room):PlOK room (.tup (.str x:: .int p::t)):=λy q u e _=>by simp only[cU.tup.injEq,Jz,cU.int.injEq]at e;lia
def FJ{room:Int}{x:String}{t:List cU}(h:¬onC x):PlOK room (.tup (.str x::t)):=λy q u e a=>by simp only[cU.tup.injEq,Jz,cU.str.injEq,VA]at e;rw[<-e.1]at a;exact absurd a h
def EG{x:String}(a:x∈["over","plus","minus","times","least","most","less"]):¬onC x:=λh=>by simp only[Am,Ax,or_false]at a;rcases a with rfl|rfl|rfl|rfl|rfl|rfl|rfl<;>rcases h with h|h|h|h<;>exact absurd h (by decide)
def FX{s1 a:VS}{δ δ1:Ev}(h:s1 δ=b3 (.nx δ1)):cD s1 a δ=a δ1:=by rw[Y2,h,SV]
def Yw(ns:List Int)(n:Nat)(made:List Int)(sn:cU)(room:Int)(hl:ns.length<=63)(Y:n<700000)(k:MT n sn)(H:0<room)(Q:room<=64):∃row n' d,n<=n'/\n'<=n+10/\MT n' d/\aS (· ∈made) row/\PlOK room row/\YH [VY ns,XH n,.lst (made.map .int),sn,.int room]=b3 (row,[XH n',d]):=by
  have d0:=CV ns n 13 hl (by lia) (by decide);have k0:=SM ns n (b:=13) (by decide);have k1:=MZ ns n (b:=13) (by decide);generalize MJ ns n 13=e at*;unfold YH;rw[bD];unfold P0;by_cases J:made.isEmpty=ba∨e=0
  · have u := CV ns (n + 1) 2 hl (by lia) (by decide)
    have l:made.isEmpty=ba∨(made.isEmpty=bb/\e=0):=by
      cases C:made.isEmpty with
      |true=>exact .inl rfl
      | false => rcases J with h | h
                 · rw[C]at h;cases h
                 · exact .inr ⟨rfl,h⟩
    by_cases h2:MJ ns (n+1) 2=0
    · have K := CV ns (n + 2) 1000 hl (by lia) (by decide)
      obtain⟨y,t,q⟩:=YS ns (n+3) [.int 0,.int 1,.int 2,.int 5,.int 999,.int (MJ ns (n+2) 1000)] hl (by lia) (by simp);obtain⟨b,rfl,F,E⟩:∃b,y=.int b/\0<=b/\b<=999:=by
        have:=SM ns (n+2) (b:=1000) (by decide)
        have:=MZ ns (n+2) (b:=1000) (by decide)
        simp only[Am,Ax,or_false]at t;rcases t with h|h|h|h|h|h<;>exact⟨_,h,by lia,by lia⟩
      refine⟨.tup [.str "number",.int b],n+4,sn,by lia,by lia,k.mono (by lia),.number F E,FJ (by unfold onC;decide),?_⟩;rcases l with h|⟨h,h'⟩
      · simp[a9,↓d0,T9,h,↓u,h2,↓K,q]
      · simp[a9,↓d0,T9,h,h',↓u,h2,↓K,q]
    · obtain ⟨p,d,j,i,f,g⟩ := HI ns (n + 2) sn "load" room hl (by lia) (k.mono (by lia)) H
      refine⟨.tup [.str "load",.int p],n+4,d,by lia,by lia,f,.load j (by lia),Q3 i,?_⟩;rcases l with h|⟨h,h'⟩
      · simp[a9,↓d0,T9,h,↓u,h2,g]
      · simp[a9,↓d0,T9,h,h',↓u,h2,g]
  · obtain⟨C,D⟩:=not_or.mp J
    have m:made.isEmpty=bb:=by simpa using C
    have T:0<made.length:=by
      cases made with
      |nil=>cases m
      |cons=>simp
    obtain⟨a,b,c,o,I,hc,R⟩:=jM ns (n+1) made hl (by lia) T .no;rw[show a9 [1,3] 9 [VY ns,XH n,.lst (made.map .int),sn,.int room]=[.va (VY ns),.ow (XH n),.va (.lst (made.map .int)),.ow sn,.va (.int room),.no,.no,.no,.no] from rfl,FX (δ1:=[.va (VY ns),.ow (XH (n+1)),.va (.lst (made.map .int)),.ow sn,.va (.int room),.va (.int e),.no,.no,.no]) (by simp[↓d0]),FX (δ1:=[.va (VY ns),.ow (XH (n+1)),.va (.lst (made.map .int)),.ow sn,.va (.int room),.va (.int e),.no,.no,.no]) (by simp[T9,m,D]),FX (δ1:=[.va (VY ns),.ow (XH (n+4)),.va (.lst (made.map .int)),.ow sn,.va (.int room),.va (.int e),.va (.int a),.va (.int b),.va (.int c)]) (by simp[aM,R])]
    have N:(e=1∨e=2)∨e=3∨(e=4∨e=5)∨e=6∨e=7∨(8<=e/\e<=12):=by lia
    have r:∀x:Uq,∃p d,0<=p/\p<=63/\p<room/\MT (n+6) d/\∀s tl,cI 5 [1,2] aL (aE (fV 0) (aO 1 (aO 3 (aE (fC (.str x)) (aE (fV 4) b7))))) (.va (VY ns):: .ow (XH (n+4))::s:: .ow sn:: .va (.int room)::tl)=b3 (.int p,.va (VY ns):: .ow (XH (n+6))::s:: .ow d:: .va (.int room)::tl):=λx=>by obtain⟨p,d,j,i,f,g⟩:=HI ns (n+4) sn x room hl (by lia) (k.mono (by lia)) H;exact⟨p,d,j,by lia,i,f,λs tl=>by simp[g]⟩
    rcases N with h|h|h|h|h|h
    · have w : (decide (1 = e) || decide (2 = e)) = ba := by rcases h with rfl | rfl <;> decide
      obtain⟨p,d,j,i,p2,f,g⟩:=r "load";exact⟨.tup [.str "load",.int p],n+6,d,by lia,by lia,f,.load j i,Q3 p2,by simp[↓g,w]⟩
    · subst h
      obtain⟨p,d,j,i,p2,f,g⟩:=r "take";exact⟨.tup [.str "take",.int p,.int c,.int a],n+6,d,by lia,by lia,f,.take j i hc o,Q3 p2,by simp[↓g]⟩
    · have v : (decide (4 = e) || decide (5 = e)) = ba := by rcases h with rfl | rfl <;> decide
      have z:¬e=3:=by lia
      have B:¬1=e:=by lia
      have A:¬2=e:=by lia
      obtain⟨p,d,j,i,p2,f,g⟩:=r "store";exact⟨.tup [.str "store",.int p,.int a],n+6,d,by lia,by lia,f,.store j i o,Q3 p2,by simp[↓g,z,B,A,v]⟩
    · subst h
      obtain⟨p,d,j,i,p2,f,g⟩:=r "put";exact⟨.tup [.str "put",.int p,.int a,.int c],n+6,d,by lia,by lia,f,.put j i o hc,Q3 p2,by simp[↓g]⟩
    · subst h
      exact⟨.tup [.str "pick",.int c,.int a,.int b],n+4,sn,by lia,by lia,k.mono (by lia),.pick hc o I,FJ (by unfold onC;decide),by simp⟩
    · have S := CV ns (n + 4) 7 hl (by lia) (by decide)
      have q0:=SM ns (n+4) (b:=7) (by decide);have q1:=MZ ns (n+4) (b:=7) (by decide);obtain⟨y,t,q⟩:=EQ (xs:=["over","plus","minus","times","least","most","less"].map λs:String=>cU.str (Be s)) q0 (by simpa using q1);obtain⟨x,G,rfl⟩:=Cu.mp t;simp only[Ba,Eu]at q;have X:¬e=1:=by lia
      have W:¬e=2:=by lia
      have z:¬e=3:=by lia
      have V:¬e=4:=by lia
      have U:¬e=5:=by lia
      have M:¬e=6:=by lia
      have L:¬e=7:=by lia
      have B:¬1=e:=by lia
      have A:¬2=e:=by lia
      have P:¬4=e:=by lia
      have O:¬5=e:=by lia
      exact⟨.tup [.str x,.int a,.int b],n+5,sn,by lia,by lia,k.mono (by lia),.two G o I,FJ (EG G),by simp[z,M,L,B,A,P,O,↓S,q]⟩
inductive Kd where
 |w|p|n
 deriving DecidableEq
def Nm(kds:List Kd)(k:Kd)(a:Int):Prop:=0<=a/\kds[a.toNat]?=b3 k
def Nm.lt{kds:List Kd}{k:Kd}{a:Int}(h:Nm kds k a):a<kds.length:=by
 have:=(Ag.mp h.2).1
 have:=h.1
 lia
def Nm.snoc{kds:List Kd}{k j:Kd}{a:Int}(h:Nm kds k a):Nm (kds++[j]) k a:=⟨h.1,by rw[Ao (Ag.mp h.2).1];exact h.2⟩
def Nm.new{kds:List Kd}{k:Kd}:Nm (kds++[k]) k kds.length:=⟨by lia,by simp⟩
noncomputable def LH(k:Kd):cU->Kd
 |.tup (.str x::_)=>if x= "store" ∨x= "put" then .n else k
 |_=>.n
def aS.imp{M M':Int->Prop}{row:cU}(h:aS M row)(f:∀a,M a->M' a):aS M' row:=by
 cases h with
 |number a b=>exact .number a b
 |two a b c=>exact .two a (f _ b) (f _ c)
 |pick a b c=>exact .pick (f _ a) (f _ b) (f _ c)
 |load a b=>exact .load a b
 |take a b c d=>exact .take a b (f _ c) (f _ d)
 |store a b c=>exact .store a b (f _ c)
 |put a b c d=>exact .put a b (f _ c) (f _ d)
def aS.hard{M:Int->Prop}{row:cU}(h:aS M row):row.hard=ba:=by
 cases h<;>simp[cU.hard,U0]
@[simp] theorem tz{i:Int}:JS (.int i)=b3 (.int (-i)):=(rfl)
def TH{ds:List cU}{k:Nat}(h:k<=ds.length):V0 ds (b3 (k:Int)) b4=ds.drop k:=by unfold V0;rw[HT.D3,HT.HS,Hv h,Cn (by simp)]
def QR{ds:List cU}{k:Nat}:V0 ds b4 (b3 (k:Int))=ds.take k:=by
 unfold V0;rw[HT.D3,HT.HS];simp only[Ni,Nat.sub_zero];by_cases h:k<=ds.length
 ·rw[Hv h]
 ·rw[Nat.min_eq_right (by lia),Cn (by lia),Cn (by lia)]
@[simp] theorem vq{d:cU}{ds:List cU}:V0 (d::ds) (b3 1) b4=ds:=TH (k:=1) (by simp)
@[simp] theorem v8{d e:cU}{ds:List cU}:V0 (d::e::ds) (b3 2) b4=ds:=TH (k:=2) (by simp)
@[simp] theorem tM{ds:List cU}:V0 ds b4 (b3 2)=ds.take 2:=QR (k:=2)
@[simp] theorem uz{ds:List cU}:V0 ds b4 (b3 1)=ds.take 1:=QR (k:=1)
@[simp] theorem wc{α:Type}{xs:List α}{x:α}:T2 (xs++[x]) (-1)=b3 x:=by
 unfold T2 AZ;rw[if_neg (by decide),if_pos (by simp;lia)];have e:(-1+((xs++[x]).length:Int)).toNat=xs.length:=by simp;lia
 show(xs++[x])[(-1+((xs++[x]).length:Int)).toNat]?=b3 x;rw[e];simp
@[simp] theorem vj{α:Type}{x:α}{xs:List α}:T2 (x::xs) 0=b3 x:=by rw[T3 (by decide) (by simp)];rfl
@[simp] theorem sK{α:Type}{x y:α}{xs:List α}:T2 (x::y::xs) 1=b3 y:=by rw[T3 (by decide) (by simp;lia)];rfl
@[simp] theorem sG{α:Type}{x y z:α}{xs:List α}:T2 (x::y::z::xs) 2=b3 z:=by rw[T3 (by decide) (by simp;lia)];rfl
def nN{k:Kd}{x:String}{t:List cU}(a:x∉["store","put"]):LH k (.tup (.str x::t))=k:=by simp only[Am,Ax,or_false,not_or]at a;simp[LH,VA,a]
def nT{k:Kd}{x:String}{t:List cU}(a:x= "store" ∨x= "put"):LH k (.tup (.str x::t))=.n:=by
 rcases a with rfl|rfl<;>simp[LH,VA]
def NW{M:Int->Prop}{row:cU}(h:aS M row):∃(x:String) (t:List cU),row=.tup (.str x::t)/\x∉["wide","gather","shuffle"]:=by
 cases h with
 |two a _ _=>
  simp only[Am,Ax,or_false]at a;rcases a with rfl|rfl|rfl|rfl|rfl|rfl|rfl<;>exact⟨_,_,rfl,by decide⟩
 |_=>exact⟨_,_,rfl,by decide⟩
@[simp] theorem vB(n lo hi:Int):a7 [.int n,.int lo,.int hi]=b3 (.bl (decide (lo<=n)&&decide (n<=hi)),[]):=by unfold a7;rw[bD];unfold RU;simp[a9];by_cases h:lo<=n<;>simp[h]
def BJ{x:String}(h:x∈["over","plus","minus","times","least","most","less"]):Z3 [.str x]=b3 (.tup [.str "row",.str "row"],[]):=by simp only[Am,Ax,or_false]at h;rcases h with rfl|rfl|rfl|rfl|rfl|rfl|rfl<;>kernel_rfl
@[simp] theorem wd:Z3 [.str "number"]=b3 (.tup [.str "word"],[]):=by kernel_rfl
@[simp] theorem vM:Z3 [.str "pick"]=b3 (.tup [.str "row",.str "row",.str "row"],[]):=by kernel_rfl
@[simp] theorem sE:Z3 [.str "load"]=b3 (.tup [.str "place"],[]):=by kernel_rfl
@[simp] theorem uR:Z3 [.str "take"]=b3 (.tup [.str "place",.str "row",.str "row"],[]):=by kernel_rfl
@[simp] theorem wt:Z3 [.str "store"]=b3 (.tup [.str "place",.str "row"],[]):=by kernel_rfl
@[simp] theorem tP:Z3 [.str "put"]=b3 (.tup [.str "place",.str "row",.str "row"],[]):=by kernel_rfl
def Ab(able:List Bool)(a:Int):Prop:=0<=a/\able[a.toNat]?=b3 ba
def Yo{able:List Bool}{a:Int}(h:Ab able a):ZB [.int a,.lst (able.map .bl)]=b3 (.bl ba,[]):=by
 have c:=(Ag.mp h.2).1;have b:=h.1;have h1:a<=(able.length:Int)-1:=by lia
 have h2:T2 (able.map cU.bl) a=b3 (.bl ba):=by rw[T3 b (by simp;lia)];simp[h.2]
 unfold ZB;rw[bD];unfold R0;simp[a9,b,h1,h2]
def YW{able:List Bool}{a:Int}(h:Ab able a):WA [.str "row",.int a,.lst (able.map .bl)]=b3 (.bl ba,[]):=by unfold WA;rw[bD];unfold M6;simp[a9,Yo h]
def AU{d:cU}{a:Int}(h:0<=a)(h':a<=999):WA [.str "word",.int a,d]=b3 (.bl ba,[]):=by unfold WA;rw[bD];unfold M6;simp[a9,XN,h,h']
def U8{d:cU}{a:Int}(h:0<=a)(h':a<=63):WA [.str "place",.int a,d]=b3 (.bl ba,[]):=by unfold WA;rw[bD];unfold M6;simp[a9,U5,h,h']
@[simp] theorem si:MF []=b3 []:=(rfl)
@[simp] theorem sC{b:Bool}{ds:List cU}:MF (.bl b::ds)=(MF ds).map λks=>b::ks:=(rfl)
@[simp] theorem sJ{g:List Bool->Bool}{ds:List cU}:Vu g (.lst ds)=(MF ds).map λks=>.bl (g ks):=(rfl)
@[simp] theorem sH{ds:List cU}:SX ds []=[]:=by cases ds<;>rfl
@[simp] theorem t0{d e:cU}{ds es:List cU}:SX (d::ds) (e::es)=.tup [d,e]::SX ds es:=(rfl)
def eQ{able:List Bool}{row:cU}(h:aS (Ab able) row):VW [row,.lst (able.map .bl)]=b3 (.bl ba,[]):=by
 unfold VW;rw[bD];unfold M7;cases h with
 |number a b=>simp[a9,aM,AU a b]
 |two e a b=>simp[a9,aM,BJ e,YW a,YW b]
 |pick a b c=>simp[a9,aM,YW a,YW b,YW c]
 |load a b=>simp[a9,aM,U8 a b]
 |take a b c d=>simp[a9,aM,U8 a b,YW c,YW d]
 |store a b c=>simp[a9,aM,U8 a b,YW c]
 |put a b c d=>simp[a9,aM,U8 a b,YW c,YW d]
theorem MY(a:Nat)(fe:VF)(δ:Ev)(f:cU->cU)(b:δ.length=a):∀(ds acc:List cU),(∀d∈ds,fe (δ++[Sl.va d])=b3 (f d,δ++[Sl.va d]))->acc.length+ds.length<16777216->ZO a 1 (gN a) UW fe ds acc δ=b3 (acc++ds.map f,δ)
 |[],acc,_,_=>by simp
 |d::ds,acc,h,hl=>by
  have i:(δ++[Sl.no]).set a (.va d)=δ++[Sl.va d]:=by rw[Fu _ _ (by lia)];simp[b]
  have k:(δ++[Sl.va d]).take a=δ:=by rw[Dx (by lia),Cn (by lia)]
  have j:acc.length<16777216:=by simp at hl;lia
  have c:=MY a fe δ f b ds (acc++[f d]) (λe g=>h e (An _ g)) (by simp at hl⊢;lia);simp only[QP,Vj,GL,i,HL,nW,Vw,h d Au,Vs,if_pos j,k,c];simp
def dE(k:Nat):(ZG 0 k).length=k:=by simp[ZG]
theorem GY:∀(ks:List aR) (a:List cU) (i:Nat) (k:aR),ks.Nodup->ks.length=a.length->ks[i]?=b3 k->a8 ks a k=a[i]?
 |[],_,i,k,_,_,e=>by simp at e
 |k'::ks,[],i,k,_,hl,_=>by simp at hl
 |k'::ks,w::a,0,k,_,_,e=>by simp at e;simp[a8,e]
 |k'::ks,w::a,i+1,k,c,hl,e=>by
  have d:ks[i]?=b3 k:=by simpa using e
  have b:¬k'=k:=λz=>(Cb.mp c).1 (by rw[z];exact Dt d);have:=GY ks a i k (Cb.mp c).2 (by simpa using hl) d
  simp[a8,b,this]
noncomputable def cnt:cU->Nat
 |.tup (.str x::_)=>if x= "number" ∨x= "load" then 0 else if x= "store" then 1 else if x= "pick" then 3 else 2
 |_=>0
def dne{x:String}(b:x∈["over","plus","minus","times","least","most","less"]){y:String}(a:(["over","plus","minus","times","least","most","less"].contains y)=bb):(¬x=y)/\¬y=x:=by
 have h:¬x=y:=λe=>by subst e;rw[List.contains_iff_mem.mpr b]at a;cases a
 exact⟨h,λe=>h e.symm⟩
def E7{M:Int->Prop}{row:cU}(h:aS M row):∃as:List Int,(∀a∈as,M a)/\as.length=cnt row/\aK [row]=b3 (.lst (as.map .int),[])/\aK [row]=b3 (.lst (as.map .int),[]):=by
 cases h with
 | @number n _ _=>
  refine⟨[],(λ_ h=>nomatch h),by kernel_rfl,?_,?_⟩
  ·kernel_rfl
  ·kernel_rfl
 | @two x a b e d f=>
  refine⟨[a,b],by simp[d,f],?_,?_,?_⟩
  ·simp only[Am,Ax,or_false]at e
   rcases e with rfl|rfl|rfl|rfl|rfl|rfl|rfl<;>kernel_rfl
  ·simp only[Am,Ax,or_false]at e
   rcases e with rfl|rfl|rfl|rfl|rfl|rfl|rfl<;>kernel_rfl
  ·simp only[Am,Ax,or_false]at e
   rcases e with rfl|rfl|rfl|rfl|rfl|rfl|rfl<;>kernel_rfl
 | @pick c a b hc d f=>
  refine⟨[c,a,b],by simp[hc,d,f],by kernel_rfl,?_,?_⟩
  ·kernel_rfl
  ·kernel_rfl
 | @load p _ _=>
  refine⟨[],(λ_ h=>nomatch h),by kernel_rfl,?_,?_⟩
  ·kernel_rfl
  ·kernel_rfl
 | @take p c a _ _ hc d=>
  refine⟨[c,a],by simp[hc,d],by kernel_rfl,?_,?_⟩
  ·kernel_rfl
  ·kernel_rfl
 | @store p a _ _ d=>
  refine⟨[a],by simp[d],by kernel_rfl,?_,?_⟩
  ·kernel_rfl
  ·kernel_rfl
 | @put p a c _ _ d hc=>
  refine⟨[a,c],by simp[d,hc],by kernel_rfl,?_,?_⟩
  ·kernel_rfl
  ·kernel_rfl
inductive Bl:List Kd->List cU->List Kd->Prop
 |nil {kds:List Kd}:Bl kds [] kds
 |cons {kds am:List Kd}{row:cU}{rows:List cU}:aS (Nm kds .w) row->Bl (kds++[LH .w row]) rows am->Bl kds (row::rows) am
def Bl.snoc{kds b:List Kd}{rows:List cU}{row:cU}(h:Bl kds rows b)(r:aS (Nm b .w) row):Bl kds (rows++[row]) (b++[LH .w row]):=by
 induction h with
 |nil=>exact .cons r .nil
 |cons a _ c=>exact .cons a (c r)
def Bl.len{kds a:List Kd}{rows:List cU}(h:Bl kds rows a):a.length=kds.length+rows.length:=by
 induction h with
 |nil=>simp
 |cons _ _ b=>simp only[b,Bw,Bx,Mm];lia
def Bl.all{kds c:List Kd}{rows:List cU}(h:Bl kds rows c):∀d∈rows,aS (Nm c .w) d:=by
 induction h with
 |nil=>intro d hd;cases hd
 | @cons kds c row rows a t b=>
  intro d hd;rcases Am.mp hd with rfl|hd
  ·refine a.imp λx f => ?_
   have:∀{k k':List Kd}{e:List cU},Bl k e k'->Nm k .w x->Nm k' .w x:=by
    intro k k' e h;induction h with
    |nil=>exact id
    |cons _ _ b=>exact λz=>b z.snoc
   exact this t f.snoc
  ·exact b d hd
theorem P1:∀ns:List Int,U1 (ns.map .int)=b3 ns
 |[]=>rfl
 |i::ns=>by show(U1 (ns.map .int)).map (λns=>i::ns)=_;rw[P1 ns];rfl
theorem DL{n:Int}:∀{ns:List Int},n∈ns->∃j:Nat,VH n ns=b3 j/\j<ns.length
 | i :: ns,h => by
  unfold VH;by_cases e:i=n
  ·rw[if_pos e];exact⟨0,rfl,by simp⟩
  ·rw[if_neg e]
   obtain⟨j,h1,h2⟩:=DL (ns:=ns) (by
    rcases Am.mp h with z|z
    ·exact absurd z.symm e
    ·exact z)
   exact⟨j+1,by rw[h1];rfl,by simp;lia⟩
noncomputable def nst(ns:List Int)(n:Nat)(rows:List cU)(made:List Int)(sn:cU)(room:Int)(last:cU)(fi:Int)(bs:List Int)(b a:Sl):Ev:=
 [.va (VY ns),.ow (XH n),.va (.lst rows),.va (.lst (made.map .int)),.ow sn,.va (.int room),.va last,.va (.int fi),.ow (.lst (bs.map .int)),b,a]
def qL(ns:List Int)(n:Nat)(rows:List cU)(made:List Int)(sn:cU)(room:Int)(last:cU)(fi:Int)(bs:List Int)(a:Int)(d:Sl)(hl:ns.length<=63)(o:n<700000)(e:a∈made)(r:bs.length<100):∃b∈made,∃m,Y6 (nst ns n rows made sn room last fi bs (.va (.int a)) d)=b3 (.nx (nst ns (n+1) rows made sn room last fi (bs++[b]) (.va (.int a)) m)):=by
 obtain⟨j,k,i⟩:=DL e;obtain⟨x,g,ex⟩:=YS ns n [.int 1,.int 1,.int 1,.int 1,.int (-1),.int 0,.int 2] hl (by lia) (by simp);obtain⟨p,rfl⟩:∃p,x=.int p:=by simp only[Am,Ax,or_false]at g;rcases g with rfl|rfl|rfl|rfl|rfl|rfl|rfl<;>exact⟨_,rfl⟩
 have hi:FC (.lst (made.map .int)) (.int a)=b3 (.int j):=by show(U1 (made.map .int)).bind (λns=>(VH a ns).map λj=>cU.int j)=_;rw[P1,Ai,k];rfl
 have c:bs.length<16777216:=by lia
 by_cases h1:0<=(j:Int)+p/\(j:Int)+p<made.length
 ·obtain⟨q,h,eq⟩:=OJ (ns:=made) h1.1 h1.2
  by_cases h2:q=(rows.length:Int)-1
  ·refine⟨a,e,.va (.int (j+p)),?_⟩
   unfold Y6;simp[nst,hi,ex,h1.1,h1.2,eq,h2,c]
  ·refine⟨q,h,.va (.int (j+p)),?_⟩
   unfold Y6;simp[nst,hi,ex,h1.1,h1.2,eq,h2,c]
 ·refine⟨a,e,.va (.int (j+p)),?_⟩
  unfold Y6;by_cases f:0<=(j:Int)+p
  ·have l : ¬ (j : Int) + p < made.length := λz => h1 ⟨f,z⟩
   simp[nst,hi,ex,f,l,c]
  ·simp[nst,hi,ex,f,c]
theorem E9(ns:List Int)(rows:List cU)(made:List Int)(sn:cU)(room:Int)(last:cU)(fi:Int)(hl:ns.length<=63):∀(as:List Int) (n:Nat) (bs:List Int) (g d:Sl),n+as.length<700000->(∀a∈as,a∈made)->bs.length+as.length<100->∃h:List Int,(∀c∈h,c∈made)/\h.length=as.length/\∃f k,WP (gN 9) Y6 (as.map .int) (nst ns n rows made sn room last fi bs g d)=b3 (.nx (nst ns (n+as.length) rows made sn room last fi (bs++h) f k))
 |[],n,bs,g,d,_,_,_=>⟨[],by simp,rfl,g,d,by simp⟩
 | a :: as,n,bs,g,d,p,l,q => by
  simp only[Bx]at p q;obtain⟨b,j,i,e⟩:=qL ns n rows made sn room last fi bs a d hl (by lia) (l a Au) (by lia);obtain⟨h,h1,h2,f,k,m⟩:=E9 ns rows made sn room last fi hl as (n+1) (bs++[b]) (.va (.int a)) i (by lia) (λx o=>l x (An _ o)) (by simp;lia);refine⟨b::h,λc hc=>?_,by simp[h2],f,k,?_⟩
  ·rcases Am.mp hc with rfl|hc
   ·exact j
   ·exact h1 c hc
  rw[Ba,RS,GL,NT,show(nst ns n rows made sn room last fi bs g d).set 9 (.va (.int a))=nst ns n rows made sn room last fi bs (.va (.int a)) d from rfl,e,NU,m];simp[Tn,Qj 1]
def cel4{x:String}(h:onC x):(decide ("load"=x) || (decide ("take"=x) || (decide ("store"=x) || decide ("put"=x))))=ba:=by
 rcases h with rfl|rfl|rfl|rfl<;>decide
def snM{m k:Nat}{d:cU}(h:Sn m d)(hk:m<=k):Sn k d:=by obtain⟨ks,vs,e,h1,h2,a⟩:=h;exact⟨ks,vs,e,h1,h2,by lia⟩
def OO(ns:List Int)(n:Nat)(rows:List cU)(made:List Int)(sn:cU)(room:Int){x:String}{p:Int}{as:List Int}{m:Nat}(hl:ns.length<=63)(A:n<600000)(B:m<8000000)(s:Sn m sn)(j:0<room)(r:onC x)(y:T2 rows (-1)=b3 (.tup (.str x:: .int p::as.map .int)))(t:∀a∈as,a∈made)(E:as.length<=3):∃(q:Int) (b:List Int) (f:cU),0<=q/\q<room/\(∀c∈b,c∈made)/\b.length=as.length/\Sn (m+1) f/\ZM [VY ns,XH n,.lst rows,.lst (made.map .int),sn,.int room]=b3 (.tup (.str x:: .int q::b.map .int),[XH (n+as.length),f]):=by
 obtain⟨b,h1,h2,z,l,e⟩:=E9 ns rows made sn room (.tup (.str x:: .int p::as.map .int)) 2 hl as n [] .no .no (by lia) t (by simp;lia);simp only[nst,Fd,Eu]at e;obtain⟨ks,vs,rfl,k1,k2,k3⟩:=s;obtain⟨g,d,pe,w,v,D,C,u⟩:=putI ks vs (.inr (x:Uq)) ((p+1) % room) k1 k2;have hk:ks.length<16777216:=by lia
 refine⟨(p+1) % room,b,.dct g (d.map .int),Hw _ (by lia),Ff _ j,h1,h2,⟨g,d,rfl,w,v,by lia⟩,?_⟩;unfold ZM;rw[bD,U9.eq_1];have h:=cel4 r;have o:V0 (.str x:: .int p::as.map cU.int) (b3 2) b4=as.map cU.int:=by
  have:=TH (ds:=.str x:: .int p::as.map cU.int) (k:=2) (by simp)
  simpa using this
 have i:2+b.length<=16777216:=by lia
 simp[a9,y,h,o,e,j,hk,k2,pe,u,i]
def off4{x:String}(h:¬onC x):(¬x= "load" /\¬ "load"=x)/\(¬x= "take" /\¬ "take"=x)/\(¬x= "store" /\¬ "store"=x)/\¬x= "put" /\¬ "put"=x:=by refine⟨⟨λz=>h (.inl z),λz=>h (.inl z.symm)⟩,⟨λz=>h (.inr (.inl z)),λz=>h (.inr (.inl z.symm))⟩,⟨λz=>h (.inr (.inr (.inl z))),λz=>h (.inr (.inr (.inl z.symm)))⟩,λz=>h (.inr (.inr (.inr z))),λz=>h (.inr (.inr (.inr z.symm)))⟩
def G7(ns:List Int)(n:Nat)(rows:List cU)(made:List Int)(sn:cU)(room:Int){x:String}{as:List Int}(hl:ns.length<=63)(s:n<600000)(o:¬onC x)(q:T2 rows (-1)=b3 (.tup (.str x::as.map .int)))(p:∀a∈as,a∈made)(t:as.length<=3):∃b:List Int,(∀c∈b,c∈made)/\b.length=as.length/\ZM [VY ns,XH n,.lst rows,.lst (made.map .int),sn,.int room]=b3 (.tup (.str x::b.map .int),[XH (n+as.length),sn]):=by
 obtain⟨b,h1,h2,r,j,e⟩:=E9 ns rows made sn room (.tup (.str x::as.map .int)) 1 hl as n [] .no .no (by lia) p (by simp;lia);simp only[nst,Fd,Eu]at e;refine⟨b,h1,h2,?_⟩;unfold ZM;rw[bD,U9.eq_1];obtain⟨⟨_,i⟩,⟨_,h⟩,⟨_,g⟩,_,f⟩:=off4 o;have m:V0 (.str x::as.map cU.int) (b3 1) b4=as.map cU.int:=by
  have:=TH (ds:=.str x::as.map cU.int) (k:=1) (by simp)
  simpa using this
 have l:V0 (.str x::as.map cU.int) b4 (b3 1)=[.str x]:=by
  have:=QR (ds:=.str x::as.map cU.int) (k:=1)
  simpa using this
 have d:1+b.length<=16777216:=by lia
 simp[a9,q,i,h,g,f,m,l,e,d]
def eE(ns:List Int)(n:Nat)(rows:List cU)(made:List Int)(sn:cU)(room:Int){last:cU}{m:Nat}(hl:ns.length<=63)(o:n<600000)(t:m<8000000)(l:Sn m sn)(s:0<room)(B:room<=64)(r:T2 rows (-1)=b3 last)(ok:aS (· ∈made) last)(A:∀k,last≠ .tup [.str "number",.int k]):∃row n' g,n<=n'/\n'<=n+3/\Sn (m+1) g/\aS (· ∈made) row/\ZM [VY ns,XH n,.lst rows,.lst (made.map .int),sn,.int room]=b3 (row,[XH n',g]):=by
 cases ok with
 |number=>exact absurd rfl (A _)
 | @two x a b y j w=>
  obtain⟨i,h1,h2,e⟩:=G7 ns n rows made sn room (x:=x) (as:=[a,b]) hl o (EG y) r (by simp[j,w]) (by simp);match i,h2 with
  |[c,d],_=>exact⟨_,n+2,sn,by lia,by lia,snM l (by lia),.two y (h1 c (by simp)) (h1 d (by simp)),e⟩
 | @pick c a b hc j w=>
  obtain⟨i,h1,h2,e⟩:=G7 ns n rows made sn room (x:= "pick") (as:=[c,a,b]) hl o (λz=>by rcases z with z|z|z|z<;>exact absurd z (by decide)) r (by simp[j,w,hc]) (by simp);match i,h2 with
  |[c,d,f],_=>exact⟨_,n+3,sn,by lia,by lia,snM l (by lia),.pick (h1 c (by simp)) (h1 d (by simp)) (h1 f (by simp)),e⟩
 | @load p v u=>
  obtain⟨q,i,g,q0,q1,h1,h2,h,e⟩:=OO ns n rows made sn room (x:= "load") (p:=p) (as:=[]) hl o t l s (.inl rfl) r (by simp) (by simp);match i,h2 with
  |[],_=>exact⟨_,n+0,g,by lia,by lia,h,.load q0 (by lia),e⟩
 | @take p c a v u hc j=>
  obtain⟨q,i,g,q0,q1,h1,h2,h,e⟩:=OO ns n rows made sn room (x:= "take") (p:=p) (as:=[c,a]) hl o t l s (.inr (.inl rfl)) r (by simp[hc,j]) (by simp);match i,h2 with
  |[c,d],_=>exact⟨_,n+2,g,by lia,by lia,h,.take q0 (by lia) (h1 c (by simp)) (h1 d (by simp)),e⟩
 | @store p a v u j=>
  obtain⟨q,i,g,q0,q1,h1,h2,h,e⟩:=OO ns n rows made sn room (x:= "store") (p:=p) (as:=[a]) hl o t l s (.inr (.inr (.inl rfl))) r (by simp[j]) (by simp);match i,h2 with
  |[c],_=>exact⟨_,n+1,g,by lia,by lia,h,.store q0 (by lia) (h1 c (by simp)),e⟩
 | @put p a c v u j hc=>
  obtain⟨q,i,g,q0,q1,h1,h2,h,e⟩:=OO ns n rows made sn room (x:= "put") (p:=p) (as:=[a,c]) hl o t l s (.inr (.inr (.inr rfl))) r (by simp[j,hc]) (by simp);match i,h2 with
  |[c,d],_=>exact⟨_,n+2,g,by lia,by lia,h,.put q0 (by lia) (h1 c (by simp)) (h1 d (by simp)),e⟩
structure RI(rows:List cU)(made:List Int)(kds:List Kd):Prop where
 bl:Bl [] rows kds
 ex:∀a,a∈made↔Nm kds .w a
 ml:made.length<=rows.length
def RI.len{rows:List cU}{made:List Int}{kds:List Kd}(h:RI rows made kds):kds.length=rows.length:=by
 have:=h.bl.len
 simpa using this
def kX{kds:List Kd}{k:Kd}{a:Int}:Nm (kds++[k]) .w a↔Nm kds .w a∨(k=.w/\a=kds.length):=by
 constructor
 ·intro h
  have b:=h.1;have hl:=h.lt;rw[Bw,Eb]at hl;by_cases hi:a.toNat<kds.length
  ·exact .inl ⟨b,by have:=h.2;rwa[Ao hi]at this⟩
  ·have hi : a.toNat = kds.length := by lia
   have e:=h.2;rw[hi]at e;simp at e;exact .inr ⟨e,by lia⟩
 ·rintro (h|⟨rfl,rfl⟩)
  ·exact h.snoc
  ·exact Nm.new
def RI.more{rows:List cU}{made:List Int}{kds:List Kd}{row:cU}(h:RI rows made kds)(r:aS (· ∈made) row):RI (rows++[row]) (if LH .w row=.w then made++[(rows.length:Int)]else made) (kds++[LH .w row]):=by
 refine⟨h.bl.snoc (r.imp λa b=>(h.ex a).mp b),λa=>?_,?_⟩
 ·rw[kX,<- h.ex a,h.len]
  split
  ·rename_i e
   simp[e]
  ·rename_i e
   simp[e]
 ·have:=h.ml
  split<;>simp<;>lia
theorem RI.last{b:List cU}{last:cU}{made:List Int}{kds:List Kd}(h:RI (b++[last]) made kds):aS (· ∈made) last:=(h.bl.all last (by simp)).imp λa c=>(h.ex a).mpr c
noncomputable def O7(ns:List Int)(n:Nat)(b room:Int)(rows:List cU)(made:List Int)(sn:cU)(a:Sl):Ev:=
 [.va (VY ns),.ow (XH n),.va (.int b),.va (.int room),.ow (.lst rows),.ow (.lst (made.map .int)),.ow sn,a]
theorem K4:∀vs:List Int,U0 (vs.map .int)=ba
 |[]=>rfl
 |_::vs=>by show((cU.int _).hard&&U0 (vs.map .int))=ba;rw[K4 vs];rfl
def EB{m:Nat}{sn:cU}(h:Sn m sn):UE sn=ba:=by obtain⟨ks,vs,rfl,_⟩:=h;exact K4 vs
def DB{row:cU}(x:String)(t:List cU)(e:row=.tup (.str x::t)):LH .w row=.w↔ ¬(x= "store" ∨x= "put"):=by
 subst e;by_cases h:x= "store" ∨x= "put"
 ·rw[nT h];simp[h]
 ·have : x ∉ ["store","put"] := by simpa using h
  rw[nN this];simp[h]
def oK(ns:List Int)(n:Nat)(r room:Int){rows:List cU}{made:List Int}{kds:List Kd}{sn:cU}{m:Nat}(A:Sl)(hl:ns.length<=63)(I:n<600000)(J:m<8000000)(s:Sn m sn)(H:0<room)(v:room<=64)(R:RI rows made kds)(B:rows≠[])(M:rows.length<1000):∃q C K n' a,RI q C K/\rows.length<=q.length/\((rows.length:Int)<=r->(q.length:Int)<=r)/\q.length<=rows.length+1/\n<=n'/\n'<=n+3/\Sn (m+1) a/\Y7 (O7 ns n r room rows made sn A)=b3 (.nx (O7 ns n' r room q C a A)):=by
 obtain⟨h,last,rfl⟩:∃h last,rows=h++[last]:=⟨rows.dropLast,rows.getLast B,(Jg B).symm⟩;have ok:=R.last;have p:=QN h last;have w:made.length<16777216:=by have:=R.ml;lia
 have f:(h++[last]).length<16777216:=by lia
 generalize L:h++[last]=rows at*;obtain⟨x,t,o,_⟩:=NW ok;by_cases h1:(rows.length:Int)<r
 ·by_cases h2:x= "number"
  ·refine ⟨rows,made,kds,n,sn,R,Ar _,id,by lia,by lia,by lia,snM s (by lia),?_⟩
   unfold Y7;simp[O7,h1,p,o,h2]
  ·obtain ⟨row,n',a,G,F,i,c,e⟩ := eE ns n rows made sn room hl I J s H v p ok (λk z => by rw [o]at z;simp [VA]at z;exact h2 z.1)
   obtain⟨y,u,l,_⟩:=NW c;have g:=QN rows row;refine⟨_,_,_,n',a,R.more c,by simp,by simp;lia,by simp,G,F,i,?_⟩;unfold Y7;have key:=DB y u l;have b:=c.hard;rw[l]at b;have d:=EB i;by_cases j:y= "store" ∨y= "put"
   ·rw [if_neg (by rw [key];simp [j])]
    rcases j with rfl|rfl
    ·simp[O7,h1,p,o,h2,e,g,l,f,b,d]
    ·simp[O7,h1,p,o,h2,e,g,l,f,b,d]
   ·rw [if_pos (by rw [key];exact j)]
    have E:¬ "store"=y:=λz=>j (.inl z.symm);have D:¬ "put"=y:=λz=>j (.inr z.symm);simp[O7,h1,p,o,h2,e,g,l,f,b,d,E,D,w]
 ·refine ⟨rows,made,kds,n,sn,R,Ar _,id,by lia,by lia,by lia,snM s (by lia),?_⟩
  unfold Y7;simp[O7,h1]
theorem Yp(ns:List Int)(b room:Int)(hl:ns.length<=63)(q:0<room)(h:room<=64):∀(ds:List cU) (n:Nat) {rows:List cU}{made:List Int}{kds:List Kd}{sn:cU}{m:Nat}(g:Sl),n+3*ds.length<600000->m+ds.length<8000000->Sn m sn->RI rows made kds->rows≠[]->rows.length+ds.length<1000->∃f i o n' a c,RI f i o/\rows.length<=f.length/\((rows.length:Int)<=b->(f.length:Int)<=b)/\n<=n'/\n'<=n+3*ds.length/\Sn (m+ds.length) a/\WP (gN 7) Y7 ds (O7 ns n b room rows made sn g)=b3 (.nx (O7 ns n' b room f i a c))
 |[],n,rows,made,kds,sn,m,g,_,_,l,R,_,_=>⟨rows,made,kds,n,sn,g,R,Ar _,id,by lia,by simp,l,by simp⟩
 |d::ds,n,rows,made,kds,sn,m,g,u,v,l,R,r,hz=>by simp only[Bx]at u v hz;obtain⟨E,D,C,t,s,A,p,y,J,a4,I,j,w⟩:=oK ns n b room (.va d) hl (by lia) (by lia) l q h R r (by lia);obtain⟨f,i,o,n',a,c,B,H,x,G,F,k,e⟩:=Yp ns b room hl q h ds t (.va d) (by lia) (by lia) j A (λz=>by rw[z]at p;simp at p;exact r p) (by lia);refine⟨f,i,o,n',a,c,B,by lia,λz=>x (y z),by lia,by simp only[Bx];lia,snM k (by simp only[Bx];lia),?_⟩;rw[RS,GL,NT,show(O7 ns n b room rows made sn g).set 7 (.va d)=O7 ns n b room rows made sn (.va d) from rfl,w,NU,e]
def Zg(ns:List Int)(n:Nat)(o room:Int){rows:List cU}{made:List Int}{kds:List Kd}{sn:cU}(A:Sl)(hl:ns.length<=63)(P:n<500000)(H:MT n sn)(D:0<room)(q:room<=64)(R:RI rows made kds)(I:(rows.length:Int)<o)(K:o<=40):∃m s w n' a d,RI m s w/\rows.length<m.length/\(m.length:Int)<=o/\n<=n'/\n'<=n+20/\MT n' a/\W3 (O7 ns n o room rows made sn A)=b3 (.nx (O7 ns n' o room m s a d)):=by
 obtain⟨row,B,G,S,Q,p,f,_,e⟩:=Yw ns n made sn room hl (by lia) H D q;obtain⟨x,C,ex⟩:=YS ns B [.int 0,.int 1,.int 1,.int 2,.int 3] hl (by lia) (by simp);obtain⟨k,rfl,k0,k3⟩:∃k:Nat,x=.int k/\0<=k/\k<=3:=by
  simp only[Am,Ax,or_false]at C;rcases C with rfl|rfl|rfl|rfl|rfl
  ·exact⟨0,rfl,by lia,by lia⟩
  ·exact⟨1,rfl,by lia,by lia⟩
  ·exact⟨1,rfl,by lia,by lia⟩
  ·exact⟨2,rfl,by lia,by lia⟩
  ·exact⟨3,rfl,by lia,by lia⟩
 have N:=R.more f;have h:rows.length<16777216:=by lia
 have v:made.length<16777216:=by have:=R.ml;lia
 have J:(ZG 0 k).length=k:=dE k;obtain⟨m,s,w,n',a,d,O,M,L,U,T,t,c⟩:=Yp ns o room hl D q (ZG 0 k) (B+1) A (by lia) (by lia) p N (by simp) (by simp;lia);refine⟨m,s,w,n',a,d,O,by simp at M;lia,L (by simp;lia),by lia,by lia,snM t (by lia),?_⟩;obtain⟨y,u,l,_⟩:=NW f;have i:=QN rows row;have key:=DB y u l;have b:=f.hard;rw[l]at b;have g:=EB p;have j:(-4611686018427387904:Int)<=k/\(k:Int)<4611686018427387904:=by lia
 unfold W3;by_cases r:y= "store" ∨y= "put"
 ·rw [if_neg (by rw [key];simp [r])]at c
  simp only[O7]at c;rw[l]at c;rcases r with rfl|rfl
  ·simp[O7,e,i,l,h,b,g,ex,j,c]
  ·simp[O7,e,i,l,h,b,g,ex,j,c]
 ·rw [if_pos (by rw [key];exact r)]at c
  simp only[O7,Ge,Ba,Eu]at c;rw[l]at c;have F:¬ "store"=y:=λz=>r (.inl z.symm);have E:¬ "put"=y:=λz=>r (.inr z.symm);simp[O7,e,i,l,h,b,g,ex,j,F,E,v,c]
def RG{t:VB}{g:VS}{k:Nat}{δ δ1 δ2:Ev}(h:t δ=b3 (ba,δ1))(h2:g δ1=b3 (.nx δ2)):aX t g (k+1) δ=aX t g k δ2:=by show((t δ).bind λp=>if p.1=ba then(g p.2).bind (X7 (aX t g k))else b3 (.nx p.2))=_;rw[h,Ai];show(if ba=ba then(g δ1).bind (X7 (aX t g k))else _)=_;rw[if_pos rfl,h2];rfl
def RF{t:VB}{g:VS}{k:Nat}{δ δ1:Ev}(h:t δ=b3 (bb,δ1)):aX t g (k+1) δ=b3 (.nx δ1):=by show((t δ).bind λp=>if p.1=ba then(g p.2).bind (X7 (aX t g k))else b3 (.nx p.2))=_;rw[h];rfl
theorem Xh(ns:List Int)(a room:Int)(hl:ns.length<=63)(p:0<room)(h:room<=64)(i:a<=40):∀(f:Nat) (n:Nat) {rows:List cU}{made:List Int}{kds:List Kd}{sn:cU}(d:Sl),a-rows.length<=f->(rows.length:Int)<=a->n+20*f<500000->MT n sn->RI rows made kds->∃j k m n' b c,RI j k m/\(j.length:Int)=a/\n<=n'/\n'<=n+20*f/\aX (fB (f2 oLt (f1 Y1 (fO 4)) (fV 2))) W3 (f+1) (O7 ns n a room rows made sn d)=b3 (.nx (O7 ns n' a room j k b c))
 |0,n,rows,made,kds,sn,d,h1,h2,t,o,R=>by
  refine⟨rows,made,kds,n,sn,d,R,by lia,by lia,by lia,RF ?_⟩;have:¬(rows.length:Int)<a:=by lia
  simp[O7,this]
 | f + 1,n,rows,made,kds,sn,d,h1,h2,t,o,R => by
  by_cases g:(rows.length:Int)<a
  ·obtain ⟨B,A,z,s,r,q,x,F,w,E,a4,l,u⟩ := Zg ns n a room d hl (by lia) o p h R g i
   obtain⟨j,k,m,n',b,c,y,v,D,C,e⟩:=Xh ns a room hl p h i f s q (by lia) w (by lia) l x;refine⟨j,k,m,n',b,c,y,v,by lia,by lia,?_⟩;rw[RG (δ1:=O7 ns n a room rows made sn d) (by simp[O7,g]) u,e]
  ·refine ⟨rows,made,kds,n,sn,d,R,by lia,by lia,by lia,RF ?_⟩
   simp[O7,g]
def gG(ns:List Int)(n:Nat)(b room:Int)(hl:ns.length<=63)(k:n<400000)(f:0<room)(c:room<=64)(g:0<=b)(d:b<=40):∃rows kds n',Bl [] rows kds/\(rows.length:Int)=b/\n<=n'/\n'<=n+20*40/\XT [VY ns,XH n,.int b,.int room]=b3 (.tup rows,[XH n']):=by obtain⟨rows,made,kds,n',sn,j,R,i,h,l,e⟩:=Xh ns b room hl f c d b.toNat n (rows:=[]) (made:=[]) (kds:=[]) (sn:=.dct [] []) .no (by simp;lia) (by simpa using g) (by lia) ⟨[],[],rfl,rfl,Sm,Er _⟩ ⟨.nil,λa=>by simp[Nm],by simp⟩;refine⟨rows,kds,n',R.bl,i,h,by lia,?_⟩;have e:=QC e;simp only[O7,Eu]at e;unfold XT;rw[bD,RY.eq_1];simp[a9,e]
def cZ{f g:VF}{δ δ1 δ2:Ev}{i j:Int}(h1:f δ=b3 (.int i,δ1))(h2:g δ1=b3 (.int j,δ2))(a:(-4611686018427387904<=i/\i<4611686018427387904)/\ -4611686018427387904<=j/\j<4611686018427387904):iR2 f g δ=b3 (ZG i (j-i).toNat,δ2):=by unfold iR2;rw[h1,Ai,h2,Ai];exact if_pos a
theorem OF(a:Nat)(tb:VB)(p:cU->Bool)(fe:VF)(f:cU->cU)(δ:Ev)(b:δ.length=a):∀(ds acc:List cU),(∀d∈ds,tb (δ++[Sl.va d])=b3 (p d,δ++[Sl.va d])/\(p d=ba->fe (δ++[Sl.va d])=b3 (f d,δ++[Sl.va d])))->acc.length+ds.length<16777216->ZO a 1 (gN a) tb fe ds acc δ=b3 (acc++(ds.filter p).map f,δ)
 |[],acc,_,_=>by simp
 | d :: ds,acc,h,hl => by
  have j:(δ++[Sl.no]).set a (.va d)=δ++[Sl.va d]:=by rw[Fu _ _ (by lia)];simp[b]
  have k:(δ++[Sl.va d]).take a=δ:=by rw[Dx (by lia),Cn (by lia)]
  have l:acc.length<16777216:=by simp at hl;lia
  obtain⟨h1,h2⟩:=h d Au;cases c:p d with
  |true=>
   have g:=OF a tb p fe f δ b ds (acc++[f d]) (λe i=>h e (An _ i)) (by simp at hl⊢;lia);have h2:=h2 c;rw[c]at h1;simp only[QP,Vj,GL,j,HL,h1,Vw,h2,Vs,if_pos l,k,g];simp[c]
  |false=>
   have g:=OF a tb p fe f δ b ds acc (λe i=>h e (An _ i)) (by simp at hl⊢;lia);rw[c]at h1;simp only[QP,Vj,GL,j,HL,h1,Vy,k,g];simp[c]
def aS.ints{M:Int->Prop}{row:cU}(h:aS M row):∃(x:String) (a:Int) (as:List Int),row=.tup (.str x:: .int a::as.map .int)/\(x= "over" ->∃b,as=[b]/\M b):=by
 cases h with
 | @number n _ _=>exact⟨"number",n,[],rfl,λz=>absurd z (by decide)⟩
 | @two x a b e f d=>exact⟨x,a,[b],rfl,λ_=>⟨b,rfl,d⟩⟩
 | @pick c a b _ _ _=>exact⟨"pick",c,[a,b],rfl,λz=>absurd z (by decide)⟩
 | @load p _ _=>exact⟨"load",p,[],rfl,λz=>absurd z (by decide)⟩
 | @take p c a _ _ _ _=>exact⟨"take",p,[c,a],rfl,λz=>absurd z (by decide)⟩
 | @store p a _ _ _=>exact⟨"store",p,[a],rfl,λz=>absurd z (by decide)⟩
 | @put p a c _ _ _ _=>exact⟨"put",p,[a,c],rfl,λz=>absurd z (by decide)⟩
theorem UC{k:Nat}:∀as:List Int,∀d∈as.map cU.int,QA k d
 |[],d,h=>nomatch h
 |a::as,d,h=>by
  rcases Am.mp h with rfl|h
  ·exact YB
  ·exact UC as d h
def D1{M:Int->Prop}{row:cU}(h:aS M row):QA 1 row:=by obtain⟨x,a,as,rfl,_⟩:=h.ints;exact OP (Z0 YR (Z0 YB (UC as)))
def Wq{sure:Int}{rows:List cU}{kds:List Kd}(t:Bl [] rows kds){i:Int}(G:0<=i)(h1:i<rows.length):∃b,Y5 [.tup [.int sure,.tup rows],.int i]=b3 (.bl b,[]):=by
 have O:kds.length=rows.length:=by simpa using t.len
 obtain⟨row,H,u⟩:∃row∈rows,T2 rows i=b3 row:=by
  have hi:i.toNat<rows.length:=by lia
  exact⟨rows[i.toNat],Lz hi,by rw[T3 G h1];simp[hi]⟩
 have ok:=t.all row H;obtain⟨x,a,as,rfl,o⟩:=ok.ints;unfold Y5;rw[bD];unfold PZ;by_cases v:onC x
 ·have D:=cel4 v
  exact⟨_,by simp[a9,u,D];rfl⟩
 ·obtain⟨⟨_,B⟩,⟨_,A⟩,⟨_,z⟩,_,y⟩:=off4 v
  by_cases p:x= "over"
  ·obtain⟨b,rfl,c⟩:=o p
   subst p;have L:=c.1;have N:=c.lt;obtain⟨C,n,J⟩:∃row∈rows,T2 rows b=b3 row:=by
    have hi:b.toNat<rows.length:=by lia
    exact⟨rows[b.toNat],Lz hi,by rw[T3 L (by lia)];simp[hi]⟩
   obtain⟨l,m,h,rfl,_⟩:=(t.all C n).ints;have E:V0 (.str l:: .int m::h.map cU.int) b4 (b3 2)=[.str l,.int m]:=by
    have:=QR (ds:=.str l:: .int m::h.map cU.int) (k:=2)
    simpa using this
   have I:∀δ,iR2 (fC (.int 1)) (fC (.int 1000)) δ=b3 (ZG 1 ((1000:Int)-1).toNat,δ):=λδ=>cZ (f:=fC (.int 1)) (g:=fC (.int 1000)) (δ:=δ) (δ1:=δ) (δ2:=δ) (i:=1) (j:=1000) rfl rfl (by lia);have w:=MY 0 (cC (cV (fC (.str "number")) (cV (fV 0) cK))) [] (λd=>.tup [.str "number",d]) rfl (ZG 1 ((1000:Int)-1).toNat) [] (λd _=>by simp) (by simp[ZG]);have r:∀neg,∃b,ZV neg (.tup [.str l,.int m]) (.lst ((ZG 1 ((1000:Int)-1).toNat).map λd=>.tup [.str "number",d]))=b3 (.bl b):=λneg=>⟨_,JP (j:=1) (k:=1) (OP (Z0 YR (Z0 YB YD))) (λe F=>by
    obtain⟨d,hd,rfl⟩:=Cu.mp F;obtain⟨q,rfl⟩:∃q,d=.int q:=by unfold ZG at hd;obtain⟨q,_,rfl⟩:=Cu.mp hd;exact⟨_,rfl⟩
    exact OP (Z0 YR (Z0 YB YD)))⟩
   obtain⟨K,s⟩:=r ba;simp only[Fd]at w;generalize (ZG 1 ((1000:Int)-1).toNat).map (λd=>cU.tup [.str "number",d])=big at*;generalize ZG 1 ((1000:Int)-1).toNat=M at*;exact⟨K,by simp -implicitDefEqProofs [a9,u,J,E,aM,I,w,s]⟩
  ·exact⟨bb,by simp[a9,u,B,A,z,y,p]⟩
def Z1(p:Int×Int):cU:=.tup [.int p.1,.int p.2]
noncomputable def MV:cU:=.tup [.str "load",.str "take",.str "store",.str "put"]
def P5(a:cU)(ps:List (Int×Int))(j:Int)(there:Sl)(e d c b:Sl):Ev:=
 [.va a,.ow (.lst (ps.map Z1)),.va MV,.va (.int j),there,e,d,c,b]
def jF{bs:List Bool}:ZV bb (.bl ba) (.lst (bs.map .bl))=b3 (.bl (bs.any id)):=by
 rw[JP (j:=0) (k:=0) Xu (λe c=>by obtain⟨b,_,rfl⟩:=Cu.mp c;exact Xu)]
 induction bs with
 |nil=>rfl
 |cons b bs a=>
  have e:eqD (.bl b) (.bl ba)=b:=by cases b<;>rfl
  simp only[Ba,Vq,Je,id,e];simp only[De,if_false,Ku,cU.bl.injEq]at a⊢;rw[a]
theorem C4{i:Int}:∀{as:List Int},i∈as->K6 (.int i) (as.map .int)=ba
 |q::as,h=>by
  simp only[Ba,Vq];rcases Am.mp h with rfl|h
  ·simp
  ·simp[C4 h]
noncomputable def wrT:cU->Bool
 |.tup (.str x::_)=>decide (Be "store"=x) || decide (Be "put"=x)
 |_=>bb
def N0{s1 a:VS}{δ δ1:Ev}{r:Option Ou}(h1:s1 δ=b3 (.nx δ1))(h2:a δ1=r):cD s1 a δ=r:=by rw[Y2,h1,SV,h2]
def gB{sure:Int}{rows:List cU}{kds:List Kd}(r:Bl [] rows kds)(ps:List (Int×Int)){i j:Int}{here there:cU}(V:0<=i)(U:i<rows.length)(T:0<=j)(S:j<rows.length)(hh:here∈rows)(W:there∈rows){as:List Int}(hn:aK [there]=b3 (.lst (as.map .int),[]))(L E:Sl)(hp:ps.length<1000000):∃(c:Bool) (K J:Sl),(i∈as->c=ba)/\W1 (P5 (.tup [.int sure,.tup rows]) ps j (.va there) (.va (.int i)) (.va here) L E)=b3 (.nx (P5 (.tup [.int sure,.tup rows]) (ps++if c then[(i,j)]else[]) j (.va there) (.va (.int i)) (.va here) K J)):=by
 obtain⟨f,I⟩:=Wq (sure:=sure) r V U;obtain⟨l,H⟩:=Wq (sure:=sure) r T S;have q:=r.all here hh;have p:=r.all there W;have R:=D1 q;have Q:=D1 p;obtain⟨x,a,xs,G,_⟩:=q.ints;obtain⟨y,b,ys,F,_⟩:=p.ints;have B:ZV bb (.int i) (.lst (as.map .int))=b3 (.bl (K6 (.int i) (as.map .int))):=by rw[JP (j:=0) (k:=0) YB (UC as)];simp
 have O:=C4 (i:=i) (as:=as);generalize K6 (.int i) (as.map .int)=bi at*;have D:∃w:List cU,ZO 0 1 (gN 0) (fB (f2 (ZV bb) (f2 bE (fV 0) (fC (.int 0))) (cC (cV (fC (.str "store")) (cV (fC (.str "put")) cK))))) (fV 0) [here,there] [] []=b3 (w,[])/\∀d∈w,QA 1 d:=by
  have c:=OF 0 (fB (f2 (ZV bb) (f2 bE (fV 0) (fC (.int 0))) (cC (cV (fC (.str "store")) (cV (fC (.str "put")) cK))))) wrT (fV 0) id [] rfl [here,there] [] (λd hd=>by
   simp only[Am,Ax,or_false]at hd;rcases hd with rfl|rfl
   ·rw[G];simp[wrT,VA]
   ·rw[F];simp[wrT,VA]) (by simp)
  refine⟨_,c,λd hd=>?_⟩;simp only[Fd,List.map_id_fun,id,Hl,Am,Ax,or_false]at hd;rcases hd.1 with rfl|rfl
  ·exact R
  ·exact Q
 obtain⟨w,D,P⟩:=D;have A:RK (.lst w) (.lst [])=b3 (.bl (!eqD (.lst w) (.lst []))):=DF (j:=2) (k:=0+1) (YC P) (YC YD);generalize (!eqD (.lst w) (.lst []))=m at*;have z:ps.length<16777216:=by lia
 have u:∃h,ZV bb (.str x) MV=b3 (.bl h):=⟨_,Wy⟩;have s:∃e,ZV bb (.str y) MV=b3 (.bl e):=⟨_,Wy⟩;have v:∃h,ZV bb (.str x) (.tup [.str "store",.str "put"])=b3 (.bl h):=⟨_,C5⟩;have t:∃e,ZV bb (.str y) (.tup [.str "store",.str "put"])=b3 (.bl e):=⟨_,C5⟩;obtain⟨h,u⟩:=u;obtain⟨e,s⟩:=s;obtain⟨o,v⟩:=v;obtain⟨n,t⟩:=t;subst G F;have g:=jF (bs:=[bi,f&&l,h&&(e&&(decide (a=b)&&m)),f&&n,l&&o]);simp only[Ba,Eu]at g;refine⟨[bi,f&&l,h&&(e&&(decide (a=b)&&m)),f&&n,l&&o].any id,.va (.lst w),.ow (.lst [.bl bi,.bl (f&&l),.bl (h&&(e&&(decide (a=b)&&m))),.bl (f&&n),.bl (l&&o)]),?_,?_⟩
 ·intro hi
  rw[O hi];rfl
 ·unfold W1
  refine N0 (δ1:=P5 (.tup [.int sure,.tup rows]) ps j (.va (.tup (.str y:: .int b::ys.map .int))) (.va (.int i)) (.va (.tup (.str x:: .int a::xs.map .int))) (.va (.lst w)) E) (by simp[P5,aM,D]) ?_;refine N0 (δ1:=P5 (.tup [.int sure,.tup rows]) ps j (.va (.tup (.str y:: .int b::ys.map .int))) (.va (.int i)) (.va (.tup (.str x:: .int a::xs.map .int))) (.va (.lst w)) (.ow (.lst [.bl bi,.bl (f&&l)]))) ?_ ?_
  ·clear g
   cases f<;>simp[P5,hn,B,I,H]
  refine N0 (δ1:=P5 (.tup [.int sure,.tup rows]) ps j (.va (.tup (.str y:: .int b::ys.map .int))) (.va (.int i)) (.va (.tup (.str x:: .int a::xs.map .int))) (.va (.lst w)) (.ow (.lst [.bl bi,.bl (f&&l),.bl (h&&(e&&(decide (a=b)&&m)))]))) ?_ ?_
  ·clear g
   cases h<;>cases e<;>by_cases C:a=b<;>simp[P5,u,s,A,C]
  refine N0 (δ1:=P5 (.tup [.int sure,.tup rows]) ps j (.va (.tup (.str y:: .int b::ys.map .int))) (.va (.int i)) (.va (.tup (.str x:: .int a::xs.map .int))) (.va (.lst w)) (.ow (.lst [.bl bi,.bl (f&&l),.bl (h&&(e&&(decide (a=b)&&m))),.bl (f&&n)]))) ?_ ?_
  ·clear g
   generalize (h&&(e&&(decide (a=b)&&m)))=q3;cases f<;>simp[-C5,P5,I,t]
  refine N0 (δ1:=P5 (.tup [.int sure,.tup rows]) ps j (.va (.tup (.str y:: .int b::ys.map .int))) (.va (.int i)) (.va (.tup (.str x:: .int a::xs.map .int))) (.va (.lst w)) (.ow (.lst [.bl bi,.bl (f&&l),.bl (h&&(e&&(decide (a=b)&&m))),.bl (f&&n),.bl (l&&o)]))) ?_ ?_
  ·clear g
   generalize (h&&(e&&(decide (a=b)&&m)))=q3;cases l<;>simp[-C5,P5,H,v]
  generalize (h&&(e&&(decide (a=b)&&m)))=q3 at*;generalize Z:(f&&l)=q1 at*;generalize Y:(f&&n)=N at*;generalize X:(l&&o)=M at*;generalize hc:[bi,q1,q3,N,M].any id=c at*;cases c
  ·simp[P5,g]
  ·simp[P5,g,z,Z1]
def PV(i:Nat)(d:cU)(ds:List cU):X9 i (d::ds)=.tup [.int i,d]::X9 (i+1) ds:=rfl
abbrev GP(a b:Nat):VG:=EZ 2 (aD (gN a) (aD (gN b) V1))
theorem Yj{sure:Int}{rows:List cU}{kds:List Kd}(w:Bl [] rows kds){j:Int}{there:cU}(s:0<=j)(r:j<rows.length)(t:there∈rows){as:List Int}(u:aK [there]=b3 (.lst (as.map .int),[])):∀(a:List cU) (k:Nat) (ps:List (Int×Int)) (m l f b:Sl),(∀d∈a,d∈rows)->k+a.length<=rows.length->ps.length+a.length<1000000->∃(g:List (Int×Int)) (E D o n:Sl),(∀p∈g,p.2=j/\(k:Int)<=p.1/\p.1<k+a.length)/\(∀i∈as,(k:Int)<=i->i<k+a.length->(i,j)∈g)/\g.length<=a.length∧WP (GP 5 6) W1 (X9 k a) (P5 (.tup [.int sure,.tup rows]) ps j (.va there) m l f b)=b3 (.nx (P5 (.tup [.int sure,.tup rows]) (ps++g) j (.va there) E D o n))
 |[],k,ps,m,l,f,b,_,_,_=>⟨[],m,l,f,b,by simp,λi _ h1 h2=>by simp at h2;lia,by simp,by simp[X9]⟩
 | h :: a,k,ps,m,l,f,b,v,hk,q => by
  simp only[Bx]at hk q;obtain⟨c,o,n,H,e⟩:=gB (sure:=sure) w ps (i:=(k:Int)) (j:=j) (here:=h) (there:=there) (by lia) (by lia) s r (v h Au) t u f b (by lia);obtain⟨g,C,B,A,y,q1,q2,q3,F⟩:=Yj w s r t u a (k+1) (ps++if c then[((k:Int),j)]else[]) (.va (.int k)) (.va h) o n (λd hd=>v d (An _ hd)) (by lia) (by cases c<;>simp<;>lia);refine⟨(if c then[((k:Int),j)]else[])++g,C,B,A,y,?_,?_,?_,?_⟩
  ·intro p q
   simp only[Bx];rcases By.mp q with z|z
   ·cases c
    ·simp at z
    ·simp at z;subst z;exact⟨rfl,by simp,by simp;lia⟩
   ·obtain⟨x,J,I⟩:=q1 p z
    exact⟨x,by lia,by lia⟩
  ·intro i hi h1 h2
   simp only[Bx]at h2;by_cases G:i=k
   ·subst G
    rw[H hi];simp
   ·exact By.mpr (.inr (q2 i hi (by lia) (by lia)))
  ·cases c<;>simp<;>lia
  ·rw[PV,RS]
   have s1:GP 5 6 (.tup [.int k,h]) (P5 (.tup [.int sure,.tup rows]) ps j (.va there) m l f b)=b3 (P5 (.tup [.int sure,.tup rows]) ps j (.va there) (.va (.int k)) (.va h) f b):=by simp[P5]
   rw[s1,NT,e,NU,F,Ay]
structure Prs(rows:List cU)(ps:List (Int×Int)):Prop where
 lt:∀p∈ps,0<=p.1/\p.1<p.2/\p.2<rows.length
 nm:∀(j:Nat) (row:cU) (as:List Int),rows[j]?=b3 row->aK [row]=b3 (.lst (as.map .int),[])->∀i∈as,0<=i->i<j->(i,(j:Int))∈ps
def Zy{as bs:List Int}(h:as.map cU.int=bs.map cU.int):as=bs:=by
 induction as generalizing bs with
 |nil=>cases bs with
  |nil=>rfl
  |cons=>simp at h
 | cons a as c => cases bs with
  |nil=>simp at h
  |cons b bs=>
   simp only[Ba,Jz,cU.int.injEq]at h;rw[h.1,c h.2]
theorem Xg{sure:Int}{rows:List cU}{kds:List Kd}(A:Bl [] rows kds)(B:rows.length<=40):∀(g:List cU) (k:Nat) (ps:List (Int×Int)) (C:Int) (n f c b a:Sl) (m:Sl),rows.drop k=g->k+g.length=rows.length->ps.length+40*g.length<10000->∃(v:List (Int×Int)) (O N u s r q:Sl),(∀p∈v,0<=p.1/\p.1<p.2/\p.2<rows.length)/\(∀(j:Nat) (row:cU) (as:List Int),k<=j->rows[j]?=b3 row->aK [row]=b3 (.lst (as.map .int),[])->∀i∈as,0<=i->i<j->(i,(j:Int))∈v)/\v.length<=40*g.length∧WP (GP 3 4) W2 (X9 k g) [.va (.tup [.int sure,.tup rows]),.ow (.lst (ps.map Z1)),.va MV,m,n,f,c,b,a]=b3 (.nx [.va (.tup [.int sure,.tup rows]),.ow (.lst ((ps++v).map Z1)),.va MV,O,N,u,s,r,q])
 |[],k,ps,C,n,f,c,b,a,m,h1,h2,_=>by
  refine⟨[],m,n,f,c,b,a,by simp,λj row as h3 V=>?_,by simp,by simp[X9]⟩;have:=(Ag.mp V).1
  simp at h2;lia
 | t :: g,k,ps,C,n,f,c,b,a,m,h1,h2,x => by
  simp only[Bx]at h2 x;have D:t∈rows:=List.mem_of_mem_drop (by rw[h1];exact Au);have hk:rows[k]?=b3 t:=by
   have:(rows.drop k)[0]?=b3 t:=by rw[h1];rfl
   simpa using this
  obtain⟨as,_,_,E,_⟩:=E7 (A.all t D);have F:(rows.take k).length=k:=by rw[Cr];lia
  obtain⟨h,u,s,r,q,q1,q2,q3,e⟩:=Yj (sure:=sure) A (j:=(k:Int)) (by lia) (by lia) D E (rows.take k) 0 ps f c b a (λd hd=>List.mem_of_mem_take hd) (by lia) (by lia);obtain⟨w,M,L,K,J,I,H,R,Q,Y,S⟩:=Xg A B g (k+1) (ps++h) 0 (.va t) u s r q (.va (.int k)) (by rw[<-Sk,h1];rfl) (by lia) (by simp;lia);refine⟨h++w,M,L,K,J,I,H,?_,?_,?_,?_⟩
  ·intro p x
   rcases By.mp x with z|z
   ·obtain⟨X,W,G⟩:=q1 p z
    rw[F]at G;exact⟨by lia,by lia,by lia⟩
   ·exact R p z
  ·intro j row bs Z o l i hi U T
   by_cases y:j=k
   ·subst y
    rw[hk]at o;injection o with o;subst o;rw[E]at l;have:as=bs:=Zy (by simpa using l)
    subst this;exact By.mpr (.inl (q2 i hi (by lia) (by rw[F];lia)))
   ·exact By.mpr (.inr (Q j row bs (by lia) o l i hi U T))
  ·simp only[Bw,Bx];lia
  ·rw[PV,RS]
   have s1:GP 3 4 (.tup [.int k,t]) [.va (.tup [.int sure,.tup rows]),.ow (.lst (ps.map Z1)),.va MV,m,n,f,c,b,a]=b3 (P5 (.tup [.int sure,.tup rows]) ps k (.va t) f c b a):=by simp[P5]
   have P:W2 (P5 (.tup [.int sure,.tup rows]) ps k (.va t) f c b a)=b3 (.nx (P5 (.tup [.int sure,.tup rows]) (ps++h) k (.va t) u s r q)):=by
    unfold W2;have hc:=QR (ds:=rows) (k:=k);rw[dD];have:M9 (CW (f2 bE (fV 0) (fC (.int 1))) pNo (DJ (fV 3))) (P5 (.tup [.int sure,.tup rows]) ps k (.va t) f c b a)=b3 (X9 0 (rows.take k),P5 (.tup [.int sure,.tup rows]) ps k (.va t) f c b a):=by simp[P5,hc]
    rw[this,qF_s];exact e
   rw[s1,NT,P,NU];simp only[P5];rw[S,Ay]
theorem DM:∀ps:List (Int×Int),NR (ps.map Z1)=b3 ps
 |[]=>rfl
 |p::ps=>by show(prD (Z1 p)).bind (λq=>(NR (ps.map Z1)).map λa=>q::a)=_;rw[DM ps];rfl
def oE(ps:List (Int×Int)):∃a:List (Int×Int),a.Perm ps/\FD (.lst (ps.map Z1))=b3 (.lst (a.map Z1)):=by
 refine⟨(IC ps).map λi=>ps.getD i (0,0),?_,?_⟩
 ·have h := (TY ps).map λi => ps.getD i (0,0)
  refine h.trans ?_
  have:(Bf ps.length).map (λi=>ps.getD i (0,0))=ps:=by refine List.ext_getElem (by simp) λi h1 h2=>?_;simp at h1;simp[h1]
  rw[this]
 ·show (NR (ps.map Z1)).bind (λa => b3 (cU.lst ((IC a).map λi => (ps.map Z1).getD i cU.non))) = _
  rw[DM,Ai,Ua];congr 2;refine Ju λi hi=>?_;have:i<ps.length:=Db.mp ((TY ps).mem_iff.mp hi)
  simp[this]
def jI{sure:Int}{rows:List cU}{kds:List Kd}(g:Bl [] rows kds)(b:rows.length<=40):∃ps:List (Int×Int),Prs rows ps/\ps.length<=1600/\XS [.tup [.int sure,.tup rows]]=b3 (.lst (ps.map Z1),[]):=by obtain⟨c,q,o,n,m,l,k,q1,q2,q3,e⟩:=Xg (sure:=sure) g b rows 0 [] 0 .no .no .no .no .no .no (by simp) (by simp) (by simp;lia);simp only[Eu,Fd,MV]at e;obtain⟨ps,a,es⟩:=oE c;refine⟨ps,⟨λp h=>q1 p (a.mem_iff.mp h),λj row as h1 h2 i hi f d=>a.mem_iff.mpr (q2 j row as (by lia) h1 h2 i hi f d)⟩,by rw[a.length_eq];lia,?_⟩;unfold XS;rw[bD,RW.eq_1];simp[a9,e,es]
theorem QQ(c:Nat)(tb:VB)(p:cU->Bool)(fe:VF)(f:cU->cU)(δ:Ev)(g:δ.length=c):∀(ds acc:List cU),(∀d∈ds,∃a b,d=.tup [a,b]/\tb (δ++[Sl.va a,Sl.va b])=b3 (p d,δ++[Sl.va a,Sl.va b])/\(p d=ba->fe (δ++[Sl.va a,Sl.va b])=b3 (f d,δ++[Sl.va a,Sl.va b])))->acc.length+ds.length<16777216->ZO c 2 (GP c (c+1)) tb fe ds acc δ=b3 (acc++(ds.filter p).map f,δ)
 |[],acc,_,_=>by simp
 | d :: ds,acc,h,hl => by
  obtain⟨a,b,rfl,h1,h2⟩:=h d Au;have l:GP c (c+1) (.tup [a,b]) (δ++[Sl.no,Sl.no])=b3 (δ++[Sl.va a,Sl.va b]):=by
   have o:(δ++[Sl.no,Sl.no]).set c (.va a)=δ++[Sl.va a,Sl.no]:=by rw[Fu _ _ (by lia)];simp[g]
   have n:(δ++[Sl.va a,Sl.no]).set (c+1) (.va b)=δ++[Sl.va a,Sl.va b]:=by rw[Fu _ _ (by lia),g,show c+1-c=1 by lia];rfl
   simp[o,n]
  have m:(δ++[Sl.va a,Sl.va b]).take c=δ:=by rw[Dx (by lia),Cn (by lia)]
  have q:acc.length<16777216:=by simp at hl;lia
  cases i:p (.tup [a,b])with
  |true=>
   have j:=QQ c tb p fe f δ g ds (acc++[f (.tup [a,b])]) (λe k=>h e (An _ k)) (by simp at hl⊢;lia);have h2:=h2 i;rw[i]at h1;simp only[QP,Xc,l,HL,h1,Vw,h2,Vs,if_pos q,m,j];simp[i]
  |false=>
   have j:=QQ c tb p fe f δ g ds acc (λe k=>h e (An _ k)) (by simp at hl⊢;lia);rw[i]at h1;simp only[QP,Xc,l,HL,h1,Vy,m,j];simp[i]
noncomputable def ost(ns:List Int)(n:Nat)(a:cU)(ps:List (Int×Int))(left made:List Int)(b:Sl):Ev:=
 [.va (VY ns),.ow (XH n),.va a,.va (.lst (ps.map Z1)),.ow (.lst (left.map .int)),.ow (.lst (made.map .int)),b]
noncomputable def pw(left:List Int)(r:Int):cU->Bool
 |.tup [.int a,.int b]=>decide (b=r)&&K6 (.int a) (left.map .int)
 |_=>bb
theorem JK{i:Int}:∀{as:List Int},K6 (.int i) (as.map .int)=ba↔i∈as
 |[]=>by simp
 |a::as=>by rw[Ba,Vq,Hu,eN,decide_eq_true_eq,JK (as:=as),Am];exact⟨λh=>h.imp Eq.symm id,λh=>h.imp Eq.symm id⟩
def rh(ps:List (Int×Int))(left:List Int)(r:Int)(g:ps.length<16777216):ZO 2 2 (GP 2 3) (T4 (fB (f2 WD (fV 3) (fV 1))) (fB (f2 (ZV bb) (fV 2) (fO 0)))) (fC (.int 1)) (ps.map Z1) [] [.ow (.lst (left.map .int)),.va (.int r)]=b3 (((ps.map Z1).filter (pw left r)).map λ_=>.int 1,[.ow (.lst (left.map .int)),.va (.int r)]):=by
 have e:∀a:Int,ZV bb (.int a) (.lst (left.map .int))=b3 (.bl (K6 (.int a) (left.map .int))):=λa=>by rw[JP (j:=0) (k:=0) YB (UC left)];simp
 have:=QQ 2 (T4 (fB (f2 WD (fV 3) (fV 1))) (fB (f2 (ZV bb) (fV 2) (fO 0)))) (pw left r) (fC (.int 1)) (λ_=>.int 1) [.ow (.lst (left.map .int)),.va (.int r)] rfl (ps.map Z1) [] (λd hd=>by
  obtain⟨⟨a,b⟩,_,rfl⟩:=Cu.mp hd;refine⟨.int a,.int b,rfl,?_,λ_=>by simp⟩;have hi:=e a;have c:pw left r (Z1 (a,b))=(decide (b=r)&&K6 (.int a) (left.map .int)):=rfl;rw[c];generalize left.map cU.int=L at*;by_cases f:b=r
  ·simp[f,hi]
  ·simp[f]) (by simpa using g)
 simpa using this
def EX{ds:List cU}:eqD (.lst ds) (.lst [])=ds.isEmpty:=by cases ds<;>rfl
def rdD(ps:List (Int×Int))(left:List Int):cU->Bool
 |.int r=>((ps.map Z1).filter (pw left r)).isEmpty
 |_=>bb
theorem NQ{x:Int}:∀{ns:List Int},x∈ns->∃j,VH x ns=b3 j/\ns.eraseIdx j=ns.erase x
 | i :: ns,h => by
  unfold VH;by_cases e:i=x
  ·rw[if_pos e];exact⟨0,rfl,by simp[e]⟩
  ·rw[if_neg e]
   obtain⟨j,h1,h2⟩:=NQ (ns:=ns) (by
    rcases Am.mp h with z|z
    ·exact absurd z.symm e
    ·exact z)
   refine⟨j+1,by rw[h1];rfl,?_⟩;rw[List.eraseIdx_cons_succ,h2,List.erase_cons_tail (by simpa using e)]
def iV{x:Int}{ns:List Int}(h:x∈ns):mRem (ns.map .int) [.int x]=b3 ((ns.erase x).map .int):=by obtain⟨j,h1,h2⟩:=NQ h;show(U1 (ns.map .int)).bind (λns=>(VH x ns).map λj=>(ns.eraseIdx j).map cU.int)=_;rw[P1,Ai,h1,Sb,h2]
def DV{ps:List (Int×Int)}{left:List Int}{r:Int}:rdD ps left (.int r)=ba↔ ∀p∈ps,p.2=r->p.1∉left:=by
 show((ps.map Z1).filter (pw left r)).isEmpty=ba↔_;rw[Qp,List.filter_eq_nil_iff];constructor
 ·intro h p a b hl
  have:=h (Z1 p) (Cu.mpr ⟨p,a,rfl⟩)
  refine this ?_;show(decide (p.2=r)&&K6 (.int p.1) (left.map .int))=ba;rw[JK.mpr hl,b];simp
 ·intro h d hd z
  obtain⟨p,a,rfl⟩:=Cu.mp hd;have z:(decide (p.2=r)&&K6 (.int p.1) (left.map .int))=ba:=z;rw[Ad,decide_eq_true_eq,JK]at z;exact h p a z.1 z.2
def kC(ps:List (Int×Int))(left:List Int)(c:ps.length<16777216)(a:left.length<16777216):ZO 2 1 (gN 2) (fB (f2 WD (ZP [1,2] 2 (UX (fV 0)) (EZ 2 (aD (gN 2) (aD (gN 3) V1))) (T4 (fB (f2 WD (fV 3) (fV 1))) (fB (f2 (ZV bb) (fV 2) (fO 0)))) (fC (.int 1))) (aZ cK))) (fV 2) (left.map .int) [] [.va (.lst (ps.map Z1)),.ow (.lst (left.map .int))]=b3 ((left.filter λr=>rdD ps left (.int r)).map .int,[.va (.lst (ps.map Z1)),.ow (.lst (left.map .int))]):=by
 have:=OF 2 (fB (f2 WD (ZP [1,2] 2 (UX (fV 0)) (EZ 2 (aD (gN 2) (aD (gN 3) V1))) (T4 (fB (f2 WD (fV 3) (fV 1))) (fB (f2 (ZV bb) (fV 2) (fO 0)))) (fC (.int 1))) (aZ cK))) (rdD ps left) (fV 2) id [.va (.lst (ps.map Z1)),.ow (.lst (left.map .int))] rfl (left.map .int) [] (λd hd=>by
  obtain⟨r,_,rfl⟩:=Cu.mp hd;refine⟨?_,λ_=>by simp⟩;have w:=rh ps left r c;have b:WD (.lst (((ps.map Z1).filter (pw left r)).map λ_=>cU.int 1)) (.lst [])=b3 (.bl (rdD ps left (.int r))):=by
   rw[Xs (j:=1) (k:=1) (YC λd hd=>by obtain⟨_,_,rfl⟩:=Cu.mp hd;exact YB) (YC YD),EX,List.isEmpty_map]
   rfl
  generalize ((ps.map Z1).filter (pw left r)).map (λ_=>cU.int 1)=W at*;generalize rdD ps left (.int r)=B at*;generalize left.map cU.int=L at*;generalize ps.map Z1=Q at*;simp[aM,w,b]) (by simpa using a)
 rw[this,List.filter_map];simp[Function.comp_def]
def lR(ns:List Int)(n:Nat)(c:cU)(ps:List (Int×Int))(left made:List Int)(k:Sl)(hl:ns.length<=63)(F:n<800000)(h:left≠[])(g:left.Pairwise (· < ·))(i:∀p∈ps,p.1<p.2)(y:left.length<1000)(v:made.length<1000)(s:ps.length<10000):∃x∈left,(∀p∈ps,p.2=x->p.1∉left)/\∃e,ZR (ost ns n c ps left made k)=b3 (.nx (ost ns (n+1) c ps (left.erase x) (made++[x]) e)):=by
 have q:=kC ps left (by lia) (by lia);have B:0<((left.filter λr=>rdD ps left (.int r)).map cU.int).length:=by
  match left,h,g with
  |a::t,_,g=>
   have:a∈((a::t).filter λr=>rdD ps (a::t) (.int r)):=by
    refine Hl.mpr ⟨Au,DV.mpr λp u A hi=>?_⟩;have h1:=i p u;rw[A]at h1;rcases Am.mp hi with z|z
    ·lia
    ·have:=(List.pairwise_cons.mp g).1 _ z
     lia
   rw[Ci];exact List.length_pos_of_mem this
 obtain⟨d,hd,C⟩:=YS ns n ((left.filter λr=>rdD ps left (.int r)).map .int) hl (by lia) B;obtain⟨x,o,rfl⟩:=Cu.mp hd;obtain⟨b,f⟩:=Hl.mp o;have w:=iV b;have j:=QN (made.map cU.int) (.int x);have l:made.length<16777216:=by lia
 refine⟨x,b,DV.mp f,.va (.lst ((left.filter λr=>rdD ps left (.int r)).map .int)),?_⟩;unfold ZR;simp only[ost,Ge,Ba,Eu];generalize (left.filter λr=>rdD ps left (.int r)).map cU.int=R at*;generalize (left.erase x).map cU.int=E at*;generalize left.map cU.int=L at*;generalize ps.map Z1=Q at*;have m:(made.map cU.int).length<16777216:=by simpa using l
 generalize made.map cU.int=D at*;simp[aM,q,C,w,j,m]
theorem DI(ns:List Int)(b:cU)(ps:List (Int×Int))(hl:ns.length<=63)(l:∀p∈ps,p.1<p.2)(h:ps.length<10000):∀(f n:Nat) (left made:List Int) (d:Sl),left.length=f->n+f<700000->left.Pairwise (· < ·)->made.length+left.length<1000->(∀p∈ps,p.1∈made∨p.1∈left)->(∀p∈ps,∀k:Nat,made[k]?=b3 p.2->p.1∈made.take k)->∃(order:List Int) (c:Sl),order.Perm (made++left)/\(∀p∈ps,∀k:Nat,order[k]?=b3 p.2->p.1∈order.take k)/\aX (fB (f2 RK (fO 4) (aZ cK))) ZR (f+1) (ost ns n b ps left made d)=b3 (.nx (ost ns (n+f) b ps [] order c))
 |0,n,left,made,d,m,A,o,B,h1,h2=>by
  have:left=[]:=Gk.mp m
  subst this;refine⟨made,d,by simp,h2,RF ?_⟩;have e:RK (.lst []) (.lst [])=b3 (.bl bb):=by rw[DF (j:=1) (k:=1) (YC YD) (YC YD),EX];rfl
  simp[ost,e]
 | f + 1,n,left,made,d,m,A,o,B,h1,h2 => by
  have i:left≠[]:=λz=>by rw[z]at m;simp at m
  obtain⟨x,s,y,t,E⟩:=lR ns n b ps left made d hl (by lia) i o l (by lia) (by lia) h;have C:=List.length_erase_of_mem s;obtain⟨order,c,v,u,D⟩:=DI ns b ps hl l h f (n+1) (left.erase x) (made++[x]) t (by lia) (by lia) (o.sublist (List.erase_sublist)) (by simp;lia) (λp a=>by
   rcases h1 p a with z|z
   ·exact .inl (By.mpr (.inl z))
   ·by_cases g:p.1=x
    ·exact .inl (by simp[g])
    ·exact .inr ((List.mem_erase_of_ne g).mpr z)) (λp a k hk=>by
   by_cases r:k<made.length
   ·rw[Ao r]at hk
    rw[Dx (by lia)];exact h2 p a k hk
   ·have w:=(Ag.mp hk).1
    simp at w;have:k=made.length:=by lia
    subst this;simp at hk;have q:=y p a hk.symm;rw[Ip];exact(h1 p a).resolve_right q)
  refine⟨order,c,?_,u,?_⟩
  ·refine v.trans ?_
   rw[Ay,Ix];exact(List.perm_cons_erase s).symm.append_left made
  ·have e:RK (.lst (left.map .int)) (.lst [])=b3 (.bl ba):=by
    rw[DF (j:=1) (k:=1) (YC (UC left)) (YC YD),EX];cases left with
    |nil=>exact absurd rfl i
    |cons=>rfl
   rw[RG (δ1:=ost ns n b ps left made d) (by simp[ost,e]) E,D,show n+1+f=n+(f+1) by lia]
def AT{f:VF}{δ δ1:Ev}{j:Int}(h:f δ=b3 (.int j,δ1))(a:0<=j)(h1:j<=16777216):TJ f δ=b3 (.lst (ZG 0 j.toNat),δ1):=by unfold TJ;rw[h,Ai];exact if_pos ⟨a,h1⟩
def BU(k:Nat):List Int:=(Bf k).map λi:Nat=>(i:Int)
def oF(k:Nat):ZG 0 k=(BU k).map .int:=by simp[ZG,BU]
def DZ{k:Nat}{a:Int}:a∈BU k↔0<=a/\a<k:=by
 unfold BU;rw[Cu];constructor
 ·rintro ⟨i,hi,rfl⟩
  have:=Db.mp hi
  lia
 ·rintro ⟨b,h1⟩
  exact⟨a.toNat,Db.mpr (by lia),by lia⟩
def FQ(k:Nat):(BU k).Pairwise (· < ·):=Lb _ (λa b h=>by lia) (List.pairwise_lt_range)
def J2(k:Nat):(BU k).length=k:=by simp[BU]
def lK(ns:List Int)(n:Nat){sure:Int}{rows:List cU}{kds:List Kd}(hl:ns.length<=63)(l:n<500000)(g:Bl [] rows kds)(b:rows.length<=40):∃(ps:List (Int×Int)) (order:List Int),Prs rows ps/\order.Perm (BU rows.length)/\(∀p∈ps,∀k:Nat,order[k]?=b3 p.2->p.1∈order.take k)/\aF [VY ns,XH n,.tup [.int sure,.tup rows]]=b3 (.lst (order.map .int),[XH (n+rows.length)]):=by
 obtain⟨ps,P,f,em⟩:=jI (sure:=sure) g b;obtain⟨order,i,d,c,e⟩:=DI ns (.tup [.int sure,.tup rows]) ps hl (λp a=>(P.lt p a).2.1) (by lia) rows.length n (BU rows.length) [] .no (J2 _) (by lia) (FQ _) (by simp[J2];lia) (λp a=>.inr (DZ.mpr ⟨(P.lt p a).1,by have:=P.lt p a;lia⟩)) (λp a k hk=>by simp at hk);refine⟨ps,order,P,by simpa using d,c,?_⟩;have e:=QC e;simp only[ost,Eu]at e;have h:TJ (f1 Y1 (f2 bE (fV 2) (fC (.int 1)))) [.va (VY ns),.ow (XH n),.va (.tup [.int sure,.tup rows]),.no,.no,.no,.no]=b3 (.lst ((BU rows.length).map .int),[.va (VY ns),.ow (XH n),.va (.tup [.int sure,.tup rows]),.no,.no,.no,.no]):=by rw[<-oF,AT (j:=(rows.length:Int)) (δ1:=[.va (VY ns),.ow (XH n),.va (.tup [.int sure,.tup rows]),.no,.no,.no,.no]) (by simp) (by lia) (by lia)];simp
 unfold aF;rw[bD,YA.eq_1];generalize (BU rows.length).map cU.int=L at*;generalize order.map cU.int=O at*;generalize ps.map Z1=Q at*;simp[a9,em,h,e]
def aS.strong{M:Int->Prop}{row:cU}(h:aS M row):∃as:List Int,(∀a∈as,M a)/\aS (· ∈as) row/\aK [row]=b3 (.lst (as.map .int),[]):=by
 cases h with
 | @number n e h1=>exact⟨[],(λ_ h=>nomatch h),.number e h1,by kernel_rfl⟩
 | @two x a b f d g=>
  refine⟨[a,b],by simp[d,g],.two f (by simp) (by simp),?_⟩;simp only[Am,Ax,or_false]at f;rcases f with rfl|rfl|rfl|rfl|rfl|rfl|rfl<;>kernel_rfl
 | @pick c a b hc d g=>exact⟨[c,a,b],by simp[hc,d,g],.pick (by simp) (by simp) (by simp),by kernel_rfl⟩
 | @load p e h1=>exact⟨[],(λ_ h=>nomatch h),.load e h1,by kernel_rfl⟩
 | @take p c a e h1 hc d=>exact⟨[c,a],by simp[hc,d],.take e h1 (by simp) (by simp),by kernel_rfl⟩
 | @store p a e h1 d=>exact⟨[a],by simp[d],.store e h1 (by simp),by kernel_rfl⟩
 | @put p a c e h1 d hc=>exact⟨[a,c],by simp[d,hc],.put e h1 (by simp) (by simp),by kernel_rfl⟩
def FP{as:List Int}{row:cU}(h:aS (· ∈as) row){ks:List aR}{vs:List cU}(e:Int->Int)(hk:∀a∈as,a8 ks vs (.inl a)=b3 (.int (e a))):∃j,bT [row,.dct ks vs]=b3 (j,[])/\aS (λb=>∃a∈as,b=e a) j/\LH .w j=LH .w row:=by
 cases h with
 | @number n f h1=>
  refine⟨_,?_,.number f h1,rfl⟩;unfold bT;rw[bD];unfold aN;simp[a9]
 | @two x a b g d i=>
  have q:=(dne g (y:= "number") (by decide)).1;have o:=(dne g (y:= "load") (by decide)).2;have m:=(dne g (y:= "take") (by decide)).2;have l:=(dne g (y:= "store") (by decide)).2;have k:=(dne g (y:= "put") (by decide)).2;refine⟨.tup [.str x,.int (e a),.int (e b)],?_,.two g ⟨a,d,rfl⟩ ⟨b,i,rfl⟩,?_⟩
  ·unfold bT
   rw[bD];unfold aN;simp[a9,q,o,m,l,k,aM,hk a d,hk b i]
  ·simp only[Am,Ax,or_false]at g
   rcases g with rfl|rfl|rfl|rfl|rfl|rfl|rfl<;>rfl
 | @pick c a b hc d i=>
  refine⟨.tup [.str "pick",.int (e c),.int (e a),.int (e b)],?_,.pick ⟨c,hc,rfl⟩ ⟨a,d,rfl⟩ ⟨b,i,rfl⟩,rfl⟩;unfold bT;rw[bD];unfold aN;simp[a9,aM,hk a d,hk b i,hk c hc]
 | @load p f h1=>
  refine⟨.tup [.str "load",.int p],?_,.load f h1,rfl⟩;unfold bT;rw[bD];unfold aN;simp[a9,aM]
 | @take p c a f h1 hc d=>
  refine⟨.tup [.str "take",.int p,.int (e c),.int (e a)],?_,.take f h1 ⟨c,hc,rfl⟩ ⟨a,d,rfl⟩,rfl⟩;unfold bT;rw[bD];unfold aN;simp[a9,aM,hk a d,hk c hc]
 | @store p a f h1 d=>
  refine⟨.tup [.str "store",.int p,.int (e a)],?_,.store f h1 ⟨a,d,rfl⟩,rfl⟩;unfold bT;rw[bD];unfold aN;simp[a9,aM,hk a d]
 | @put p a c f h1 d hc=>
  refine⟨.tup [.str "put",.int p,.int (e a),.int (e c)],?_,.put f h1 ⟨a,d,rfl⟩ ⟨c,hc,rfl⟩,rfl⟩;unfold bT;rw[bD];unfold aN;simp[a9,aM,hk a d,hk c hc]
theorem Bl.at{kds d:List Kd}{rows:List cU}(h:Bl kds rows d):∀{j:Nat}{row:cU},rows[j]?=b3 row->aS (λa=>Nm d .w a/\a<kds.length+j) row/\d[kds.length+j]?=b3 (LH .w row)/\∀a,Nm kds .w a->Nm d .w a:=by
 have keep:∀{k k':List Kd}{f:List cU},Bl k f k'->∀(i:Nat) (x:Kd),k[i]?=b3 x->k'[i]?=b3 x:=by
  intro k k' f h;induction h with
  |nil=>exact λ_ _ z=>z
  |cons _ _ e=>exact λi x z=>e i x (by rw[Ao (Ag.mp z).1];exact z)
 induction h with
 |nil=>intro j row c;simp at c
 | @cons kds d r rows a t e=>
  intro j row c;cases j with
  |zero=>
   simp at c;subst c;refine⟨a.imp λx b=>⟨⟨b.1,keep t _ _ (b.snoc (j:=LH .w r)).2⟩,by have:=b.lt;lia⟩,keep t _ _ (by simp),λx b=>⟨b.1,keep t _ _ (b.snoc (j:=LH .w r)).2⟩⟩
  |succ j=>
   obtain⟨h1,h2,g⟩:=e (by simpa using c);rw[Bw,Eb]at h1 h2;refine⟨h1.imp λx b=>⟨b.1,by have:=b.2;lia⟩,by rw[show kds.length+(j+1)=kds.length+1+j by lia];exact h2,λx b=>g x b.snoc⟩
noncomputable def swD:cU->cU
 |.tup [a,b]=>.tup [b,a]
 |_=>.non
noncomputable def kvz:Nat->List Int->List (aR×cU)
 |_,[]=>[]
 |k,x::xs=>(.inl x,.int (k:Int))::kvz (k+1) xs
theorem GS:∀(xs:List Int) (k:Nat),QX ((X9 k (xs.map .int)).map swD)=b3 (kvz k xs)
 |[],_=>rfl
 |x::xs,k=>by rw[Ba,PV,Ba];show(kprD (.tup [.int x,.int (k:Int)])).bind (λp=>(QX ((X9 (k+1) (xs.map .int)).map swD)).map λps=>p::ps)=_;rw[GS xs (k+1)];rfl
theorem ON:∀(xs:List Int) (k:Nat),(kvz k xs).map Dh=xs.map .inl
 |[],_=>rfl
 |x::xs,k=>by rw[kvz,Ba,ON xs (k+1)];rfl
theorem C9:∀(xs:List Int) (k i:Nat),i<xs.length->((kvz k xs).map Es)[i]?=b3 (.int ((k+i:Nat):Int))
 |[],_,i,h=>by simp at h
 |x::xs,k,0,_=>rfl
 |x::xs,k,i+1,h=>by
  have:=C9 xs (k+1) i (by simpa using h)
  rw[kvz,Ba,Lp,this];congr 3;lia
def oC{order:List Int}(c:order.Nodup){a:Int}(d:a∈order):a8 ((kvz 0 order).map Dh) ((kvz 0 order).map Es) (.inl a)=b3 (.int (order.idxOf a:Int)):=by
 have hi:order.idxOf a<order.length:=Ka d;rw[GY _ _ (order.idxOf a) (.inl a) ?_ (by simp) ?_,C9 _ _ _ hi]
 ·simp
 ·rw[ON]
  exact Lb _ (λa b h e=>h (by injection e)) c
 ·rw[ON,Ds,Cs hi,Oz hi]
  rfl
def U2(rows:List cU)(r:Int):cU:=(rows[r.toNat]?).getD .non
noncomputable def FO(rows:List cU)(names:cU):cU->cU
 |.int r=>match bT [U2 rows r,names]with
  |some (d,_)=>d
  |none=>.non
 |_=>.non
def DW{rows os:List cU}{names a:cU}{r:Int}(e:bT [U2 rows r,names]=b3 (a,os)):FO rows names (.int r)=a:=by simp only[FO,e]
def JE(order:List Int):cU:=.dct ((kvz 0 order).map Dh) ((kvz 0 order).map Es)
def Wr{rows:List cU}{kds:List Kd}(o:Bl [] rows kds){ps:List (Int×Int)}(P:Prs rows ps){order:List Int}(s:order.Perm (BU rows.length))(x:∀p∈ps,∀k:Nat,order[k]?=b3 p.2->p.1∈order.take k){c rest:List Int}{r:Int}(g:order=c++r::rest):∃j,bT [U2 rows r,JE order]=b3 (j,[])/\T2 rows r=b3 (U2 rows r)/\aS (Nm (c.map λa=>LH .w (U2 rows a)) .w) j/\LH .w j=LH .w (U2 rows r):=by
 have y:order.Nodup:=s.nodup_iff.mpr ((FQ _).imp λh=>by lia);have A:r∈order:=by rw[g];simp
 have l:=DZ.mp (s.mem_iff.mp A);have q:rows[r.toNat]?=b3 (U2 rows r):=by unfold U2;rw[Cs (by lia)];rfl
 obtain⟨h1,h2,_⟩:=o.at q;obtain⟨as,v,E,D⟩:=h1.strong;have u:∀a∈as,a∈c:=λa d=>by
  have f:=v a d;have F:a<r:=by have:=f.2;simp at this;lia
  have B:=P.nm r.toNat _ as q D a d f.1.1 (by lia);have:=x _ B c.length (by rw[g];simp;lia)
  rw[g,Ip]at this;exact this
 obtain⟨j,e,ok,mk⟩:=FP E (ks:=(kvz 0 order).map Dh) (vs:=(kvz 0 order).map Es) (λa=>(order.idxOf a:Int)) (λa d=>oC y (by rw[g];exact By.mpr (.inl (u a d))));refine⟨j,e,by rw[T3 l.1 (by lia)];exact q,ok.imp λb n=>?_,mk⟩;obtain⟨a,d,rfl⟩:=n;have i:=u a d;have hi:c.idxOf a<c.length:=Ka i;have m:order.idxOf a=c.idxOf a:=by rw[g,List.idxOf_append,if_pos i]
 refine⟨by lia,?_⟩;rw[m,Ie,Ds,Cs hi,Oz hi];have f:=(v a d).1;have C:=f.lt;have G:kds.length=rows.length:=by simpa using o.len
 have z:rows[a.toNat]?=b3 (U2 rows a):=by unfold U2;rw[Cs (by have:=f.1;lia)];rfl
 obtain⟨_,t,_⟩:=o.at z;simp only[Mm,Ki]at t;have:=f.2
 rw[t]at this;injection this with this;rw[Sb,this]
theorem Yc{rows:List cU}{kds:List Kd}(g:Bl [] rows kds){ps:List (Int×Int)}(P:Prs rows ps){order:List Int}(f:order.Perm (BU rows.length))(d:∀p∈ps,∀k:Nat,order[k]?=b3 p.2->p.1∈order.take k):∀(rest b:List Int),order=b++rest->Bl (b.map λa=>LH .w (U2 rows a)) ((rest.map .int).map (FO rows (JE order))) (order.map λa=>LH .w (U2 rows a))
 |[],b,c=>by rw[c,Eo];exact .nil
 |r::rest,b,c=>by obtain⟨j,e,_,ok,mk⟩:=Wr g P f d c;have i:=DW e;have h:=Yc g P f d rest (b++[r]) (by rw[c,Ay];rfl);rw[Ba,Ba,i];refine .cons ok ?_;rw[mk];simpa using h
def lL(ns:List Int)(n:Nat)(c:Int)(hl:ns.length<=63)(hn:n<100000)(h0:0<=c)(Q:c<=40):∃(sure:Int) (rows:List cU) (kds:List Kd) (n':Nat),Bl [] rows kds/\(rows.length:Int)<=c/\0<=sure/\sure<=64/\n'<=n+1000/\ZX [VY ns,XH n,.int c]=b3 (.tup [.int sure,.tup rows],[XH n']):=by
 obtain⟨x,t,ex⟩:=YS ns n [.int 3,.int 6,.int 9,.int 64] hl (by lia) (by simp);obtain⟨room,rfl,I,H⟩:∃q:Int,x=.int q/\0<q/\q<=64:=by simp only[Am,Ax,or_false]at t;rcases t with rfl|rfl|rfl|rfl<;>exact⟨_,rfl,by lia,by lia⟩
 have E:=Y9 ns (n+1) (room+1) hl (by lia) (by lia);have Y:=SM ns (n+1) (b:=room+1) (by lia);have X:MJ ns (n+1) (room+1)<room+1:=Ff _ (by lia);obtain⟨y,s,v⟩:=YS ns (n+2) [.int 0,.int room,.int room,.int (MJ ns (n+1) (room+1))] hl (by lia) (by simp);obtain⟨sure,rfl,o,s1⟩:∃q:Int,y=.int q/\0<=q/\q<=64:=by simp only[Am,Ax,or_false]at s;rcases s with rfl|rfl|rfl|rfl<;>exact⟨_,rfl,by lia,by lia⟩
 have C:=Y9 ns (n+3) (c+1) hl (by lia) (by lia);have m:=SM ns (n+3) (b:=c+1) (by lia);have W:MJ ns (n+3) (c+1)<c+1:=Ff _ (by lia);obtain⟨rows,kds,f,j,ah,m1,Z,w⟩:=gG ns (n+4) (MJ ns (n+3) (c+1)) room hl (by lia) I H m (by lia);have A:=Y9 ns f 3 hl (by lia) (by decide);have k:rows.length<=40:=by lia
 by_cases u:0<MJ ns f 3
 ·refine ⟨sure,rows,kds,f + 1,j,by lia,o,s1,by lia,?_⟩
  unfold ZX;rw[bD];unfold WJ;simp[a9,ex,E,v,C,w,A,u]
 ·obtain ⟨ps,order,P,g,p,V⟩ := lK ns (f + 1) (sure := sure) hl (by lia) j k
  have M:order.length=rows.length:=by rw[g.length_eq,J2]
  have K:order.Nodup:=g.nodup_iff.mpr ((FQ _).imp λh=>by lia);have G:=QQ 0 UW (λ_=>ba) (cC (cV (fV 1) (cV (fV 0) cK))) swD [] rfl (X9 0 (order.map .int)) [] (λd hd=>by obtain⟨i,hi,e⟩:=List.getElem_of_mem hd;obtain⟨z,_,rfl⟩:=M0 (Ag.mpr ⟨hi,e⟩);exact⟨_,_,rfl,by simp,λ_=>by simp[swD]⟩) (by rw[M3];simp;lia)
  have f1:(X9 0 (order.map cU.int)).filter (λ_=>ba)=X9 0 (order.map .int):=List.filter_eq_self.mpr λ_ _=>rfl;rw[f1,Fd]at G;have hd:DD (.lst ((X9 0 (order.map .int)).map swD))=b3 (JE order):=by
   show(QX ((X9 0 (order.map .int)).map swD)).bind (λkds=>if(kds.map Dh).Nodup then b3 (cU.dct (kds.map Dh) (kds.map Es))else b4)=_;rw[GS,Ai,if_pos]
   ·rfl
   ·rw[ON]
    exact Lb _ (λa b h e=>h (by injection e)) K
  have F:=MY 2 (cI 2 [] bT (aE (f2 bE (f2 bE (fV 0) (fC (.int 1))) (fV 2)) (aE (fV 1) b7))) [.va (.tup [.int sure,.tup rows]),.va (JE order)] (FO rows (JE order)) rfl (order.map .int) [] (λd hd=>by obtain⟨r,L,rfl⟩:=Cu.mp hd;obtain⟨J,rest,N⟩:=List.append_of_mem L;obtain⟨bq,e,U,_,_⟩:=Wr j P g p N;have T:=DW e;rw[T];simp[U,e]) (by simp;lia)
  rw[Fd]at F;have B:=Yc j P g p order [] rfl;refine⟨sure,(order.map .int).map (FO rows (JE order)),_,f+1+rows.length,B,by simp;lia,o,s1,by lia,?_⟩;have l:¬0<MJ ns f 3:=u;unfold ZX;rw[bD];unfold WJ;have O:((order.map cU.int).map (FO rows (JE order))).length<=16777216:=by simp;lia
  generalize (order.map cU.int).map (FO rows (JE order))=R at*;generalize (X9 0 (order.map cU.int)).map swD=S at*;generalize JE order=D at*;simp[a9,ex,E,v,C,w,A,l,V,aM,G,hd,F]
def Wd(w:Int):Prop:=0<=w/\w<=999
noncomputable abbrev D7:List String:=["over","plus","minus","times","least","most","less"]
inductive Rw where
 |num (n:Int)|two (x:String) (a b:Int)|pick (c a b:Int)|load (p:Int)|take (p c a:Int)|store (p a:Int)|put (p a c:Int)
def Rw.dat:Rw->cU
 |.num n=>.tup [.str "number",.int n]
 |.two x a b=>.tup [.str x,.int a,.int b]
 |.pick c a b=>.tup [.str "pick",.int c,.int a,.int b]
 |.load p=>.tup [.str "load",.int p]
 |.take p c a=>.tup [.str "take",.int p,.int c,.int a]
 |.store p a=>.tup [.str "store",.int p,.int a]
 |.put p a c=>.tup [.str "put",.int p,.int a,.int c]
def Rw.hd:Rw->String
 |.num _=> "number"
 |.two x _ _=>x
 |.pick _ _ _=> "pick"
 |.load _=> "load"
 |.take _ _ _=> "take"
 |.store _ _=> "store"
 |.put _ _ _=> "put"
def Rw.mk:Rw->Bool
 |.store _ _=>bb
 |.put _ _ _=>bb
 |_=>ba
abbrev Pl(p:Int):Prop:=0<=p/\p<=63
def Rw.Ok(M:Int->Prop):Rw->Prop
 |.num n=>Wd n
 |.two x a b=>x∈D7/\M a/\M b
 |.pick c a b=>M c/\M a/\M b
 |.load p=>Pl p
 |.take p c a=>Pl p/\M c/\M a
 |.store p a=>Pl p/\M a
 |.put p a c=>Pl p/\M a/\M c
section
variable{M M':Int->Prop}{r:Rw}
def Rw.Ok.imp(h:r.Ok M)(f:∀a,M a->M' a):r.Ok M':=by
 cases r with
 |num=>exact h
 |two=>exact⟨h.1,f _ h.2.1,f _ h.2.2⟩
 |pick=>exact⟨f _ h.1,f _ h.2.1,f _ h.2.2⟩
 |load=>exact h
 |take=>exact⟨h.1,f _ h.2.1,f _ h.2.2⟩
 |store=>exact⟨h.1,f _ h.2⟩
 |put=>exact⟨h.1,f _ h.2.1,f _ h.2.2⟩
def Rw.Ok.row(h:r.Ok M):aS M r.dat:=by
 cases r with
 |num=>exact .number h.1 h.2
 |two=>exact .two h.1 h.2.1 h.2.2
 |pick=>exact .pick h.1 h.2.1 h.2.2
 |load=>exact .load h.1 h.2
 |take=>exact .take h.1.1 h.1.2 h.2.1 h.2.2
 |store=>exact .store h.1.1 h.1.2 h.2
 |put=>exact .put h.1.1 h.1.2 h.2.1 h.2.2
@[simp] theorem Rw.ix0:bE r.dat (.int 0)=b3 (.str (Be r.hd)):=by cases r<;>rfl
@[simp] theorem Rw.dat_hard:r.dat.hard=ba:=by cases r<;>rfl
def d7{x:String}(h:x∈D7):x= "over" ∨x= "plus" ∨x= "minus" ∨x= "times" ∨x= "least" ∨x= "most" ∨x= "less":=by simpa using h
def Rw.Ok.made(h:r.Ok M):X4 [r.dat]=b3 (.bl r.mk,[]):=by
 cases r with
 |two=>obtain⟨h,_⟩:=h;rcases d7 h with rfl|rfl|rfl|rfl|rfl|rfl|rfl<;>kernel_rfl
 |_=>kernel_rfl
def Rw.Ok.isif(h:r.Ok M):SY [r.dat]=b3 (.bl bb,[]):=by
 cases r with
 |two=>obtain⟨h,_⟩:=h;rcases d7 h with rfl|rfl|rfl|rfl|rfl|rfl|rfl<;>kernel_rfl
 |_=>kernel_rfl
end
def Ab.app{ab b:List Bool}{a:Int}(h:Ab ab a):Ab (ab++b) a:=⟨h.1,by rw[Ao (Ag.mp h.2).1];exact h.2⟩
def Ab.new{ab:List Bool}:Ab (ab++[ba]) ab.length:=⟨by lia,by simp⟩
def Wfs:List Bool->List Rw->Prop
 |_,[]=>True
 |ab,r::a=>r.Ok (Ab ab)/\Wfs (ab++[r.mk]) a
inductive Ts where
 |nil|row (r:Rw) (t:Ts)|ifs (c:Int) (a b t:Ts)
def Ts.dats:Ts->List cU
 |.nil=>[]
 |.row r t=>r.dat::t.dats
 |.ifs c a b t=>.tup [.str "if",.int c,.tup a.dats,.tup b.dats]::t.dats
def Ts.size:Ts->Nat
 |.nil=>0
 |.row _ t=>1+t.size
 |.ifs _ a b t=>1+(a.size+b.size)+t.size
def Ts.dep:Ts->Nat
 |.nil=>0
 |.row _ t=>t.dep
 |.ifs _ a b t=>max (1+max a.dep b.dep) t.dep
abbrev U7(n:Nat):List Bool:=Aw n bb
def Ts.sgt:Ts->List Bool->List Bool
 |.nil,ab=>ab
 |.row r t,ab=>t.sgt (ab++[r.mk])
 |.ifs _ a b t,ab=>t.sgt (ab++[bb]++U7 a.size++U7 b.size)
def Ts.Wf:Ts->List Bool->Prop
 |.nil,_=>True
 |.row r t,ab=>r.Ok (Ab ab)/\t.Wf (ab++[r.mk])
 |.ifs c a b t,ab=>Ab ab c/\a.Wf (ab++[bb])/\b.Wf (ab++[bb]++U7 a.size)/\t.Wf (ab++[bb]++U7 a.size++U7 b.size)
theorem Ts.sgt_len:∀(t:Ts) (ab:List Bool),(t.sgt ab).length=ab.length+t.size
 |.nil,_=>rfl
 |.row r t,ab=>by simp[Ts.sgt,Ts.size,Ts.sgt_len t];lia
 |.ifs c a b t,ab=>by simp[Ts.sgt,Ts.size,Ts.sgt_len t];lia
@[simp] theorem t9{ds:List cU}:MN (.lst ds) .non=b3 (.bl bb):=(rfl)
@[simp] theorem v6{ds:List cU}:PH (.lst ds) .non=b3 (.bl ba):=(rfl)
@[simp] theorem rX{ds:List cU}{k:Int}:Y4 (.lst ds) (.int k)=if(0<=k/\k<4611686018427387904)/\ds.length*k.toNat<=16777216 then b3 (.lst (WS k.toNat ds))else b4:=by show(if(0<=k/\k<2 ^ 62)/\_ then _ else _)=_;rw[show(2:Int) ^ 62=4611686018427387904 by decide]
def lJ{d:cU}(k:Nat):WS k [d]=Aw k d:=by
 unfold WS;induction k with
 |zero=>rfl
 |succ k a=>rw[Dz,Gf,a,Dz];rfl
section
variable{R:bP}{ab:List Bool}{k:Nat}{deep:Nat}
def EA{ds:List cU}{xs:List Bool}(th able:cU)(e:R [.tup ds,.lst (ab.map .bl),.int ((deep:Int)+1)]=b3 (.lst (xs.map .bl),[]))(c:xs.length=ab.length+k)(hk:ab.length+k<=20)(s:Sl):YZ R [.va th,.va able,.va (.int deep),.va (.lst (ab.map .bl)),.va (.tup ds),s]=b3 (.nx [.va th,.va able,.va (.int deep),.va (.lst ((ab++U7 k).map .bl)),.va (.tup ds),.va (.lst (xs.map .bl))]):=by
 have h1:((xs.length:Int)-(ab.length:Int))=(k:Int):=by lia
 have h2:(k:Int)<4611686018427387904:=by lia
 have b:k<=16777216:=by lia
 have a:ab.length+k<=16777216:=by lia
 unfold YZ;simp -implicitDefEqProofs [e,h1,h2,b,a,lJ]
def oD{c:Int}{b a:List cU}{d f:List Bool}{k1 k2:Nat}(hc:Ab ab c)(hd:deep<3)(j:R [.tup b,.lst ((ab++[bb]).map .bl),.int ((deep:Int)+1)]=b3 (.lst (d.map .bl),[]))(h1:d.length=(ab++[bb]).length+k1)(i:R [.tup a,.lst ((ab++[bb]++U7 k1).map .bl),.int ((deep:Int)+1)]=b3 (.lst (f.map .bl),[]))(h2:f.length=(ab++[bb]++U7 k1).length+k2)(hk:ab.length+1+k1+k2<=20):ZY R [.tup [.str "if",.int c,.tup b,.tup a],.lst (ab.map .bl),.int deep]=b3 (.lst ((ab++[bb]++U7 k1++U7 k2).map .bl),[]):=by
 have f1:=EA (.tup [.str "if",.int c,.tup b,.tup a]) (.lst (ab.map .bl)) j h1 (by simp;lia) .no;have f2:=EA (.tup [.str "if",.int c,.tup b,.tup a]) (.lst (ab.map .bl)) i h2 (by simp;lia) (.va (.lst (d.map .bl)));have em:=Yo hc;have h:¬(deep:Int)=3:=by lia
 have hl:ab.length+1<=16777216:=by lia
 generalize g:ab.map cU.bl=A at em f1 f2;have e:A.length=ab.length:=by rw[<-g];simp
 have k:(ab++[bb]).map cU.bl=A++[.bl bb]:=by rw[Ge,g];rfl
 rw[k]at f1;unfold ZY;rw[bD,ZI.eq_1];simp[a9,em,T5,e,hl,h];rw[f1];simp only[NU,RS,GL,NT,List.set_cons_succ,List.set_cons_zero,pK];rw[f2];simp
def N2{n:Nat}{t:Ts}{able:cU}(h:∀th able s,∃s',WP (gN 4) (aT (bF n)) t.dats [.va th,.va able,.va (.int deep),.va (.lst (ab.map .bl)),s]=b3 (.nx [.va th,.va able,.va (.int deep),.va (.lst ((t.sgt ab).map .bl)),s'])):bF (n+1) [.tup t.dats,.lst (ab.map .bl),.int deep]=b3 (.lst ((t.sgt ab).map .bl),[]):=by show Z2 5 [] (ZC (bF n)) _=_;obtain⟨s',e⟩:=h (.tup t.dats) (.lst (ab.map .bl)) .no;rw[bD,ZC.eq_1];simp[a9,e]
end
theorem WV:∀{t:Ts}{n:Nat}{ab:List Bool}{deep:Nat},t.dep<=n->deep+t.dep<=3->t.Wf ab->ab.length+t.size<=20->∀th able s,∃s',WP (gN 4) (aT (bF n)) t.dats [.va th,.va able,.va (.int deep),.va (.lst (ab.map .bl)),s]=b3 (.nx [.va th,.va able,.va (.int deep),.va (.lst ((t.sgt ab).map .bl)),s'])
 |.nil,n,ab,deep,_,_,_,_,th,able,s=>⟨s,rfl⟩
 |.row r t,n,ab,deep,hd,i,⟨h1,h2⟩,hk,th,able,s=>by
  simp only[Ts.size]at hk;obtain⟨s',d⟩:=WV (t:=t) (n:=n) (deep:=deep) hd i h2 (by simp;lia) th able (.va r.dat);refine⟨s',?_⟩;have e:=eQ h1.row;have em:=h1.made;have j:=h1.isif;have g:ab.length+1<=16777216:=by lia
  have m:¬(20:Int)<(ab.length:Int)+1:=by lia
  rw[Ts.dats,RS,GL,NT];have k:aT (bF n) [.va th,.va able,.va (.int deep),.va (.lst (ab.map .bl)),.va r.dat]=b3 (.nx [.va th,.va able,.va (.int deep),.va (.lst ((ab++[r.mk]).map .bl)),.va r.dat]):=by unfold aT;simp[e,em,j,g,m,Y8]
  have s1:([.va th,.va able,.va (.int deep),.va (.lst (ab.map .bl)),s]:Ev).set 4 (.va r.dat)=[.va th,.va able,.va (.int deep),.va (.lst (ab.map .bl)),.va r.dat]:=rfl;rw[s1,k,NU,d];rfl
 |.ifs c a b t,0,ab,deep,hd,_,_,_,th,able,s=>by simp only[Ts.dep]at hd;lia
 |.ifs c a b t,n+1,ab,deep,hd,i,⟨hc,h1,h2,o⟩,hk,th,able,s=>by
  simp only[Ts.size]at hk;simp only[Ts.dep]at hd i;have q:=N2 (t:=a) (n:=n) (able:=able) (WV (deep:=deep+1) (by lia) (by lia) h1 (by simp;lia));have p:=N2 (t:=b) (n:=n) (able:=able) (WV (deep:=deep+1) (by lia) (by lia) h2 (by simp;lia));obtain⟨s',d⟩:=WV (t:=t) (n:=n+1) (deep:=deep) (by lia) (by lia) o (by simp;lia) th able (.va (.tup [.str "if",.int c,.tup a.dats,.tup b.dats]));refine⟨s',?_⟩;have f:=oD (R:=bF (n+1)) (deep:=deep) hc (by lia) q (Ts.sgt_len _ _) p (Ts.sgt_len _ _) (by lia);have j:SY [.tup [.str "if",.int c,.tup a.dats,.tup b.dats]]=b3 (.bl ba,[]):=by kernel_rfl
  generalize l:ab++[bb]++U7 a.size++U7 b.size=B at f d;have h:¬(20:Int)<(B.length:Int):=by rw[<-l];simp;lia
  rw[Ts.dats,RS,GL,NT];have k:aT (bF (n+1)) [.va th,.va able,.va (.int deep),.va (.lst (ab.map .bl)),.va (.tup [.str "if",.int c,.tup a.dats,.tup b.dats])]=b3 (.nx [.va th,.va able,.va (.int deep),.va (.lst (B.map .bl)),.va (.tup [.str "if",.int c,.tup a.dats,.tup b.dats])]):=by unfold aT;simp[j,f,h,Y8]
  have s1:([.va th,.va able,.va (.int deep),.va (.lst (ab.map .bl)),s]:Ev).set 4 (.va (.tup [.str "if",.int c,.tup a.dats,.tup b.dats]))=[.va th,.va able,.va (.int deep),.va (.lst (ab.map .bl)),.va (.tup [.str "if",.int c,.tup a.dats,.tup b.dats])]:=rfl;rw[s1,k,NU,d,Ts.sgt,l]
def Yx{sure:Int}{t:Ts}(hd:t.dep<=3)(h:t.Wf [])(hk:t.size<=20)(a:0<=sure)(s1:sure<=64):cB [.tup [.int sure,.tup t.dats]]=b3 (.bl ba,[]):=by have e:=N2 (t:=t) (n:=7) (able:=.non) (WV (ab:=[]) (deep:=0) (by lia) (by lia) h (by simp;lia));simp only[Eu]at e;have b:bF 8 [.tup t.dats,.lst [],.int 0]=b3 (.lst ((t.sgt []).map .bl),[]):=e;unfold cB;rw[bD];unfold PX;simp[a9,T6,a,s1,b]
def isW:Kd->Bool
 |.w=>ba
 |_=>bb
def aS.rw{M:Int->Prop}{row:cU}(h:aS M row):∃r:Rw,row=r.dat/\r.Ok M/\isW (LH .w row)=r.mk:=by
 cases h with
 | @number n a b=>exact⟨.num n,rfl,⟨a,b⟩,by kernel_rfl⟩
 | @two x a b g d f=>
  refine⟨.two x a b,rfl,⟨g,d,f⟩,?_⟩;rcases d7 g with rfl|rfl|rfl|rfl|rfl|rfl|rfl<;>kernel_rfl
 | @pick c a b hc d f=>exact⟨.pick c a b,rfl,⟨hc,d,f⟩,by kernel_rfl⟩
 | @load p a b=>exact⟨.load p,rfl,⟨a,b⟩,by kernel_rfl⟩
 | @take p c a e h1 hc d=>exact⟨.take p c a,rfl,⟨⟨e,h1⟩,hc,d⟩,by kernel_rfl⟩
 | @store p a e h1 d=>exact⟨.store p a,rfl,⟨⟨e,h1⟩,d⟩,by kernel_rfl⟩
 | @put p a c e h1 d hc=>exact⟨.put p a c,rfl,⟨⟨e,h1⟩,d,hc⟩,by kernel_rfl⟩
def Rw.Ok.wr{M:Int->Prop}{r:Rw}(h:r.Ok M):(!decide ("store"=r.hd)&&!decide ("put"=r.hd))=r.mk:=by
 cases r with
 |two x a b=>
  have d:=(dne h.1 (y:= "store") (by decide)).2;have c:=(dne h.1 (y:= "put") (by decide)).2;simp[Rw.hd,Rw.mk,d,c]
 |_=>simp[Rw.hd,Rw.mk]
section
variable{ns:List Int}{room:Int}{deep:Nat}
def sD(N:Nat)(zs:List Int):cU:=.nst [b4,b3 zs.length] (.int N::zs.map .int)
noncomputable def N4(ns:List Int)(n:Nat)(m:Int)(deep N:Nat)(zs:List Int)(room:Int)(rows:List cU)(a b c d e f g:Sl):Ev:=
 [.va (VY ns),.ow (XH n),.va (.int m),.va (.int deep),.ow (sD N zs),.va (.int room),.ow (.lst rows),a,b,c,d,e,f,g]
def eS(zs:List Int):RK (.lst (zs.map .int)) (.lst [])=b3 (.bl (!zs.isEmpty)):=by
 have e:=T9 zs;have k1:QA 1 (.lst (zs.map .int)):=YC λd hd=>by obtain⟨c,_,rfl⟩:=Cu.mp hd;exact YB
 have k2:QA 1 (.lst []):=YC YD;rw[Xs k1 k2]at e;rw[DF k1 k2];injection e with e;injection e with e;rw[e]
noncomputable abbrev Tst:VB:=T4 (fB (f2 RK (fNl 4 1) (aZ cK))) (T4 (fB (f2 oLt (fV 3) (fC (.int 3)))) (T4 (fB (f2 oGt (fV 2) (fC (.int 1)))) (fB (f2 WD (cI 3 [1] b5 (aE (fV 0) (aO 1 (aE (fC (.int 4)) b7)))) (fC (.int 0))))))
def V9{zs:List Int}:(zs.map cU.int).take zs.length=zs.map .int:=Cn (by simp)
def KY{zs:List Int}:(zs.map cU.int).drop zs.length=[]:=List.drop_of_length_le (by simp)
def kH{n N:Nat}{m:Int}{zs:List Int}{rows:List cU}(hl:ns.length<=63)(p:n<700000)(a b c d e f g:Sl):∃j t,(t=ba->0<zs.length/\deep<3/\1<m)/\n<=j/\j<=n+1/\Tst (N4 ns n m deep N zs room rows a b c d e f g)=b3 (t,N4 ns j m deep N zs room rows a b c d e f g):=by
 have i:=eS zs;have tk:=V9 (zs:=zs);cases zs with
 |nil=>exact⟨n,bb,by simp,by lia,by lia,by simp at i;simp[N4,sD,i]⟩
 |cons z zs=>
  generalize hz:z::zs=ys at*;have l:0<ys.length:=by rw[<-hz];simp
  have k:ys.isEmpty=bb:=by rw[<-hz];rfl
  rw[k]at i;simp only[N4,sD];generalize ys.map cU.int=Z at*;by_cases h1:deep<3
  ·have h : (deep : Int) < 3 := by lia
   by_cases h2:1<m
   ·have o := Y9 ns n 4 hl (by lia) (by decide)
    refine⟨n+1,decide (MJ ns n 4=0),λ_=>⟨l,h1,h2⟩,by lia,by lia,?_⟩;simp[tk,i,h,h2,o]
   ·exact⟨n,bb,by simp,by lia,by lia,by simp[tk,i,h,h2]⟩
  ·have h : ¬ (deep : Int) < 3 := by lia
   exact⟨n,bb,by simp,by lia,by lia,by simp[tk,i,h]⟩
def pU{R:bP}{n i N:Nat}{m:Int}{zs:List Int}{rows:List cU}{a b c d e f g:Sl}(hl:ns.length<=63)(x:i<600000)(v:0<room)(o:room<=64)(hz:zs.length<1000)(hw:rows.length<1000)(p:Tst (N4 ns n m deep N zs room rows a b c d e f g)=b3 (bb,N4 ns i m deep N zs room rows a b c d e f g)):∃(r:Rw) (n':Nat),r.Ok (· ∈zs)/\i<=n'/\n'<=i+10/\aG R (N4 ns n m deep N zs room rows a b c d e f g)=b3 (.nx (N4 ns n' (m-1) deep (N+1) (if r.mk=ba then zs++[(N:Int)]else zs) room (rows++[r.dat]) a b c d e f (.va r.dat))):=by
 obtain⟨row,n',u,h1,h2,_,w,_,s⟩:=Yw ns i zs (.dct [] []) room hl (by lia) ⟨[],[],rfl,rfl,Sm,Er _⟩ v o;obtain⟨r,rfl,q,_⟩:=w.rw;refine⟨r,n',q,h1,h2,?_⟩;have h:=q.wr;have tk:=V9 (zs:=zs);have t:=KY (zs:=zs);have l:(zs.map cU.int).length=zs.length:=by simp
 have k:zs.length<16777216:=by lia
 have j:rows.length<16777216:=by lia
 unfold aG;unfold Tst at p;rw[Yv,p];cases hk:r.mk with
 |true=>
  rw[hk]at h;simp only[if_true];simp only[N4,sD,Ge,Ba,Eu,Bw,Eb];generalize zs.map cU.int=Z at*;simp[tk,t,s,h,l,k,j]
 |false=>
  rw[hk]at h;simp only[De,if_false];simp only[N4,sD];generalize zs.map cU.int=Z at*;simp[tk,t,s,h,j]
inductive RSr(ns:List Int)(room:Int)(deep:Nat)(R:bP)(ab:List Bool)(zs:List Int)(n af:Nat):Prop
 |mk (t:Ts) (n':Nat) (h1:t.Wf ab) (h2:t.size=af) (h3:t.dep+deep<=3) (h4:n'<=n+12*af) (h5:R [VY ns,XH n,.int af,.int deep,sD ab.length zs,.int room]=b3 (.tup t.dats,[XH n',sD (ab.length+af) zs])):RSr ns room deep R ab zs n af
abbrev RSp(ns:List Int)(room:Int)(deep:Nat)(R:bP):Prop:=∀(ab:List Bool) (zs:List Int) (n a:Nat),(∀z∈zs,Ab ab z)->zs.length<=ab.length->ab.length+a<=16->n+12*a<500000->RSr ns room deep R ab zs n a
inductive SIf(R:bP)(ns:List Int)(room:Int)(deep m n1:Nat)(ab:List Bool)(zs:List Int)(rows:List cU)(a g:Sl)(δ:Ev):Prop
 |mk (k:Int) (x y:Ts) (n':Nat) (b' c' d' e' f':Sl) (h1:Ab ab k) (h2:x.Wf (ab++[bb])) (h3:y.Wf (ab++[bb]++U7 x.size)) (h4:1+(x.size+y.size)<=m) (h5:1+max x.dep y.dep+deep<=3) (h6:n'<=n1+2+12*(x.size+y.size)) (h7:aG R δ=b3 (.nx (N4 ns n' ((m-(1+(x.size+y.size)):Nat):Int) deep (ab.length+(1+(x.size+y.size))) zs room (rows++[.tup [.str "if",.int k,.tup x.dats,.tup y.dats]]) a b' c' d' e' f' g))):SIf R ns room deep m n1 ab zs rows a g δ
def oJ{R:bP}{n o m:Nat}{ab:List Bool}{zs:List Int}{rows:List cU}{a b c d e f g:Sl}(E:RSp ns room (deep+1) R)(hl:ns.length<=63)(V:o+12*m<500001)(W:1<m)(hz:∀z∈zs,Ab ab z)(O:zs.length<=ab.length)(t:0<zs.length)(hk:ab.length+m<=16)(hw:rows.length<1000)(D:Tst (N4 ns n m deep ab.length zs room rows a b c d e f g)=b3 (ba,N4 ns o m deep ab.length zs room rows a b c d e f g)):SIf R ns room deep m o ab zs rows a g (N4 ns n m deep ab.length zs room rows a b c d e f g):=by
 obtain⟨q,P,Q⟩:=YS ns o (zs.map .int) hl (by lia) (by simpa using t);obtain⟨k,v,rfl⟩:=Cu.mp P;have F:=Y9 ns (o+1) m hl (by lia) (by lia);have d0:=SM ns (o+1) (b:=m) (by lia);have S:=MZ ns (o+1) (b:=m) (by lia);obtain⟨i,hi⟩:=Ls d0;rw[hi]at F S;obtain⟨x,N,L,K,U,J,s⟩:=E (ab++[bb]) zs (o+2) (i-i/2) (λz h=>(hz z h).app) (by simp;lia) (by simp;lia) (by lia);obtain⟨y,M,I,H,T,G,r⟩:=E (ab++[bb]++U7 x.size) zs N (i/2) (λz h=>(hz z h).app.app) (by simp;lia) (by simp;lia) (by lia);have p:x.size+y.size=i:=by lia
 have f1:(i:Int)/2=((i/2:Nat):Int):=by lia
 have w:(i:Int)-((i/2:Nat):Int)=((i-i/2:Nat):Int):=by lia
 have f3:((m-(1+i):Nat):Int)=(m:Int)-1-i:=by lia
 have C:(ab++[bb]).length=ab.length+1:=by simp
 have B:(ab++[bb]++U7 x.size).length=ab.length+1+(i-i/2):=by simp;lia
 have A:ab.length+1+(i-i/2)+i/2=ab.length+(1+i):=by lia
 rw[C]at s;rw[B,A]at r;refine⟨k,x,y,M,.va (.int k),.va (.int i),.va (.int ((i/2:Nat):Int)),.va (.tup x.dats),.va (.tup y.dats),hz k v,L,I,by lia,by lia,by lia,?_⟩;have tk:=V9 (zs:=zs);have u:rows.length<16777216:=by lia
 unfold aG;unfold Tst at D;rw[Yv,D,p,f3];simp only[N4,sD]at s r⊢;generalize zs.map cU.int=Z at*;generalize x.dats=X at*;generalize y.dats=Y at*;clear p C B A K J H G;generalize i-i/2=l at*;generalize i/2=j at*;simp only[Int.natCast_add,Int.natCast_one]at s r;simp[cU.hard,cDiv,tk,Q,F,f1,w,s,r,u]
inductive RLp(R:bP)(q:Nat)(ns:List Int)(room:Int)(deep m n:Nat)(ab:List Bool)(zs:List Int)(rows:List cU)(a:Sl)(δ:Ev):Prop
 |mk (t:Ts) (n':Nat) (ex:List Int) (b' c' d' e' f' g':Sl) (h1:t.Wf ab) (h2:t.size=m) (h3:t.dep+deep<=3) (h4:n'<=n+12*m) (h5:aX (fB (f2 oGt (fV 2) (fC (.int 0)))) (aG R) (q+1) δ=b3 (.nx (N4 ns n' 0 deep (ab.length+m) (zs++ex) room (rows++t.dats) a b' c' d' e' f' g'))):RLp R q ns room deep m n ab zs rows a δ
theorem J3{R:bP}(hl:ns.length<=63)(u:0<room)(i:room<=64)(hd:deep<=3)(w:deep<3->RSp ns room (deep+1) R):∀(q m:Nat) {ab:List Bool}{zs:List Int}{n:Nat}{rows:List cU},m<=q->(∀z∈zs,Ab ab z)->zs.length<=ab.length->ab.length+m<=16->rows.length+m<=100->n+12*m<500000->∀a b c d e f g,RLp R q ns room deep m n ab zs rows a (N4 ns n m deep ab.length zs room rows a b c d e f g)
 |q,0,ab,zs,n,rows,_,_,_,_,_,_,a,b,c,d,e,f,g=>⟨.nil,n,[],b,c,d,e,f,g,trivial,rfl,by simpa[Ts.dep]using hd,by lia,by rw[RF (δ1:=N4 ns n 0 deep ab.length zs room rows a b c d e f g) (by simp[N4])];simp[Ts.dats]⟩
 |0,m+1,ab,zs,n,rows,h,_,_,_,_,_,a,b,c,d,e,f,g=>by lia
 | q + 1,m + 1,ab,zs,n,rows,hq,hz,p,hk,hw,hn,a,b,c,d,e,f,g => by
  have H:fB (f2 oGt (fV 2) (fC (.int 0))) (N4 ns n ((m+1:Nat):Int) deep ab.length zs room rows a b c d e f g)=b3 (ba,N4 ns n ((m+1:Nat):Int) deep ab.length zs room rows a b c d e f g):=by
   have:0<((m+1:Nat):Int):=by lia
   generalize ((m+1:Nat):Int)=M at*;simp[N4,this]
  obtain⟨n1,t,Q,t2,t3,te⟩:=kH (ns:=ns) (room:=room) (deep:=deep) (n:=n) (N:=ab.length) (m:=((m+1:Nat):Int)) (zs:=zs) (rows:=rows) hl (by lia) a b c d e f g;cases t with
  |false=>
   obtain⟨r,o,T,r1,r2,C⟩:=pU (R:=R) hl (by lia) u i (by lia) (by lia) te;have s:∀z∈(if r.mk=ba then zs++[(ab.length:Int)]else zs),Ab (ab++[r.mk]) z:=λz h=>by
    split at h
    ·rename_i hk
     rcases By.mp h with h|h
     ·exact(hz z h).app
     ·rw[At.mp h,hk];exact Ab.new
    ·exact(hz z h).app
   obtain⟨t,n',ex,F,E,d',D,A,g',l,P,G,O,j⟩:=J3 hl u i hd w q m (n:=o) (rows:=rows++[r.dat]) (by lia) s (by split<;>simp<;>lia) (by simp;lia) (by simp;lia) (by lia) a b c d e f (.va r.dat);refine⟨.row r t,n',(if r.mk=ba then[(ab.length:Int)]else[])++ex,F,E,d',D,A,g',⟨T.imp hz,l⟩,by simp only[Ts.size];lia,by simp only[Ts.dep];exact G,by lia,?_⟩;rw[RG H C,show((m+1:Nat):Int)-1=m by lia];rw[Bw,Eb]at j;rw[j,show ab.length+1+m=ab.length+(m+1) by lia];rw[Ts.dats,Ay,Ix];split<;>simp
  |true=>
   obtain⟨J,I,Y⟩:=Q rfl;obtain⟨k,x,y,o,X,W,V,B,f1,v,L,K,Z,dp,U,C⟩:=oJ (w I) hl (by lia) (by lia) hz p J hk (by lia) te;obtain⟨t,n',ex,F,E,d',D,A,g',l,P,G,O,j⟩:=J3 hl u i hd w q (m+1-(1+(x.size+y.size))) (ab:=ab++[bb]++U7 x.size++U7 y.size) (zs:=zs) (n:=o) (rows:=rows++[.tup [.str "if",.int k,.tup x.dats,.tup y.dats]]) (by lia) (λz h=>(hz z h).app.app.app) (by simp;lia) (by simp;lia) (by simp;lia) (by lia) a X W V B f1 g;refine⟨.ifs k x y t,n',ex,F,E,d',D,A,g',⟨v,L,K,l⟩,by simp only[Ts.size];lia,by simp only[Ts.dep];lia,by lia,?_⟩;have S:(ab++[bb]++U7 x.size++U7 y.size).length=ab.length+(1+(x.size+y.size)):=by simp;lia
   rw[S]at j;rw[RG H C,j,show ab.length+(1+(x.size+y.size))+(m+1-(1+(x.size+y.size)))=ab.length+(m+1) by lia];rw[Ts.dats,Ay,Ix]
def NX{R:bP}(hl:ns.length<=63)(q:0<room)(d:room<=64)(hd:deep<=3)(s:deep<3->RSp ns room (deep+1) R){ab:List Bool}{zs:List Int}{n m:Nat}(hz:∀z∈zs,Ab ab z)(b:zs.length<=ab.length)(hk:ab.length+m<=16)(r:n+12*m<500000):∃(t:Ts) (n':Nat) (ex:List Int),t.Wf ab/\t.size=m/\t.dep+deep<=3/\n'<=n+12*m/\Z2 14 [1,4] (ZJ R) [VY ns,XH n,.int m,.int deep,sD ab.length zs,.int room]=b3 (.tup t.dats,[XH n',sD (ab.length+m) (if deep=0 then zs++ex else zs)]):=by
 obtain⟨t,n',ex,A,y,d',x,w,g',o,l,k,j,e⟩:=J3 (R:=R) hl q d hd s m m (n:=n) (rows:=[]) (Ar _) hz b hk (by simp;lia) r (.va (.int zs.length)) .no .no .no .no .no .no;refine⟨t,n',ex,o,l,k,j,?_⟩;have e:=QC e;rw[Fd]at e;have c:((zs++ex).map cU.int).length=zs.length+ex.length:=by simp
 have tk:((zs++ex).map cU.int).take (zs++ex).length=(zs++ex).map .int:=V9;have u:((zs++ex).map cU.int).drop (zs++ex).length=[]:=KY;have p:((zs++ex).map cU.int).take zs.length=zs.map .int:=by rw[Ge];exact Ru (by simp)
 have a:=V9 (zs:=zs);have g:(zs.map cU.int).length=zs.length:=by simp
 have c0:¬(zs.length:Int)<0:=by lia
 have v:(zs.length:Int)<=(zs.length:Int)+ex.length:=by lia
 rw[bD,ZJ.eq_1];simp only[N4,sD]at e⊢;generalize t.dats=T at*;by_cases h:deep=0
 ·subst h
  rw[if_pos rfl];generalize (zs++ex).map cU.int=Y at*;generalize zs.map cU.int=Z at*;generalize (zs++ex).length=i at*;rw[show((0:Nat):Int)=0 from rfl]at e⊢;simp[a9,a,g,e]
 ·have f : 0 < deep := by lia
  rw[if_neg h];generalize (zs++ex).map cU.int=Y at*;generalize zs.map cU.int=Z at*;generalize (zs++ex).length=i at*;simp[a9,a,g,e,f,tk,u,p,c,v]
theorem D2(hl:ns.length<=63)(i:0<room)(b:room<=64):∀(q deep:Nat),3<=deep+q->deep<=3->0<deep->RSp ns room deep (aY (q+1))
 |0,deep,k,hd,l=>λab zs n m hz a hk j=>by obtain⟨t,n',ex,g,f,d,c,e⟩:=NX (R:=aY 0) hl i b hd (λh=>by lia) hz a hk j;rw[if_neg (by lia)]at e;exact⟨t,n',g,f,d,c,e⟩
 |q+1,deep,k,hd,l=>λab zs n m hz a hk j=>by obtain⟨t,n',ex,g,f,d,c,e⟩:=NX (R:=aY (q+1)) hl i b hd (λh=>D2 hl i b q (deep+1) (by lia) (by lia) (by lia)) hz a hk j;rw[if_neg (by lia)]at e;exact⟨t,n',g,f,d,c,e⟩
def pV(hl:ns.length<=63)(b:0<room)(a:room<=64){n m:Nat}(j:m<=16)(i:n+12*m<500000):∃(t:Ts) (n':Nat) (d:cU),t.Wf []/\t.size=m/\t.dep<=3/\n'<=n+12*m/\aY 8 [VY ns,XH n,.int m,.int 0,.nst [b4,b3 0] [.int 0],.int room]=b3 (.tup t.dats,[XH n',d]):=by obtain⟨t,n',ex,g,f,k,c,e⟩:=NX (R:=aY 7) (deep:=0) (ab:=[]) (zs:=[]) hl b a (by lia) (λh=>D2 hl b a 6 1 (by lia) (by lia) (by lia)) (λ_ h=>nomatch h) (Ar _) (by simpa using j) i;exact⟨t,n',_,g,f,by lia,c,e⟩
def qR(hl:ns.length<=63){n:Nat}(w:n<1000):∃(sure:Int) (t:Ts) (n':Nat),t.Wf []/\t.size<=12/\t.dep<=3/\0<=sure/\sure<=64/\n'<=n+300/\ZA [VY ns,XH n,.int 12]=b3 (.tup [.int sure,.tup t.dats],[XH n']):=by
 obtain⟨x,d,ex⟩:=YS ns n [.int 3,.int 6,.int 64] hl (by lia) (by simp);obtain⟨room,rfl,j,i⟩:∃q:Int,x=.int q/\0<q/\q<=64:=by simp only[Am,Ax,or_false]at d;rcases d with rfl|rfl|rfl<;>exact⟨_,rfl,by lia,by lia⟩
 have e:=Y9 ns (n+1) 13 hl (by lia) (by lia);have l:=SM ns (n+1) (b:=13) (by lia);have k:=MZ ns (n+1) (b:=13) (by lia);obtain⟨m,o⟩:=Ls l;rw[o]at e k;obtain⟨t,a,dd,g,v,f,u,r⟩:=pV (ns:=ns) (n:=n+1+1) (m:=m) hl j i (by lia) (by lia);have s:=Y9 ns a (room+1) hl (by lia) (by lia);have q0:=SM ns a (b:=room+1) (by lia);have q1:=MZ ns a (b:=room+1) (by lia);obtain⟨y,c,p⟩:=YS ns (a+1) [.int 0,.int room,.int (MJ ns a (room+1))] hl (by lia) (by simp);obtain⟨sure,rfl,h,s1⟩:∃q:Int,y=.int q/\0<=q/\q<=64:=by simp only[Am,Ax,or_false]at c;rcases c with rfl|rfl|rfl<;>exact⟨_,rfl,by lia,by lia⟩
 refine⟨sure,t,a+1+1,g,by lia,f,h,s1,by lia,?_⟩;generalize MJ ns a (room+1)=z at*;generalize t.dats=T at*;unfold ZA;rw[bD];unfold RZ;simp[a9,ex,e,r,s,p]
end
section
def pN{kds:List Kd}{a:Int}(h:Nm kds .w a):Ab (kds.map isW) a:=⟨h.1,by rw[Ds,h.2];rfl⟩
def Bl.rws{kds c:List Kd}{rows:List cU}(h:Bl kds rows c):∃b:List Rw,rows=b.map Rw.dat/\Wfs (kds.map isW) b:=by
 induction h with
 |nil=>exact⟨[],rfl,trivial⟩
 | @cons kds c row rows ok _ d=>
  obtain⟨b,e,w⟩:=d;obtain⟨r,rfl,f,g⟩:=ok.rw;refine⟨r::b,by rw[e];rfl,f.imp λa=>pN,?_⟩;rw[Ge,List.map_singleton,g]at w;exact w
noncomputable def IG:List Rw->Ts
 |[]=>.nil
 |r::a=>.row r (IG a)
theorem L5:∀a,(IG a).dats=a.map Rw.dat
 |[]=>rfl
 |r::a=>by rw[IG,Ts.dats,L5 a];rfl
theorem QF:∀a,(IG a).size=a.length/\(IG a).dep=0
 |[]=>⟨rfl,rfl⟩
 |r::a=>by obtain⟨h1,h2⟩:=QF a;exact⟨by rw[IG,Ts.size,h1,Bx];lia,h2⟩
theorem EE:∀{a:List Rw}{ab:List Bool},Wfs ab a->(IG a).Wf ab
 |[],_,_=>trivial
 |r::a,_,⟨h1,h2⟩=>⟨h1,EE h2⟩
end
noncomputable def AY(k:Int):Option (cU×List cU)->Bool
 |some (.tup [.str "refused",.int j],[])=>j==k
 |_=>bb
def OL{k:Int}{r:Option (cU×List cU)}(h:AY k r=ba):r=b3 (.tup [.str "refused",.int k],[]):=by
 unfold AY at h;split at h
 ·rw[beq_iff_eq.mp h];rfl
 ·cases h
noncomputable def AX:Option (cU×List cU)->Bool
 |some (.bl bb,[])=>ba
 |_=>bb
def OK{r:Option (cU×List cU)}(h:AX r=ba):r=b3 (.bl bb,[]):=by
 unfold AX at h;split at h
 ·rfl
 ·cases h
noncomputable def badL:List cU:=[.non,.tup [.int 0],.lst (Aw 65 (.int 0))]
noncomputable def badR:List (List cU):=[Aw 64 (.int 1000),Aw 64 (.str "0")]
def lD:badR.all (λds=>AX (ZU [.lst ds,.int 64]))=ba:=by kernel_rfl
def dH:(Bf 65).all (λs=>badL.all (λx=>AX (ZU [x,.int s])))=ba:=by kernel_rfl
def qk:XM [EY (("NoCells":Uq),b4)]=b3 (.tup [.str "refused",.int 1],[]):=by kernel_rfl
def Wi{ds:List cU}(hd:ds∈badR){sure:Int}(s1:sure<=64):ZU [.lst ds,.int sure]=b3 (.bl bb,[]):=by
 have e:=OK (Dn.mp lD ds hd);have hl:ds.length=64:=by simp only[badR,Am,Ax,or_false]at hd;rcases hd with rfl|rfl<;>simp
 rw[<-e];unfold ZU;rw[bD,bD];unfold RT;simp[a9,U4,hl,s1];rw[show aM [] [Sl.va (cU.lst ds),Sl.va (cU.int sure)]=aM [] [Sl.va (cU.lst ds),Sl.va (cU.int 64)] from rfl];generalize ZO 0 1 (gN 0) UW (cI 3 [] a7 (aE (fV 0) (aE (fC (cU.int 0)) (aE (fC XN) b7)))) ds [] (aM [] [Sl.va (cU.lst ds),Sl.va (cU.int 64)])=c;rcases c with _|⟨a,b⟩
 ·rfl
 ·show BO [] (qRet ((BD (.lst a)).map λz => (z,_))) = BO [] (qRet ((BD (.lst a)).map λz => (z,_)))
  cases BD (.lst a)<;>rfl
def ER{d:cU}(hd:d∈badL){sure:Int}(a:0<=sure)(s1:sure<=64):ZU [d,.int sure]=b3 (.bl bb,[]):=by
 have:=Dn.mp dH sure.toNat (Db.mpr (by lia))
 have:=Dn.mp this d hd
 rw[Oa a]at this;exact OK this
def fK:qRet b4=b4:=(rfl)
def pl2{a b:cU}:VE [.d a,.d b]=b3 [a,b]:=(rfl)
def gW{d t:cU}{sure:Int}(a:cB [.tup [.int sure,t]]=b3 (.bl ba,[]))(hc:ZU [d,.int sure]=b3 (.bl bb,[])):a6 [.int 1,.tup [.int sure,t],d]=b3 (.tup [.str "refused",.int 1],[]):=by
 have r:XV [.tup [.int sure,t],d]=b3 ((("NoCells":Uq),b4):Xw):=by unfold XV BV SI;simp[a9,CH,zSeq,zIf,zNo,a,hc]
 unfold a6;rw[bD];unfold PY;simp[a9,sTry,D8,CH,zSeq,zIf,zNo,MC,r,qk,fK,pl2]
noncomputable def gl1:VS:=(aV 1 (xO (aZ cK)))
noncomputable def gl2:VS:=(PJ 2 3 (xV (cI 3 [1] ZA (aE (fV 0) (aO 1 (aE (fC (.int 12)) b7))))) (xV (cI 3 [1] ZX (aE (fV 0) (aO 1 (aE (fC (.int 20)) b7))))))
noncomputable def gl3:VS:=(XJ (OC (fB (f2 YI (cI 1 [] cB (aE (fV 2) b7)) (fC (.bl ba)))) (fB (f2 YI (cI 1 [] cB (aE (fV 3) b7)) (fC (.bl ba))))) (bI (fC (.bl bb))) Z5)
noncomputable def gl4:VS:=(BW (fC (.tup [.tup [.str "load",.int 0],.tup []])) (EZ 2 (aD (gN 4) (aD (gN 5) V1))))
noncomputable def gl5:VS:=(UL (E1 (fC (.int 3))) (gN 6) CO)
noncomputable def gl6:VS:=(XJ (OC (fB (f2 YI (cI 1 [] cB (aE (cC (cV (fC (.int 1)) (cV (f2 aJ (cC (cV (fV 4) cK)) (fV 5)) cK))) b7)) (fC (.bl ba)))) (fB (f2 YI (cI 1 [] cB (aE (cC (cV (fC (.int 1)) (cV (cC (cV (fV 4) (cV (cC (cV (fC (.str "if")) (cV (fC (.int 0)) (cV (fV 5) (cV (cC cK) cK))))) cK))) cK))) b7)) (fC (.bl bb))))) (bI (fC (.bl bb))) Z5)
noncomputable def gl7:VS:=(aV 7 (xV (cC cK)))
noncomputable def gl8:VS:=(UL (E1 (fC (.int 3))) (gN 6) CN)
noncomputable def gl9:VS:=(XJ (OC (fB (f2 YI (cI 1 [] cB (aE (cC (cV (fC (.int 1)) (cV (f2 aJ (cC (cV (fV 4) cK)) (fV 7)) cK))) b7)) (fC (.bl ba)))) (fB (f2 YI (cI 1 [] cB (aE (cC (cV (fC (.int 1)) (cV (cC (cV (fV 4) (cV (cC (cV (fC (.str "if")) (cV (fC (.int 0)) (cV (cC cK) (cV (fV 7) cK))))) cK))) cK))) b7)) (fC (.bl bb))))) (bI (fC (.bl bb))) Z5)
noncomputable def gl10:VS:=(aV 8 (xV (cI 3 [1] b8 (aE (fV 0) (aO 1 (aE (cI 1 [] aB (aE (fV 4) b7)) b7))))))
noncomputable def gl11:VS:=(XJ (OC (fB (f2 YI (cI 1 [] cB (aE (cC (cV (fC (.int 1)) (cV (fV 8) cK))) b7)) (fC (.bl bb)))) (fB (f2 RK (ZP [8] 1 (E1 (fC (.int 2))) (gN 1) UW (cI 3 [] a6 (aE (fV 1) (aE (cC (cV (fC (.int 1)) (cV (fV 0) cK))) (aE (fC .non) b7))))) (f2 Y4 (fC (.lst [.tup [.str "refused",.int 6]])) (fC (.int 2)))))) (bI (fC (.bl bb))) Z5)
noncomputable def gl12:VS:=(aV 9 (xV (cI 3 [1] b8 (aE (fV 0) (aO 1 (aE (fC (.lst [.non,.int 5,.tup [],.tup [.int 0],.lst [.int 0,.tup []],.tup [.int 65,.tup []],.tup [.bl ba,.tup []],.tup [.int 0,.tup [],.tup []],.str "tree"])) b7))))))
noncomputable def gl13:VS:=(XJ (OC (fB (f2 YI (cI 1 [] cB (aE (fV 9) b7)) (fC (.bl bb)))) (fB (f2 RK (ZP [9] 1 (E1 (fC (.int 2))) (gN 1) UW (cI 3 [] a6 (aE (fV 1) (aE (fV 0) (aE (fC .non) b7))))) (f2 Y4 (fC (.lst [.tup [.str "refused",.int 6]])) (fC (.int 2)))))) (bI (fC (.bl bb))) Z5)
noncomputable def gl14:VS:=(UL (UX (aZ (cV (fC .non) (cV (cC (cV (fC (.int 0)) cK)) (cV (f2 Y4 (aZ (cV (fC (.int 0)) cK)) (fC (.int 65))) (cV (f2 Y4 (aZ (cV (fC (.int 1000)) cK)) (fC (.int 64))) (cV (f2 Y4 (aZ (cV (fC (.str "0")) cK)) (fC (.int 64))) cK))))))) (gN 10) TC)
noncomputable def gl15:VS:=(aV 11 (xV (cC (cV (fV 4) (cV (cC (cV (fC (.str "plus")) (cV (fC (.int 4)) (cV (fC (.int 0)) cK)))) (cV (fC (.tup [.str "if",.int 5,.tup [.tup [.str "store",.int 3,.int 5]],.tup []])) cK))))))
noncomputable def gl16:VS:=(aV 12 (xV (cC (cV (fV 4) (cV (cC (cV (fC (.str "if")) (cV (fC (.int 0)) (cV (cC (cV (fV 4) (cV (cC (cV (fC (.str "plus")) (cV (fC (.int 0)) (cV (fC (.int 2)) cK)))) cK))) (cV (fV 11) cK))))) (cV (cC (cV (fC (.str "plus")) (cV (fC (.int 0)) (cV (fC (.int 0)) cK)))) cK))))))
noncomputable def gl17:VS:=(bI (RQ (f2 BE (cI 1 [] cB (aE (cC (cV (fC (.int 0)) (cV (fV 12) cK))) b7)) (fC (.bl ba))) (f2 BE (cI 1 [] cB (aE (cC (cV (fC (.int 1)) (cV (cC (cV (fV 4) (cV (cC (cV (fC (.str "if")) (cV (fC (.int 0)) (cV (f2 Y4 (cC (cV (fV 4) cK)) (fC (.int 9))) (cV (f2 Y4 (cC (cV (fV 4) cK)) (fC (.int 9))) cK))))) cK))) cK))) b7)) (fC (.bl ba)))))
def lV:Vh=cD gl1 (cD gl2 (cD gl3 (cD gl4 (cD gl5 (cD gl6 (cD gl7 (cD gl8 (cD gl9 (cD gl10 (cD gl11 (cD gl12 (cD gl13 (cD gl14 (cD gl15 (cD gl16 (gl17)))))))))))))))):=rfl
abbrev rf(k:Int):cU:=.tup [.str "refused",.int k]
abbrev MP:cU:=.tup [.str "load",.int 0]
noncomputable def badT:List cU:=match aB [MP]with
 |some (.lst ds,_)=>ds
 |_=>[]
def eP:aB [MP]=b3 (.lst badT,[]):=by kernel_rfl
def iC:badT.length=16:=by kernel_rfl
def dI:badT.all (λx=>AX (cB [.tup [.int 1,x]])&&(AY 6 (a6 [.int 0,.tup [.int 1,x],.non])&&AY 6 (a6 [.int 1,.tup [.int 1,x],.non])))=ba:=by kernel_rfl
noncomputable def BG:List cU:=[.non,.int 5,.tup [],.tup [.int 0],.lst [.int 0,.tup []],.tup [.int 65,.tup []],.tup [.bl ba,.tup []],.tup [.int 0,.tup [],.tup []],.str "tree"]
def BH:BG.all (λx=>AX (cB [x])&&(AY 6 (a6 [.int 0,x,.non])&&AY 6 (a6 [.int 1,x,.non])))=ba:=by kernel_rfl
noncomputable def dpT:Nat->cU
 |0=>.tup []
 |n+1=>.tup [.tup [.str "if",.int 0,dpT n,.tup [MP]]]
noncomputable def lsT:Nat->cU
 |0=>.tup []
 |n+1=>.tup [.tup [.str "if",.int 0,.tup [MP],lsT n]]
noncomputable def GB:List cU:=[.non,.tup [.int 0],.lst (Aw 65 (.int 0)),.lst (Aw 64 (.int 1000)),.lst (Aw 64 (.str "0"))]
def fR:RK (rf 1) (rf 1)=b3 (.bl bb):=by kernel_rfl
def nb_t:YI (.bl ba) (.bl ba)=b3 (.bl bb):=(rfl)
def nb_f:YI (.bl bb) (.bl bb)=b3 (.bl bb):=(rfl)
def oG(a:cU):gl1 [.va a,.no,.no,.no,.no,.no,.no,.no,.no,.no,.no,.no,.no]=b3 (.nx [.va a,.ow (.lst []),.no,.no,.no,.no,.no,.no,.no,.no,.no,.no,.no]):=rfl
def iX{a b t l d c:cU}(h:ZA [a,b,.int 12]=b3 (t,[d]))(h2:ZX [a,d,.int 20]=b3 (l,[c])):gl2 [.va a,.ow b,.no,.no,.no,.no,.no,.no,.no,.no,.no,.no,.no]=b3 (.nx [.va a,.ow c,.va t,.va l,.no,.no,.no,.no,.no,.no,.no,.no,.no]):=by unfold gl2;simp[h,h2]
def lH{a b t l:cU}(h:cB [t]=b3 (.bl ba,[]))(h2:cB [l]=b3 (.bl ba,[])):gl3 [.va a,.ow b,.va t,.va l,.no,.no,.no,.no,.no,.no,.no,.no,.no]=b3 (.nx [.va a,.ow b,.va t,.va l,.no,.no,.no,.no,.no,.no,.no,.no,.no]):=by unfold gl3;simp[h,h2,nb_t]
def mS{a b c d:Sl}:gl4 [a,b,c,d,.no,.no,.no,.no,.no,.no,.no,.no,.no]=b3 (.nx [a,b,c,d,.va MP,.va (dpT 0),.no,.no,.no,.no,.no,.no,.no]):=by kernel_rfl
def mG{a b c d:Sl}:gl5 [a,b,c,d,.va MP,.va (dpT 0),.no,.no,.no,.no,.no,.no,.no]=b3 (.nx [a,b,c,d,.va MP,.va (dpT 3),.va (.int 2),.no,.no,.no,.no,.no,.no]):=by kernel_rfl
def iR{a b c d:Sl}:gl6 [a,b,c,d,.va MP,.va (dpT 3),.va (.int 2),.no,.no,.no,.no,.no,.no]=b3 (.nx [a,b,c,d,.va MP,.va (dpT 3),.va (.int 2),.no,.no,.no,.no,.no,.no]):=by kernel_rfl
def dU{a b c d e f g:Sl}:gl7 [a,b,c,d,e,f,g,.no,.no,.no,.no,.no,.no]=b3 (.nx [a,b,c,d,e,f,g,.va (lsT 0),.no,.no,.no,.no,.no]):=by kernel_rfl
def mH{a b c d f g:Sl}:gl8 [a,b,c,d,.va MP,f,g,.va (lsT 0),.no,.no,.no,.no,.no]=b3 (.nx [a,b,c,d,.va MP,f,.va (.int 2),.va (lsT 3),.no,.no,.no,.no,.no]):=by kernel_rfl
def mV{a b c d f g:Sl}:gl9 [a,b,c,d,.va MP,f,g,.va (lsT 3),.no,.no,.no,.no,.no]=b3 (.nx [a,b,c,d,.va MP,f,g,.va (lsT 3),.no,.no,.no,.no,.no]):=by kernel_rfl
def eF{a b x i:cU}{c d f g e:Sl}(h:b8 [a,b,.lst badT]=b3 (x,[i])):gl10 [.va a,.ow b,c,d,.va MP,f,g,e,.no,.no,.no,.no,.no]=b3 (.nx [.va a,.ow i,c,d,.va MP,f,g,e,.va x,.no,.no,.no,.no]):=by unfold gl10;simp[h,eP]
def rep2:WS 2 [cU.tup [.str "refused",.int 6]]=[rf 6,rf 6]:=(rfl)
def ne2:RK (.lst [rf 6,rf 6]) (.lst [rf 6,rf 6])=b3 (.bl bb):=by kernel_rfl
def jV{x:cU}{a b c d e f g h:Sl}(j:x∈badT):gl11 [a,b,c,d,e,f,g,h,.va x,.no,.no,.no,.no]=b3 (.nx [a,b,c,d,e,f,g,h,.va x,.no,.no,.no,.no]):=by
 have:=Dn.mp dI x j
 obtain⟨h1,this⟩:=(Ad _ _).mp this;obtain⟨h2,i⟩:=(Ad _ _).mp this;have h1:=OK h1;have h2:_=b3 (rf 6,[]):=OL h2;have i:_=b3 (rf 6,[]):=OL i;unfold gl11;simp[h1,h2,i,aM,rep2,ne2,nb_f]
def qf{a b x k:cU}{c d f g e h i:Sl}(j:b8 [a,b,.lst BG]=b3 (x,[k])):gl12 [.va a,.ow b,c,d,e,f,g,h,i,.no,.no,.no,.no]=b3 (.nx [.va a,.ow k,c,d,e,f,g,h,i,.va x,.no,.no,.no]):=by unfold BG at j;unfold gl12;simp[j]
def oW{x:cU}{a b c d e f g h i:Sl}(k:x∈BG):gl13 [a,b,c,d,e,f,g,h,i,.va x,.no,.no,.no]=b3 (.nx [a,b,c,d,e,f,g,h,i,.va x,.no,.no,.no]):=by
 have:=Dn.mp BH x k
 obtain⟨h1,this⟩:=(Ad _ _).mp this;obtain⟨h2,j⟩:=(Ad _ _).mp this;have h1:=OK h1;have h2:_=b3 (rf 6,[]):=OL h2;have j:_=b3 (rf 6,[]):=OL j;unfold gl13;simp[h1,h2,j,aM,rep2,ne2,nb_f]
def b1_e{a b d e f g h i j:Sl}{l x:cU}{u v:Sl}(c:a6 [.int 1,l,x]=b3 (rf 1,[])):TC [a,b,.va l,d,e,f,g,h,i,j,.va x,u,v]=b3 (.nx [a,b,.va l,d,e,f,g,h,i,j,.va x,u,v]):=by unfold TC;simp[c,fR]
def qG{a b d e f g h i j:Sl}{t:cU}{sure:Int}(l:0<=sure)(s1:sure<=64)(q:cB [.tup [.int sure,t]]=b3 (.bl ba,[])):∃u:Sl,gl14 [a,b,.va (.tup [.int sure,t]),d,e,f,g,h,i,j,.no,.no,.no]=b3 (.nx [a,b,.va (.tup [.int sure,t]),d,e,f,g,h,i,j,u,.no,.no]):=by
 have p:∀x∈GB,a6 [.int 1,.tup [.int sure,t],x]=b3 (rf 1,[]):=λx n=>gW q (by
  simp only[GB,Am,Ax,or_false]at n;rcases n with rfl|rfl|rfl|rfl|rfl
  ·exact ER (by simp[badL]) l s1
  ·exact ER (by simp[badL]) l s1
  ·exact ER (by simp[badL]) l s1
  ·exact Wi (by simp[badR]) s1
  ·exact Wi (by simp[badR]) s1)
 have run:∀(ds:List cU) (u:Sl),(∀x∈ds,x∈GB)->∃k,WP (gN 10) TC ds [a,b,.va (.tup [.int sure,t]),d,e,f,g,h,i,j,u,.no,.no]=b3 (.nx [a,b,.va (.tup [.int sure,t]),d,e,f,g,h,i,j,k,.no,.no]):=by
  intro ds;induction ds with
  |nil=>exact λu _=>⟨u,by simp⟩
  |cons x ds o=>
   intro u hd;obtain⟨k,m⟩:=o (.va x) λz hz=>hd z (An _ hz);refine⟨k,?_⟩;have r:=b1_e (a:=a) (b:=b) (d:=d) (e:=e) (f:=f) (g:=g) (h:=h) (i:=i) (j:=j) (u:=.no) (v:=.no) (p x (hd x Au));simp[r,m]
 obtain⟨k,m⟩:=run GB .no λ_ h=>h;refine⟨k,?_⟩;have c:gl14=UL (λδ=>b3 (GB,δ)) (gN 10) TC:=by kernel_rfl
 rw[c];exact m
def nQ{a b c d f g h i j k:Sl}:cD gl15 (cD gl16 gl17) [a,b,c,d,.va MP,f,g,h,i,j,k,.no,.no]=b3 (.rt (.bl ba) [a,b,c,d,.va MP,f,g,h,i,j,k,.va (.tup [MP,.tup [.str "plus",.int 4,.int 0],.tup [.str "if",.int 5,.tup [.tup [.str "store",.int 3,.int 5]],.tup []]]),.va (.tup [MP,.tup [.str "if",.int 0,.tup [MP,.tup [.str "plus",.int 0,.int 2]],.tup [MP,.tup [.str "plus",.int 4,.int 0],.tup [.str "if",.int 5,.tup [.tup [.str "store",.int 3,.int 5]],.tup []]]],.tup [.str "plus",.int 0,.int 0]])]):=by kernel_rfl
end L2
namespace RR
open PySem L2
def iD(ns:List Int)(hl:ns.length<=63):KB [.lst (ns.map .int)]=b3 (.bl ba,[]):=by obtain⟨sure,t,s,h1,h2,B,r,s1,k1,E⟩:=qR (n:=0) hl (by lia);obtain⟨q,rows,kds,k,F,v,q0,q1,k2,D⟩:=lL ns s 20 hl (by lia) (by decide) (by decide);obtain⟨c,rfl,wf⟩:=F.rws;rw[Ci]at v;have p:=Yx (sure:=sure) B h1 (by lia) r s1;have o:=Yx (sure:=q) (t:=IG c) (by rw[(QF c).2];lia) (EE wf) (by rw[(QF c).1];lia) q0 q1;rw[L5]at o;obtain⟨x,z,ex⟩:=YS ns k badT hl (by lia) (by rw[iC];decide);obtain⟨y,w,C⟩:=YS ns (k+1) BG hl (by lia) (by simp[BG]);have l:cU.lst []=XH 0:=rfl;have A:cU.lst (ns.map .int)=VY ns:=rfl;obtain⟨u,m⟩:=qG (a:=.va (VY ns)) (b:=.ow (XH (k+1+1))) (d:=.va (.tup [.int q,.tup (c.map Rw.dat)])) (e:=.va MP) (f:=.va (dpT 3)) (g:=.va (.int 2)) (h:=.va (lsT 3)) (i:=.va x) (j:=.va y) r s1 p;rw[A];unfold KB;rw[bD,lV,show a9 [] 13 [VY ns]=[.va (VY ns),.no,.no,.no,.no,.no,.no,.no,.no,.no,.no,.no,.no] from rfl];rw[Y2,oG,SV,l,Y2,iX E D,SV,Y2,lH p o,SV,Y2,mS,SV,Y2,mG,SV,Y2,iR,SV,Y2,dU,SV,Y2,mH,SV,Y2,mV,SV,Y2,eF ex,SV,Y2,jV z,SV,Y2,qf C,SV,Y2,oW w,SV,Y2,m,SV,nQ];rfl
end RR
namespace KK
open PySem PySem.W
noncomputable abbrev g(a i:Nat)(n:Uq)(d m:Uk):Uw:=⟨.type "function",b4,.func (fnOf n n (L2.YQ (RR.top i)) (L2.aH (RR.top i)) (L2.cO (RR.top i)) d .none .none m b4 (.ref (a-1)) .none),#[]⟩
def p(P:Qc)(a i:Nat)(n:Uq)(m:Uk)(h1:nsIn (K P) Up n=b3 (b3 (.ref a)):=by kernel_rfl)(h2:(K P).lookup a=b3 (g a i n .none m):=by kernel_rfl)(b:codeIn (K P) (.ref (a-1)) n=ba:=by kernel_rfl):L2.A4 (K P) n (RR.top i) a:=L2.a4 h1 h2 b (by unfold keepIn;simp only[h2])
end KK
namespace RR
open PySem L2
abbrev Zn(K:Ah)(x:Uq):Prop:=Gs K Up x=b3 b4
abbrev Gn(K:Ah)(x:Uq)(v:Uk):Prop:=Gs K Up x=b3 (b3 v)
theorem IT{α:Type}{P:List α->Prop}(z:∀a,P [a]):∀b:List α,b.length=1->P b
 |[a],_=>z a
theorem EK{α:Type}{P:List α->Prop}(z:∀a b,P [a,b]):∀c:List α,c.length=2->P c
 |[a,b],_=>z a b
theorem OU{α:Type}{P:List α->Prop}(z:∀a b c,P [a,b,c]):∀d:List α,d.length=3->P d
 |[a,b,c],_=>z a b c
theorem Len4{α:Type}{P:List α->Prop}(z:∀a b c d,P [a,b,c,d]):∀e:List α,e.length=4->P e
 |[a,b,c,d],_=>z a b c d
theorem Len5{α:Type}{P:List α->Prop}(z:∀a b c d e,P [a,b,c,d,e]):∀f:List α,f.length=5->P f
 |[a,b,c,d,e],_=>z a b c d e
theorem Len6{α:Type}{P:List α->Prop}(z:∀a b c d e f,P [a,b,c,d,e,f]):∀g:List α,g.length=6->P g
 |[a,b,c,d,e,f],_=>z a b c d e f
def zK5{l:Tx}{w:Uu}{K:Ah}{h:Uv}{mg:Uq->Option Uk}{fa:Ul}(X:K.In h)(G:h.Ns Up mg)(d:mg "law"=b3 (.ref fa))(O:A4 K "is_whole" (top 19) 224)(P:A4 K "parts_of" (top 38) 305)(Q:A4 K "makes_word" (top 39) 312)(R:A4 K "may_name" (top 43) 338)(S:A4 K "fits" (top 44) 345)(V:A4 K "is_row" (top 45) 350)(W:A4 K "is_cells" (top 48) 355)(Y:A4 K "is_if" (top 57) 384)(Z:A4 K "sight_behind_if" (top 58) 391)(m:A4 K "sight_behind" (top 59) 398)(l9:A4 K "is_tree" (top 60) 405)(l8:A4 K "run_tree" (top 63) 424)(l7:A4 K "flattened" (top 65) 483)(l6:A4 K "_law_cell_at" (top 67) 490)(l5:A4 K "_law_mixed" (top 68) 497)(l4:A4 K "_law_draw" (top 69) 504)(kz:A4 K "_law_pick" (top 70) 511)(ky:A4 K "_law_place" (top 71) 518)(kx:A4 K "_law_row" (top 72) 523)(kr:A4 K "_law_next" (top 74) 537)(ku:A4 K "_law_rows" (top 73) 530)(ko:A4 K "_law_names" (top 76) 549)(km:A4 K "_law_may" (top 77) 554)(kl:A4 K "_law_must" (top 78) 559)(ki:A4 K "_law_mixed_order" (top 80) 571)(kg:A4 K "_law_renamed" (top 81) 576)(kq:A4 K "_law_block" (top 75) 542)(kj:A4 K "_law_which" (top 79) 566)(o:A4 K "_law_tree_rows" (top 82) 583)(kf:A4 K "_law_tree" (top 83) 590)(k9:A4 K "_law_ask" (top 84) 597)(k8:A4 K "_law_bad_trees" (top 85) 604)(mm:Gs K Up "law"=b3 (b3 (.ref 609)))(lr:K.lookup 609=b3 ⟨.type "function",b4,.func (Lx "law" "law" (YQ (top 86)) (aH (top 86)) (cO (top 86)) .none .none .none (.str "law_lanepacks_k28_trees" 862) b4 (.ref 608) .none),#[]⟩)(mj:Of K (.ref 608) "law"=ba)(lu:Jd K (.ref 609)=ba)(jy:Zn K "len")(iq:Zn K "range")(jw:Zn K "min")(jx:Zn K "max")(j9:Zn K "list")(ip:Zn K "tuple")(gu:Zn K "sorted")(df:Zn K "isinstance")(jd:Zn K "bool")(jz:Zn K "int")(jv:Zn K "str")(dm:Zn K "enumerate")(ju:Zn K "zip")(k4:Zn K "all")(jc:Zn K "dict")(dg:Zn K "ValueError")(ez:Gn K "MOST_WORD" (.int 999 460))(N:K.lookup 217=b3 ⟨.type "tuple",b4,.seq #[.str "plus" 462,.str "minus" 463,.str "times" 464,.str "least" 465,.str "most" 466,.str "less" 467,.str "over" 468] 0,#[]⟩)(iy:Gn K "DEEDS" (.ref 217))(fj:Gn K "MOST_SURE" (.int 64 570))(dh:Gn K "MOST_PLACE" (.int 63 574))(lm:K.lookup 289=b3 ⟨.type "tuple",b4,.seq #[.str "row" 576,.str "row" 577] 0,#[]⟩)(dj:Gn K "DEED_PARTS" (.ref 289))(ll:K.lookup 291=b3 ⟨.type "tuple",b4,.seq #[.str "word" 580] 0,#[]⟩)(lj:K.lookup 292=b3 ⟨.type "tuple",b4,.seq #[.str "row" 582,.str "row" 583,.str "row" 584] 0,#[]⟩)(li:K.lookup 293=b3 ⟨.type "tuple",b4,.seq #[.str "place" 586] 0,#[]⟩)(lh:K.lookup 294=b3 ⟨.type "tuple",b4,.seq #[.str "place" 588,.str "row" 589,.str "row" 590] 0,#[]⟩)(lg:K.lookup 295=b3 ⟨.type "tuple",b4,.seq #[.str "place" 592,.str "row" 593] 0,#[]⟩)(lf:K.lookup 296=b3 ⟨.type "tuple",b4,.seq #[.str "place" 595,.str "row" 596,.str "row" 597] 0,#[]⟩)(lc:K.lookup 290=b3 ⟨.type "dict",b4,.dict #[⟨Fh w.params "number",.str "number" 579,.ref 291⟩,⟨Fh w.params "pick",.str "pick" 581,.ref 292⟩,⟨Fh w.params "load",.str "load" 585,.ref 293⟩,⟨Fh w.params "take",.str "take" 587,.ref 294⟩,⟨Fh w.params "store",.str "store" 591,.ref 295⟩,⟨Fh w.params "put",.str "put" 594,.ref 296⟩] 6,#[]⟩)(lq:(290==Gb)=bb)(cw:Gn K "OTHER_PARTS" (.ref 290))(lb:K.lookup 298=b3 ⟨.type "tuple",b4,.seq #[.str "store" 608,.str "put" 609] 0,#[]⟩)(gp:Gn K "WRITERS" (.ref 298))(di:Gn K "MOST_CELLS" (.int 64 671))(c6:Gn K "MOST_TREE_ROWS" (.int 20 713))(fm:Gn K "MOST_DEEP" (.int 3 715))(E:Gn K "Nothing" (.ref 214))(I:Gn K "NotValid" (.ref 202))(F:Gn K "TooLong" (.ref 183))(H:Gn K "TooMany" (.ref 171))(t:Gn K "NoName" (.ref 159))(x:Gn K "NoText" (.ref 140))(r:Gn K "NoLoop" (.ref 128))(y:Gn K "NoTree" (.ref 116))(J:Gn K "NoProgram" (.ref 104))(u:Gn K "NoPlan" (.ref 92))(C:Gn K "NoLanes" (.ref 80))(q:Gn K "NoRow" (.ref 68))(B:Gn K "NoCells" (.ref 49))(A:Gn K "NoBlock" (.ref 37))(j:XE K "NoCells" 49)(i:XE K "NoTree" 116)(L:xiOk K IP UT=ba):∃fd:Dw,(∀(s:Af) (v:Uk),Pg s fd ⟨[v],[]⟩ [("_law_script",v)])/\∀base:Uv,K.In base->base.Ns Up mg->aA l.prog w K mg base CX0 24 fa fd ["_law_script"] (spV K [] 1 KB):=by
 have e:=d.symm.trans (Eh X G mm);cases e;have T:Txt K mg:=⟨λ_ _ e=>Eh X G e,Dm X G jy,Dm X G iq,Dm X G jw,Dm X G jx,Dm X G j9,Dm X G ip,Dm X G gu,Dm X G df,Dm X G jd,Dm X G jz,Dm X G jv,Dm X G dm,Dm X G ju,Dm X G k4,Dm X G jc,Dm X G dg,⟨_,.ref 217,Eh X G iy,rfl,λ_ _ _=>(.tup (xs:=[.str "plus",.str "minus",.str "times",.str "least",.str "most",.str "less",.str "over"]) (.inr ⟨_,_,_,N,rfl,rfl,(by show 7<=sizeLine;decide),(.cons ⟨_,rfl⟩ (.cons ⟨_,rfl⟩ (.cons ⟨_,rfl⟩ (.cons ⟨_,rfl⟩ (.cons ⟨_,rfl⟩ (.cons ⟨_,rfl⟩ (.cons ⟨_,rfl⟩ .nil)))))))⟩) (.cons (.str _) (.cons (.str _) (.cons (.str _) (.cons (.str _) (.cons (.str _) (.cons (.str _) (.cons (.str _) .nil))))))))⟩,⟨_,.ref 289,Eh X G dj,rfl,λ_ _ _=>(.tup (xs:=[.str "row",.str "row"]) (.inr ⟨_,_,_,lm,rfl,rfl,(by show 2<=sizeLine;decide),(.cons ⟨_,rfl⟩ (.cons ⟨_,rfl⟩ .nil))⟩) (.cons (.str _) (.cons (.str _) .nil)))⟩,⟨_,.int 64,Eh X G di,⟨_,rfl⟩,λ_ _ _=>(.int _)⟩,⟨_,.int 3,Eh X G fm,⟨_,rfl⟩,λ_ _ _=>(.int _)⟩,⟨_,.int 63,Eh X G dh,⟨_,rfl⟩,λ_ _ _=>(.int _)⟩,⟨_,.int 64,Eh X G fj,⟨_,rfl⟩,λ_ _ _=>(.int _)⟩,⟨_,.int 20,Eh X G c6,⟨_,rfl⟩,λ_ _ _=>(.int _)⟩,⟨_,.int 999,Eh X G ez,⟨_,rfl⟩,λ_ _ _=>(.int _)⟩,⟨_,.ref 290,Eh X G cw,rfl,λ_ _ _=>(.ktb (D:=[("number",.ref 291),("pick",.ref 292),("load",.ref 293),("take",.ref 294),("store",.ref 295),("put",.ref 296)]) ⟨lq,_,_,_,lc,⟨rfl,rfl,rfl⟩,rfl,(.cons rfl rfl (.cons rfl rfl (.cons rfl rfl (.cons rfl rfl (.cons rfl rfl (.cons rfl rfl .nil))))))⟩ (.cons (.tup (xs:=[.str "word"]) (.inr ⟨_,_,_,ll,rfl,rfl,(by show 1<=sizeLine;decide),(.cons ⟨_,rfl⟩ .nil)⟩) (.cons (.str _) .nil)) (.cons (.tup (xs:=[.str "row",.str "row",.str "row"]) (.inr ⟨_,_,_,lj,rfl,rfl,(by show 3<=sizeLine;decide),(.cons ⟨_,rfl⟩ (.cons ⟨_,rfl⟩ (.cons ⟨_,rfl⟩ .nil)))⟩) (.cons (.str _) (.cons (.str _) (.cons (.str _) .nil)))) (.cons (.tup (xs:=[.str "place"]) (.inr ⟨_,_,_,li,rfl,rfl,(by show 1<=sizeLine;decide),(.cons ⟨_,rfl⟩ .nil)⟩) (.cons (.str _) .nil)) (.cons (.tup (xs:=[.str "place",.str "row",.str "row"]) (.inr ⟨_,_,_,lh,rfl,rfl,(by show 3<=sizeLine;decide),(.cons ⟨_,rfl⟩ (.cons ⟨_,rfl⟩ (.cons ⟨_,rfl⟩ .nil)))⟩) (.cons (.str _) (.cons (.str _) (.cons (.str _) .nil)))) (.cons (.tup (xs:=[.str "place",.str "row"]) (.inr ⟨_,_,_,lg,rfl,rfl,(by show 2<=sizeLine;decide),(.cons ⟨_,rfl⟩ (.cons ⟨_,rfl⟩ .nil))⟩) (.cons (.str _) (.cons (.str _) .nil))) (.cons (.tup (xs:=[.str "place",.str "row",.str "row"]) (.inr ⟨_,_,_,lf,rfl,rfl,(by show 3<=sizeLine;decide),(.cons ⟨_,rfl⟩ (.cons ⟨_,rfl⟩ (.cons ⟨_,rfl⟩ .nil)))⟩) (.cons (.str _) (.cons (.str _) (.cons (.str _) .nil)))) .nil)))))))⟩,⟨_,.ref 298,Eh X G gp,rfl,λ_ _ _=>(.tup (xs:=[.str "store",.str "put"]) (.inr ⟨_,_,_,lb,rfl,rfl,(by show 2<=sizeLine;decide),(.cons ⟨_,rfl⟩ (.cons ⟨_,rfl⟩ .nil))⟩) (.cons (.str _) (.cons (.str _) .nil)))⟩,⟨_,.ref 214,Eh X G E,rfl,λ_ _ _=>.fn E⟩,⟨_,.ref 202,Eh X G I,rfl,λ_ _ _=>.fn I⟩,⟨_,.ref 183,Eh X G F,rfl,λ_ _ _=>.fn F⟩,⟨_,.ref 171,Eh X G H,rfl,λ_ _ _=>.fn H⟩,⟨_,.ref 159,Eh X G t,rfl,λ_ _ _=>.fn t⟩,⟨_,.ref 140,Eh X G x,rfl,λ_ _ _=>.fn x⟩,⟨_,.ref 128,Eh X G r,rfl,λ_ _ _=>.fn r⟩,⟨_,.ref 116,Eh X G y,rfl,λ_ _ _=>.fn y⟩,⟨_,.ref 104,Eh X G J,rfl,λ_ _ _=>.fn J⟩,⟨_,.ref 92,Eh X G u,rfl,λ_ _ _=>.fn u⟩,⟨_,.ref 80,Eh X G C,rfl,λ_ _ _=>.fn C⟩,⟨_,.ref 68,Eh X G q,rfl,λ_ _ _=>.fn q⟩,⟨_,.ref 49,Eh X G B,rfl,λ_ _ _=>.fn B⟩,⟨_,.ref 37,Eh X G A,rfl,λ_ _ _=>.fn A⟩,⟨_,j,Eh X G j.xc.at_⟩,⟨_,i,Eh X G i.xc.at_⟩,XI.of (Ng.mpr ⟨⟨_,j.xc⟩,Ng.mpr ⟨⟨_,i.xc⟩,nofun⟩⟩) L⟩
 have mn:=JI (st:=top 86) lr mj lu;refine⟨Lx "law" "law" (YQ (top 86)) (aH (top 86)) (cO (top 86)) .none .none .none (.str "law_lanepacks_k28_trees" 862) b4 (.ref 608) .none,λs v=>.of_eq rfl,λbase _ _=>?_⟩;have c:bJ l.prog w K mg base "is_whole" 1 Qx0 [] a7 224:=YL X G O (λU=>jH U T) (OU λ_ _ _=>rfl);have jt:bJ l.prog w K mg base "parts_of" 1 Qx1 [] Z3 305:=YL X G P (λU=>mO U T) (IT λ_=>rfl);have js:bJ l.prog w K mg base "makes_word" 1 Qx2 [] X4 312:=YL X G Q (λU=>dW U T) (IT λ_=>rfl);have p:bJ l.prog w K mg base "may_name" 2 Qx3 [] ZB 338:=YL X G R (λU=>fX U T c) (EK λ_ _=>rfl);have jr:bJ l.prog w K mg base "fits" 3 Qx4 [] WA 345:=YL X G S (λU=>fU U T c p) (OU λ_ _ _=>rfl);have jq:bJ l.prog w K mg base "is_row" 4 Qx5 [] VW 350:=YL X G V (λU=>dQ U T jt jr) (EK λ_ _=>rfl);have jo:bJ l.prog w K mg base "is_cells" 2 Qx6 [] ZU 355:=YL X G W (λU=>fH U T c) (EK λ_ _=>rfl);have jm:bJ l.prog w K mg base "is_if" 1 Qx7 [] SY 384:=YL X G Y (λU=>iK U T) (IT λ_=>rfl);have M:∀n,bJ l.prog w K mg base "sight_behind" (4+2*n) Qx9 [] (bF n) 398:=λn=>by
  induction n with
  |zero=>exact(YL X G m (λU=>DG) (OU λ_ _ _=>rfl))
  |succ n f=>
   have jl:bJ l.prog w K mg base "sight_behind_if" (4+2*n+1) Qx8 [] (ZY (bF n)) 391:=(YL X G Z (λU=>oA (Iy _ _) U T p f) (OU λ_ _ _=>rfl));exact(YL X G m (λU=>lT (Iy _ _) U T js jq jm jl) (OU λ_ _ _=>rfl))
 have f:=M 8;have k:bJ l.prog w K mg base "is_tree" 21 EM [] cB 405:=YL X G l9 (λU=>qo U T c f) (IT λ_=>rfl);have gd:DefX l.prog w K mg base "run_tree" 22 Qx11 XV 424:=We X G l8 (λU=>oO U T jo k) (EK λ_ _=>rfl);have gc:DefX l.prog w K mg base "flattened" 22 Qx12 WI 483:=We X G l7 (λU=>eD U T k) (IT λ_=>rfl);have io:bJ l.prog w K mg base "_law_cell_at" 1 Qx13 [] Z7 490:=YL X G l6 (λU=>eR U T) (EK λ_ _=>rfl);have im:bJ l.prog w K mg base "_law_mixed" 2 Qx14 [] YG 497:=YL X G l5 (λU=>nE U T io) (OU λ_ _ _=>rfl);have b:bJ l.prog w K mg base "_law_draw" 3 ME [1] b5 504:=YL X G l4 (λU=>fS U T im) (OU λ_ _ _=>rfl);have a:bJ l.prog w K mg base "_law_pick" 4 PN [1] b8 511:=YL X G kz (λU=>iA U T b) (OU λ_ _ _=>rfl);have cu:bJ l.prog w K mg base "_law_place" 5 Qx17 [1,2] aL 518:=YL X G ky (λU=>pP U T b a) (Len5 λ_ _ _ _ _=>rfl);have z:bJ l.prog w K mg base "_law_row" 6 Qx18 [1,3] YH 523:=YL X G kx (λU=>pJ U T b a cu) (Len5 λ_ _ _ _ _=>rfl);have ik:bJ l.prog w K mg base "_law_next" 5 Qx20 [1,4] ZM 537:=YL X G kr (λU=>Zt U T a) (Len6 λ_ _ _ _ _ _=>rfl);have il:bJ l.prog w K mg base "_law_rows" 7 Qx19 [1] XT 530:=YL X G ku (λU=>oT U T a z ik) (Len4 λ_ _ _ _=>rfl);have ii:bJ l.prog w K mg base "_law_names" 1 Qx22 [] aK 549:=YL X G ko (λU=>oN U T) (IT λ_=>rfl);have db:bJ l.prog w K mg base "_law_may" 1 Qx23 [] Y5 554:=YL X G km (λU=>qE U T) (EK λ_ _=>rfl);have ig:bJ l.prog w K mg base "_law_must" 2 Qx24 [] XS 559:=YL X G kl (λU=>jT U T ii db) (IT λ_=>rfl);have i9:bJ l.prog w K mg base "_law_mixed_order" 5 Qx26 [1] aF 571:=YL X G ki (λU=>eW U T a ig) (OU λ_ _ _=>rfl);have i8:bJ l.prog w K mg base "_law_renamed" 1 Qx27 [] bT 576:=YL X G kg (λU=>kU U T) (EK λ_ _=>rfl);have ij:bJ l.prog w K mg base "_law_block" 8 Qx21 [1] ZX 542:=YL X G kq (λU=>mX U T b a il i9 i8) (OU λ_ _ _=>rfl);have gf:DefH l.prog w K mg base "_law_which" 1 Qx25 (spV K [] 1 XM) 566:=eI X G kj (λU=>eJ U T) (IT λ_=>rfl);have mo:∀n,bJ l.prog w K mg base "_law_tree_rows" (6+1*n) Qx28 [1,4] (aY n) 583:=λn=>by
  induction n with
  |zero=>exact(YL X G o (λU=>DG) (Len6 λ_ _ _ _ _ _=>rfl))
  |succ n g=>
   exact(YL X G o (λU=>eT (Iy _ _) U T b a z g) (Len6 λ_ _ _ _ _ _=>rfl))
 have g:=mo 8;have i7:bJ l.prog w K mg base "_law_tree" 15 Qx29 [1] ZA 590:=YL X G kf (λU=>lU U T b a g) (OU λ_ _ _=>rfl);have fu:bJ l.prog w K mg base "_law_ask" 23 Qx30 [] a6 597:=YL X G k9 (λU=>mZ U T gf gd gc) (OU λ_ _ _=>rfl);have i6:bJ l.prog w K mg base "_law_bad_trees" 1 Qx31 [] aB 604:=YL X G k8 (λU=>jL U T) (IT λ_=>rfl);exact Zf mn T k a ij i7 fu i6
def zAT(K:Ah)(H:Hp)(a:Ul)(ns:List Int)(hl:ns.length<=63)(f:Only H)(h:X2 K H a (ns.map V.int)):spV K [] 1 KB [.ref a] H (λv _=>v=.bl ba) λ_ _ _=>False:=by
 have c:b9 K (Zp (λ_=>False) [] [.ref a]) H (ns.map V.int) (ns.map cU.int):=by
  clear h hl;induction ns with
  |nil=>exact .nil
  |cons n ns g=>exact .cons (.int n) g
 have hz:∀b,¬Zp (λ_=>False) [] [V.ref a] b:=λb h=>by
  rcases h with h|⟨i,h,_⟩
  ·exact h
  ·cases h
 refine⟨λ_=>False,[.lst (ns.map .int)],.bl ba,[],rfl,⟨rfl,(λi h=>nomatch h),λi d hi e=>?_,(λi d h=>nomatch h),(λi j b h=>nomatch h),λa h=>h.elim⟩,iD ns hl,λv H' _ _ r=>by cases r;rfl⟩;cases i with
 |zero=>
  cases e;refine⟨_,rfl,?_⟩;rcases h with((h|⟨_,_,_,_,(⟨_,h,_⟩|⟨h,_⟩)⟩)|⟨o,h⟩)|h
  ·exact .lst h (hz a) c
  ·rcases f a with z|⟨_,_,z⟩<;>rw[h]at z<;>cases z
  ·rcases f a with z|⟨_,_,z⟩<;>rw[h]at z<;>cases z
  ·exact .fzl (.inl ⟨o,h⟩) c
  ·exact .fzl (.inr h) c
 |succ i=>cases i<;>cases e
end RR
open PySem PySem.W PyProof.Rows
set_option maxRecDepth 100000 in
set_option maxHeartbeats 0 in
theorem PySem.Challenge.cw_lanepacks_k28_trees_holds : PySem.Challenge.rw_lanepacks_k28_trees.Holds := by
 w_on;refine holds_law KK.said λsaid=>?_
 refine holds_open (q:=KK.view) (loose:=KK.lo) (Xt:=KK.X) (XP:=XL KK.view []) (Yf:=KK.H.obs) (Ya:=KK.H.val) (YP:=KK.H.says) (N:=11300) KK.hl (Hook.of _) (Hook.keeps _) (λs e=>xl_of s (Du.mp e).1) XL.keeps (by rfl) (by rfl) (by rfl) (λs e=>recFacts_of (Du.mp e).2) (by rfl) (by first|assumption|decide+kernel) (by decide+kernel) ⟨rfl,rfl,rfl,rfl,rfl,by decide+kernel⟩ ?hw ?hc
 case hw=>w_witness2
 refine L2.zA6 (l:=Mz) (n:=63) (k:=24) (x:= "_law_script") (CX:=L2.CX0) (sp:=λK=>L2.spV K [] 1 L2.KB) rfl (by decide) rfl ⟨rfl,by decide,by decide⟩ (λw h Y=>W.kIn_of (K:=KK.K) (as:=KK.A) (e:=KK.kA) Y) ?F (λK H a ns hl ho hS=>RR.zAT K H a ns hl ho hS) λ_ _ _ _ z=>z
 case F=>
  intro w mg fa h KX G hmg;refine RR.zK5 (K:=KK.K w.params) KX G hmg (KK.p _ 224 19 "is_whole" (.str "lanepacks.words" 458)) (KK.p _ 305 38 "parts_of" (.str "lanepacks.blocks" 568)) (KK.p _ 312 39 "makes_word" (.str "lanepacks.blocks" 568)) (KK.p _ 338 43 "may_name" (.str "lanepacks.blocks" 568)) (KK.p _ 345 44 "fits" (.str "lanepacks.blocks" 568)) (KK.p _ 350 45 "is_row" (.str "lanepacks.blocks" 568)) (KK.p _ 355 48 "is_cells" (.str "lanepacks.running" 669)) (KK.p _ 384 57 "is_if" (.str "lanepacks.trees" 711)) (KK.p _ 391 58 "sight_behind_if" (.str "lanepacks.trees" 711)) (KK.p _ 398 59 "sight_behind" (.str "lanepacks.trees" 711)) (KK.p _ 405 60 "is_tree" (.str "lanepacks.trees" 711)) (KK.p _ 424 63 "run_tree" (.str "lanepacks.trees" 711)) (KK.p _ 483 65 "flattened" (.str "lanepacks.trees" 711)) (KK.p _ 490 67 "_law_cell_at" KK.m) (KK.p _ 497 68 "_law_mixed" KK.m) (KK.p _ 504 69 "_law_draw" KK.m) (KK.p _ 511 70 "_law_pick" KK.m) (KK.p _ 518 71 "_law_place" KK.m) (KK.p _ 523 72 "_law_row" KK.m) (KK.p _ 537 74 "_law_next" KK.m) (KK.p _ 530 73 "_law_rows" KK.m) (KK.p _ 549 76 "_law_names" KK.m) (KK.p _ 554 77 "_law_may" KK.m) (KK.p _ 559 78 "_law_must" KK.m) (KK.p _ 571 80 "_law_mixed_order" KK.m) (KK.p _ 576 81 "_law_renamed" KK.m) (KK.p _ 542 75 "_law_block" KK.m) (KK.p _ 566 79 "_law_which" KK.m) (KK.p _ 583 82 "_law_tree_rows" KK.m) (KK.p _ 590 83 "_law_tree" KK.m) (KK.p _ 597 84 "_law_ask" KK.m) (KK.p _ 604 85 "_law_bad_trees" KK.m) ?_ ?_ ?_ ?_ ?_ ?_ ?_ ?_ ?_ ?_ ?_ ?_ ?_ ?_ ?_ ?_ ?_ ?_ ?_ ?_ ?_ ?_ ?_ ?_ ?_ ?_ ?_ ?_ ?_ ?_ ?_ ?_ ?_ ?_ ?_ ?_ ?_ ?_ ?_ ?_ ?_ ?_ ?_ ?_ ?_ ?_ ?_ ?_ ?_ ?_ ?_ ?_ ?_ ?_ ?_ ⟨⟨by kernel_rfl,⟨by kernel_rfl,by kernel_rfl,by kernel_rfl,by kernel_rfl,by kernel_rfl,by kernel_rfl,by kernel_rfl⟩,by kernel_rfl,24,⟨by kernel_rfl,by kernel_rfl,by kernel_rfl,by kernel_rfl,by kernel_rfl⟩⟩,by kernel_rfl⟩ ⟨⟨by kernel_rfl,⟨by kernel_rfl,by kernel_rfl,by kernel_rfl,by kernel_rfl,by kernel_rfl,by kernel_rfl,by kernel_rfl⟩,by kernel_rfl,24,⟨by kernel_rfl,by kernel_rfl,by kernel_rfl,by kernel_rfl,by kernel_rfl⟩⟩,by kernel_rfl⟩ ?_;iterate 34 kernel_rfl
  decide;iterate 21 kernel_rfl
end
