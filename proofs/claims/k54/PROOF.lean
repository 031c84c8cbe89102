import PyProof.Rows.All
import KE.KFromBytes
import KE.KTab
import KE.KIsAll
import KE.KDictOf
import KE.KEqDeep
import KE.KItem
import KE.KUnpackStar
import Wide.FinOn
import Wide.Line
import KE.KSortTup
import PyProof.AttrMissSeq
import OpenK.KOwn
import Open.TreeImp
import PySem.Challenge.RW_lanepacks_k54_whole_ifs_decided
set_option Elab.async false
set_option linter.all false
set_option maxRecDepth 100000
set_option maxHeartbeats 4000000
set_option bootstrap.genMatcherCode false
set_option compiler.extract_closed false
open PySem renaming Value->Rc,Addr->Rf,Str->Rg,wpAny->Rh,mainGlobals->Ri,model->Rj,Expr->Rk,World->Rl,assignEach->Rm,Heap->Rn,Obj->Ro,foldedSetIterable->Rp,Stmt->Rq,cellsFrom->Rr,NameKind->Rs,Scope->Rt,assignInOrder->Ru,Sem->Rv,Tok->Rx
open Option renaming bind_eq_some_iff->Aa,bind_some->Ak,map_eq_some_iff->At,isSome_some->Mm,getD_none->Ny,map_some->Po
open PySem renaming wpAny_bind->Ac,starEach->Ae,Shared->Af,wpAny_pure->Am,Program->Bb,bootBuiltins->Bm,wpAny_holding->Cb,attributeBase->Ce,sizeLine_eq->Cm,Around->Cn,wpAny_mono->Cs,mem_of_lookup->Ct,compareOp->Cu,wpAny_newObj_type->Dm,wpAny_callSpecial?_slot->Dn,FuncData->Ds,backTo->Dx,wpAny_field->Eb,wpAny_call_entry->Ed,wpAny_Call_Name_kw->Ej,wpAny_seqItems->Eo,wpAny_truthy_bool->Ep,swapsWith->Er,keywordEach->Es,sysModules->Ey,swapsWithSole->Fb,swappedStores->Fc,wpAny_setField_rec->Fe,binaryOp->Fk,wpAny_passesOwn->Fm,wpAny_pyIter_list->Fo,Builtin->Gb,Keyword->Gg,wpAny_standAt->Gj,call_meets->Gw,importedModules->Gz,wpAny_pyIter_tuple->Hb,behindInMarks->Hd,backToKw->Hf,tupleKind_room_in1->Hh,wpAny_assign_Name->Hr,wpAny_rule->Ht,sliceBounds->Hw,wpAny_bindName->Ib,wpAny_updateSeq_pair->Im,bindName->Ip,Spec->Iu,wpAny_execs_nil->Ja,unpackItems->Jb,letOwnedTupleGo->Jd,Within->Jr,wpAny_typeOf->Jt,holding->Jw,wpAny_sequenceKey->Jz,list_append->Ka,wpAny_comprehension_free->Kb,fenceModules?->Kg,codeAny->Kh,getItem->Ki,wpAny_onRaise->Kl,wpAny_eqBool_int->Ko,noFill_tuple_add->Kr,wpAny_pyNext_list_item->Kt,DictEntry->Kw,wpAny_pyNext_list_end->Ky,codeAny_mono->La,concat_meets->Ld,call_meetsIn->Lf,ZipApart->Ll,PyData->Lo,newFunctionEnv->Lr,callerA->Lw,Params->Mc,bltViewBooted->Md,getMethod->Mj,seq_tuple_add->Ml,wpAny_attempt->Mo,getattributeRaised->Mp,standAt->Mv,valueAt->My,wpAny_Call_method->Mz,wpAny_pyIter_enum->Nf,seqIndex_neg->Nq,PassesOwn->Ol,lastMarks->Om,BindsTo->Op,seqIndex_of->Oq,wpAny_letGo->Oy,pushCells->Pb,wpAny_Name->Py,typeIs_int->Pz,call->Qa,stored->Qp
open PySem.Heap renaming get?_push_of_some->Ad,lt_size->Ap,get?_push_size->Av,get?_update_other->De,size_push->Dk,SameBut->Fa,get?_push_ne->Hy,ExtBut->Jg,get?_update_self->Le,get?_update_ne->Lz
open List renaming getElem?_eq_some_iff->Ag,getElem?_append_left->Ai,mem_cons->Aj,size_toArray->An,length_append->Ao,length_map->Aq,mem_cons_of_mem->Ar,map_cons->As,not_mem_nil->Aw,length_cons->Ax,mem_cons_self->Ay,mem_singleton->Az,getElem?_append_right->Ba,range->Bh,replicate->Bn,append_assoc->Bo,append_nil->Bp,map_append->Bq,lookup_cons->Bt,mem_append_right->Bu,getElem?_set_ne->Bw,mem_append->Bz,length_set->Ca,mem_map->Cc,nil_append->Cd,take_of_length_le->Cg,mem_append_left->Ch,getElem?_eq_none->Ci,mem_range->Ck,mem_of_getElem?->Cp,map_nil->Cr,nodup_cons->Cv,length_take->Cw,cons_append->Cy,take_append_of_le_length->Cz,getElem?_map->Dc,getElem?_set_self->Dd,getElem?_take_of_lt->Df,length_singleton->Dh,replicate_succ->Di,lookup_cons_self->Dv,getElem?_eq_getElem->Dw,getElem?_replicate->Ea,set_comm->Eg,set_append_right->Ff,lookup->Fg,drop_eq_getElem_cons->Fj,flatten_cons->Fu,length_eq_zero_iff->Fv,map_congr_left->Fw,all_eq_true->Fy,find?_cons->Gh,map_map->Gi,any_cons->Gk,mem_filter->Ha,length_nil->Hg,range_succ_eq_map->Ho,length_range->Hx,take_left->Ie,drop_length->Ij,getElem_mem->Ik,filterMap_cons->Iz,forIn_cons->Jf,idxOf_lt_length_of_mem->Jk,of_mem_zip->Lb,length_replicate->Lc,mem_iff_getElem?->Li,getElem?_mapIdx->Lm,drop_zero->Lp,forIn_nil->Lq,drop_left->Ls,mem_filterMap->Mh,getElem_idxOf->Mr,set_cons_succ->Ms,set_cons_zero->Mt,ext_getElem?->Nc,zip_nil_left->Nd,getElem_inj->Nv,length_drop->Nx,isEmpty_iff->Nz,zipIdx_cons->Oa,zip_append->Ov,zipIdx_nil->Ox,mapM_cons->Pr,all_cons->Qj,all_map->Qr,map_set->Qt
open Bool renaming and_eq_true->Ah,and_eq_true_iff->Dq,false_ne_true->Dr,false_eq_true->Fd,or_eq_true->Hj,beq_eq_decide_eq->Lj,false_or->Qh,true_and->Ql
open PySem.W renaming Frag->Al,mg_none_of->Dj,keepIn->Eu,kia_one->Fp,mg_of->Ft,nsIn->Ge,emptyDict->Gf,fnOf->Hm,findIn->Ic,instObj->Ih,codeIn->Iq,opening->Ix,kas_item->Km,makesIn->Kz,SharedT->Lu,kitx_list->Lv,plainGet_of->Mi,plainGet->Mx,callWith_K->Np,cellsFrom_some->Nw,openEnds->Of,methodObj->Oj,hasDictIn->Oo,kasC_bind->Pd,kasC_modify->Pe,kas_item_eq->Ph,looseW->Ps,absHeap->Qc,lookIn->Qf,takerIn->Qo,OpenLaw->Qq
open Nat renaming le_refl->Au,ne_of_lt->Bg,lt_of_lt_of_le->Bk,lt_irrefl->Co,zero_le->Dg,le_trans->Em,le_add_right->Fz,le_succ->Gs,ne_of_gt->Gu,le_of_succ_le->Ia,zero_add->Ig,lt_succ_self->Kq,lt_succ_of_lt->Ni,le_of_lt->Nk,lt_trans->Nt,add_comm->Nu,succ_le_succ->Od,not_lt_zero->Oz,min_le_left->Pa,min_eq_left->Pn,add_assoc->Qm
open PySem.F renaming slot_list_append->Be,type_list_append->Bf,slot_dict_get->Du,entry_dict_get->Ew,slot_tuple_iterator_next->Ex,args_tuple_add_2->Gv,entry_tuple_add->He,args_dict_get_2->Hi,plainAttrs_list->Hk,slot_tuple_add->Hn,args_list_append_2->Il,args_tuple_iterator_next_1->Ir,entry_list_append->Je,entry_tuple_iterator_next->Jh,slot_zip_next->Ji,slot_list_append->Ju,slot_dict_getitem->Jx,slot_list_extend->Ke,type_list_extend->Kf,args_dict_get_3->Kj,plainAttrs_dict->Kk,type_dict_get->Lg,args_zip_next_1->Ng,entry_zip_next->Ob,slot_int_rmul->Pj
open PySem.Value renaming ref->Bi,type->Iv,bool->Lk,int->Me,str->Mf,float->Oi,isStrOf->Qe,isInt->Qv,bytes->Qw
open PySem.Str renaming ofString->Bj,ofString_eq_toList->Hq
open PySem.NameKind renaming free->Br,cell->Cf
open Option.some renaming inj->Bv
open PySem.PyData renaming keyHash->Bx,depthAll->Et,canLay0->Ga,canLayAll0->Hz,depth->Ii,eqv->Iw,int->Nb,strOk->Qs
open PySem.Builtin.SmallTypes renaming nextOf->By,ownedTupleIsFree->Dt,ownedTupleHandOut->Gq
open PySem.PassesOwn renaming never->Cj
open Ne renaming symm->Cq
open Prod renaming fst->Db,snd->Ec
open PyProof.Rows renaming assignInOrder_cons->Dy,callWith_type1->Dz,slot_tuple_getitem->Ee,seqObj->Gy,assignInOrder_nil->Hs,SortSt->Io,envOfC->Js,subscriptTail_builtinR->Ku,AllBare->Kx,listUpdate_at->Mq,unpackItems_tuple->Mw,pairsOf->Nh,SortKind->Oh,seqEpoch_at->Pg,expectedOf->Pt,plainGoodE->Pw,plainGoodD->Px,drecsOf->Qd,tail_any->Qg,IntsAre->Qi
open PySem.Obj renaming mapSeq->Ef,data_mapFields->Mn
open ForInStep renaming yield->Eh
open PySem.SeqAt renaming shaped->Ei
open PySem.AutoSeq1 renaming wpAny_loadPart'->Ek
open Int renaming emod_lt_of_pos->El,emod_nonneg->Hl,toNat_natCast->Hv,ediv_nonneg->Pk
open False renaming elim->Ez
open PySem.Builtin.Slice renaming slicePlaces->Fh,sliceAdjust->Gp,sliceApplied->Jo,slicePartIndex->Og,sliceFields->Pq
open PyProof.Rows.KTD renaming datumAt->Fi
open PySem.Builtin.Tuple renaming tupleExact->Fq,tupleItemsOf->Jp,tupleIsExact->Pp
open PySem.Builtin.List renaming listTooLong->Fs
open Or renaming inr->Fx,inl->Gx
open PySem.Calls renaming callWith_builtin->Gc,spliced_cons->Gd,evalArgs_plain->Go,spliced_nil->Hu,Name_function_global->Jn
open List.Pairwise renaming map->Gm,nil->Na
open Array renaming length_toList->Gr,perm_iff_toList_perm->Jq,toList_inj->Oe,toList->Qn
open PySem.Builtin.Range renaming rangeSize->Hc,small->Qz
open Prod.mk renaming inj->Iy
open List.cons renaming injEq->Jj
open PySem.Challenge renaming pw_lanepacks_k54_whole_ifs_decided->Jl,rw_lanepacks_k54_whole_ifs_decided->Jm
open Sum renaming inl->Jv,inr->Mu
open PyProof.Rows.IsTup renaming new->Jy
open PyProof.Rows.SortSt renaming mk'->Kc
open PySem.Builtin.Dict renaming updateFrom->Kn,pairItems->Kv,missed->Ly
open PySem.IsL renaming update->Ks
open Classical renaming choose_spec->Lh
open PySem.Around renaming under_plainId->Ln,under->Nl
open PySem.Heap.SameBut renaming update->Lx
open PySem.Paired renaming length->Mg,snoc->Qy
open Char renaming toNat->Nj
open PySem.Code renaming isFrame->No
open PySem.Heap.DictOf renaming new->Ot
open PySem.Shared renaming heap->Ow
open Pure renaming pure->Pc
open List.Perm renaming trans->Pf
open PySem.Walks renaming list->Qb
open Function renaming comp->Qk
open PySem.MeetsSeq.EqGives renaming int->Qu
open PySem.IsRange renaming new->Qx
open PySem.Heap.IsSliceOf renaming new->Ra
open PySem.W.WShape renaming has->Rb
noncomputable section
namespace KK
open PySem PySem.W
noncomputable def E3:List Ro->Nat->BT->Option BT
 |[],_,t=>some t
 |o::l,n,t=>match((t.ins n o).get n).isSome with
  |true=>E3 l (n+1) (t.ins n o)
  |false=>none
theorem JB{life:Life}:∀{l:List Ro} {n:Nat} {t t':BT},E3 l n t=some t'->Qc t' (n+l.length) life=⟨(Qc t n life).objs++l.toArray,life⟩
 |[],n,t,t',h=>by cases h;simp[Qc]
 | o :: l,n,t,t',h => by
  unfold E3 at h;split at h
  ·rename_i g
   have a:=JB (life:=life) h;rw[show n+(o::l).length=n+1+l.length by simp;lia,a,absHeap_ins g];simp[Heap.push]
  ·cases h
noncomputable def toT(s:Af):Option Lu:=(E3 s.heap.objs.toList 0 .nil).map λt=>⟨t,s.heap.objs.size,s.heap.life,s.gens,s.drawn,s.toks,s.os⟩
theorem CG{s:Af}{u:Lu}(h:toT s=some u):u.abs=s:=by
 unfold toT at h;cases e:E3 s.heap.objs.toList 0 .nil with
 |none=>rw[e] at h;cases h
 |some t=>
  rw[e] at h;cases h;have:=JB (life:=s.heap.life) e
  simp only[Ig,Gr] at this;obtain⟨⟨a,life⟩,gens,drawn,toks,os⟩:=s;show(⟨Qc t a.size life,gens,drawn,toks,os⟩:Af)=_;rw[this];simp[Qc,BT.list]
noncomputable def UE(tb:String->Option Gb)(p:Bb)(w:Rl)(a:Nat)(b:Option Rc):Nat->Lu->Thread->Option Lu
 |0,_,_=>none
 | n + 1,s,t => match through t with
  |true=>some s
  | false => match stepOk a b t with
   |false=>none
   |true=>match stepT (denote tb) p w s t with
    |some (s',t')=>UE tb p w a b n s' t'
    |none=>none
theorem ML{tb:String->Option Gb}{p:Bb}{w:Rl}{a:Nat}{b:Option Rc}:∀{n:Nat} {s s':Lu} {t:Thread},UE tb p w a b n s t=some s'->topRun tb p w a b n s.abs t=some s'.abs
 |0,_,_,_,h=>by cases h
 | n + 1,s,s',t,h => by
  unfold UE at h;unfold topRun;cases f:through t with
  |true=>rw[f] at h;cases h;rfl
  |false=>
   rw[f] at h;cases hk:stepOk a b t with
   |false=>rw[hk] at h;cases h
   |true=>
    rw[hk] at h;cases c:stepT (denote tb) p w s t with
    |none=>rw[c] at h;cases h
    |some r=>obtain⟨e,d⟩:=r;rw[c] at h;rw[stepT_spec c];exact ML h
noncomputable def DI(tb:String->Option Gb)(p:Bb)(w:Rl):Nat->Lu->Thread->Option Lu
 |0,_,_=>none
 | n + 1,s,t => match t.atExitBegin with
  |some []=>some s
  |some (_::_)=>none
  |none=>match stepT (denote tb) p w s t with
   |some (s',t')=>DI tb p w n s' t'
   |none=>none
theorem AY{tb:String->Option Gb}{p:Bb}{w:Rl}:∀{n:Nat} {s s':Lu} {t:Thread},DI tb p w n s t=some s'->importEnds tb p w n s.abs t=some s'.abs
 |0,_,_,_,h=>by cases h
 | n + 1,s,s',t,h => by
  unfold DI at h;unfold importEnds;cases d:t.atExitBegin with
  |some x=>
   rw[d] at h;cases x with
   |nil=>cases h;rfl
   |cons=>cases h
  |none=>
   rw[d] at h;cases a:stepT (denote tb) p w s t with
   |none=>rw[a] at h;cases h
   |some r=>obtain⟨c,b⟩:=r;rw[a] at h;dsimp only;rw[stepT_spec a];exact AY h
noncomputable def LA(tb:String->Option Gb)(p:Bb)(w:Rl)(N:Nat):Option Af:=
 (toT (start (Ix p)).1).bind λu=>(DI tb (Ix p) w N u (start (Ix p)).2).bind λb=>(Kg p b.abs).bind λs₀=>
 match s₀.heap.isNs Ri&&s₀.gens.size==0 with
 | true => (toT s₀).bind λv => (UE tb p w s₀.heap.objs.size (s₀.heap.nsMap Ri "__annotations__") N v (topStub p)).bind λa =>
  match staticsOk (Gz p.main.body) s₀.heap a.abs.heap&&namesBound p a.abs.heap&&gensDone a.abs&&laidKept s₀.heap a.abs.heap with
   |true=>some a.abs
   |false=>none
 |false=>none
theorem FD{tb:String->Option Gb}{p:Bb}{w:Rl}{N:Nat}{s:Af}(h:LA tb p w N=some s):Of tb p w N=some s:=by
 unfold LA at h;unfold Of fencedOpening;cases d:toT (start (Ix p)).1 with
 |none=>rw[d] at h;cases h
 |some u=>
  rw[d,Ak] at h;cases c:DI tb (Ix p) w N u (start (Ix p)).2 with
  |none=>rw[c] at h;cases h
  |some j=>
   rw[c,Ak] at h;have i:=AY c;rw[CG d] at i;rw[i,Ak];cases g:Kg p j.abs with
   |none=>rw[g] at h;cases h
   |some s₀=>
    rw[g,Ak] at h;rw[Ak];unfold topFrom;cases f:(s₀.heap.isNs Ri&&s₀.gens.size==0) with
    |false=>rw[f] at h;cases h
    |true=>
     rw[f] at h;dsimp only at h⊢;cases b:toT s₀ with
     |none=>rw[b] at h;cases h
     |some v=>
      rw[b,Ak] at h;cases a:UE tb p w s₀.heap.objs.size (s₀.heap.nsMap Ri "__annotations__") N v (topStub p) with
      |none=>rw[a] at h;cases h
      |some k=>
       rw[a,Ak] at h;have e:=ML a;rw[CG b] at e;rw[e,Ak];exact h
theorem FR{α:Type}{tb:String->Option Gb}{p:Bb}{w:Rl}{N:Nat}{f:Af->α}{v:α}(h:(LA tb p w N).map f=some v):(Of tb p w N).map f=some v:=by
 cases e:LA tb p w N with
 |none=>rw[e] at h;cases h
 |some s=>
  rw[e] at h;rw[FD e];exact h
noncomputable def chkU(p:Bb)(s₀ s:Af):Bool:=staticsOk (Gz p.main.body) s₀.heap s.heap&&namesBound p s.heap&&gensDone s&&laidKept s₀.heap s.heap
noncomputable def FE(tb:String->Option Gb)(p:Bb)(w:Rl)(N:Nat):Option (Af×Af):=
 (toT (start (Ix p)).1).bind λu=>(DI tb (Ix p) w N u (start (Ix p)).2).bind λb=>(Kg p b.abs).bind λs₀=>
 match s₀.heap.isNs Ri&&s₀.gens.size==0 with
 |true=>(toT s₀).bind λv=>(UE tb p w s₀.heap.objs.size (s₀.heap.nsMap Ri "__annotations__") N v (topStub p)).bind λa=>some (s₀,a.abs)
 |false=>none
theorem nW{tb:String->Option Gb}{p:Bb}{w:Rl}{N:Nat}{q:Af×Af}(h:FE tb p w N=some q)(hc:chkU p q.1 q.2=true):LA tb p w N=some q.2:=by
 unfold FE at h;unfold LA;cases f:toT (start (Ix p)).1 with
 |none=>rw[f] at h;cases h
 |some u=>
  rw[f,Ak] at h;rw[Ak];cases e:DI tb (Ix p) w N u (start (Ix p)).2 with
  |none=>rw[e] at h;cases h
  |some g=>
   rw[e,Ak] at h;rw[Ak];cases d:Kg p g.abs with
   |none=>rw[d] at h;cases h
   |some s₀=>
    rw[d,Ak] at h;rw[Ak];cases c:(s₀.heap.isNs Ri&&s₀.gens.size==0) with
    |false=>rw[c] at h;cases h
    |true=>
     rw[c] at h;dsimp only at h⊢;cases b:toT s₀ with
     |none=>rw[b] at h;cases h
     |some v=>
      rw[b,Ak] at h;rw[Ak];cases a:UE tb p w s₀.heap.objs.size (s₀.heap.nsMap Ri "__annotations__") N v (topStub p) with
      |none=>rw[a] at h;cases h
      |some i=>
       rw[a,Ak] at h;cases h;rw[Ak];unfold chkU at hc;rw[hc]
theorem mapU{α:Type}{tb:String->Option Gb}{p:Bb}{w:Rl}{N:Nat}{f:Af->α}{v:α}(h:(FE tb p w N).map (λq=>f q.2)=some v)(hc:(FE tb p w N).map (λq=>chkU p q.1 q.2)=some true):(Of tb p w N).map f=some v:=by
 cases e:FE tb p w N with
 |none=>rw[e] at h;cases h
 |some q=>
  rw[e] at h hc;rw[FD (nW e (Bv hc))];exact h
end KK
namespace RR
open PySem
def top(i:Nat):Rq:=PySem.Challenge.pw_lanepacks_k54_whole_ifs_decided.main.body.getD i (.Pass ⟨0,0,0,0⟩)
def mem(i j:Nat):Rq:=match top i with
 |.ClassDef _ _ _ b _ _ _ _ _ _ _=>b.getD j (.Pass ⟨0,0,0,0⟩)
 |s=>s
end RR
namespace KK
open PySem PySem.W PySem.Calls PyProof.Rows
def dA(s:Rq):Arguments:=match s with
 |.FunctionDef _ a _ _ _ _ _ _ _ _=>a
 |_=>⟨[],[],none,[],[],none,[]⟩
def dB(s:Rq):List Rq:=match s with
 |.FunctionDef _ _ b _ _ _ _ _ _ _=>b
 |_=>[]
def dS(s:Rq):Rt:=match s with
 |.FunctionDef _ _ _ _ _ _ c _ _ _=>c
 |_=>{kind:=.function,names:=[],isGenerator:=false,isCoroutine:=false}
abbrev s(x:Rg)(t:Nat):Rc:=.str x t
abbrev e(P:Mc)(x:Rg)(t:Nat)(v:Rc):Kw:=⟨PyData.keyHash P x,s x t,v⟩
abbrev f(a i:Nat)(n:Rg)(d m:Rc):Nat×Ro:=(a,⟨.type "function",none,.func (fnOf n n (dA (RR.top i)) (dB (RR.top i)) (dS (RR.top i)) d .none .none m none (.ref (a - 1)) .none),#[]⟩)
abbrev fh(a i j:Nat)(n q:Rg)(m:Rc):Nat×Ro:=(a,⟨.type "function",none,.func (fnOf n q (dA (RR.mem i j)) (dB (RR.mem i j)) (dS (RR.mem i j)) .none .none .none m none (.ref (a - 1)) .none),#[]⟩)
abbrev fk(a i:Nat)(n:Rg)(d k m:Rc):Nat×Ro:=(a,⟨.type "function",none,.func (fnOf n n (dA (RR.top i)) (dB (RR.top i)) (dS (RR.top i)) d k .none m none (.ref (a - 1)) .none),#[]⟩)
abbrev co(a:Nat)(n:Rg)(t:Nat)(l k:Int)(u:Nat)(x y z v:Rc):Nat×Ro:=(a,⟨.type "code",none,.fields #[s n t,s n (t+1),s "/claim/cut.py" (t+2),.int l 0,.int k 0,.int 0 0,.int 0 0,.int 3 0,x,.bool true,.int 181 0,y,.none,z,v,.ref (a - 1),.int u 0,.int l 0,s "/claim/cut.py" (u+1)],#[]⟩)
abbrev c(a:Nat)(n:Rg)(t:Nat)(l k:Int)(u:Nat):Nat×Ro:=co a n t l k u (.ref (a - 5)) (.ref (a - 4)) (.ref (a - 3)) (.ref (a - 2))
abbrev b(a:Nat)(n:Rg)(t:Nat)(l k:Int)(u:Nat):Nat×Ro:=co a n t l k u (.ref (a - 3)) (.ref (a - 2)) .none .none
abbrev m:Rc:=s "law_lanepacks_k54_whole_ifs_decided" 711
noncomputable def K(P:Mc):Frag:=[(3,⟨.type "dict",none,.dict #[e P "__name__" 165 (s "law_lanepacks_k54_whole_ifs_decided" 711),e P "__doc__" 166 (.none),e P "__package__" 167 (.none),e P "__loader__" 168 (.builtin "__main__.__loader__#opaque"),e P "__spec__" 169 (.none),e P "__annotations__" 170 (.ref 6),e P "__builtins__" 171 (.ref 4),e P "__file__" 173 (s "/claim/cut.py" 172),e P "__cached__" 174 (.none),e P "PackError" 206 (.ref 24),e P "NoBlock" 222 (.ref 37),e P "NoCells" 238 (.ref 49),e P "NoTree" 254 (.ref 61),e P "TooLong" 270 (.ref 73),e P "MOST_WORD" 274 (.int 999 273),e P "DEEDS" 282 (.ref 76),e P "is_whole" 291 (.ref 83),e P "plus" 299 (.ref 90),e P "minus" 307 (.ref 97),e P "times" 315 (.ref 104),e P "least" 323 (.ref 111),e P "most" 331 (.ref 118),e P "less" 339 (.ref 125),e P "over" 347 (.ref 132),e P "pick" 356 (.ref 139),e P "MADE" 371 (.ref 140),e P "done" 380 (.ref 147),e P "MOST_SURE" 384 (.int 64 383),e P "MOST_ROWS" 386 (.int 40 385),e P "MOST_PLACE" 388 (.int 63 387),e P "DEED_PARTS" 391 (.ref 148),e P "OTHER_PARTS" 417 (.ref 149),e P "READERS" 420 (.ref 156),e P "WRITERS" 423 (.ref 157),e P "parts_of" 430 (.ref 164),e P "makes_word" 437 (.ref 171),e P "place_of" 444 (.ref 178),e P "names_of" 450 (.ref 183),e P "with_names" 458 (.ref 190),e P "may_name" 466 (.ref 197),e P "fits" 475 (.ref 204),e P "is_row" 481 (.ref 209),e P "is_block" 492 (.ref 216),e P "MOST_CELLS" 496 (.int 64 495),e P "is_cells" 502 (.ref 221),e P "touches" 510 (.ref 228),e P "do_on_cell" 520 (.ref 235),e P "do_row" 534 (.ref 243),e P "do_rows" 540 (.ref 248),e P "check_run" 548 (.ref 255),e P "run" 559 (.ref 262),e P "MOST_TREE_ROWS" 563 (.int 20 562),e P "MOST_DEEP" 565 (.int 3 564),e P "ZERO" 567 (.int 0 566),e P "ONE" 569 (.int 1 568),e P "is_if" 576 (.ref 269),e P "sight_behind_if" 588 (.ref 276),e P "sight_behind" 599 (.ref 283),e P "is_tree" 606 (.ref 290),e P "listed" 616 (.ref 297),e P "do_tree" 622 (.ref 302),e P "run_tree" 632 (.ref 309),e P "Flat" 704 (.ref 359),e P "flattened" 710 (.ref 368),e P "_law_cell_at" 722 (.ref 375),e P "_law_mixed" 732 (.ref 382),e P "_law_draw" 741 (.ref 389),e P "_law_pick" 750 (.ref 396),e P "_law_place" 761 (.ref 403),e P "_law_row" 767 (.ref 408),e P "_law_rows" 781 (.ref 415),e P "_law_next" 798 (.ref 422),e P "_law_block" 804 (.ref 427),e P "_law_cells" 810 (.ref 432),e P "_law_names" 817 (.ref 439),e P "_law_may" 823 (.ref 444),e P "_law_must" 829 (.ref 449),e P "_law_mixed_order" 835 (.ref 454),e P "_law_renamed" 841 (.ref 459),e P "_law_shifted" 847 (.ref 464),e P "law" 868 (.ref 471)] 81,#[]⟩),(76,⟨.type "tuple",none,.seq #[s "plus" 275,s "minus" 276,s "times" 277,s "least" 278,s "most" 279,s "less" 280,s "over" 281] 0,#[]⟩),f 83 9 "is_whole" (.none) (s "lanepacks.words" 271),c 82 "is_whole" 283 15 3 289,f 90 10 "plus" (.none) (s "lanepacks.words" 271),c 89 "plus" 292 19 2 297,f 97 11 "minus" (.none) (s "lanepacks.words" 271),c 96 "minus" 300 21 2 305,f 104 12 "times" (.none) (s "lanepacks.words" 271),c 103 "times" 308 23 2 313,f 111 13 "least" (.none) (s "lanepacks.words" 271),c 110 "least" 316 25 2 321,f 118 14 "most" (.none) (s "lanepacks.words" 271),c 117 "most" 324 27 2 329,f 125 15 "less" (.none) (s "lanepacks.words" 271),c 124 "less" 332 29 2 337,f 132 16 "over" (.none) (s "lanepacks.words" 271),c 131 "over" 340 31 2 345,f 139 17 "pick" (.none) (s "lanepacks.words" 271),c 138 "pick" 348 33 3 354,(140,⟨.type "dict",none,.dict #[e P "plus" 357 (.ref 90),e P "minus" 358 (.ref 97),e P "times" 359 (.ref 104),e P "least" 360 (.ref 111),e P "most" 361 (.ref 118),e P "less" 362 (.ref 125),e P "over" 363 (.ref 132)] 7,#[]⟩),f 147 19 "done" (.none) (s "lanepacks.words" 271),c 146 "done" 372 36 2 378,(148,⟨.type "tuple",none,.seq #[s "row" 389,s "row" 390] 0,#[]⟩),(149,⟨.type "dict",none,.dict #[e P "number" 392 (.ref 150),e P "pick" 394 (.ref 151),e P "load" 398 (.ref 152),e P "take" 400 (.ref 153),e P "store" 404 (.ref 154),e P "put" 407 (.ref 155)] 6,#[]⟩),(150,⟨.type "tuple",none,.seq #[s "word" 393] 0,#[]⟩),(151,⟨.type "tuple",none,.seq #[s "row" 395,s "row" 396,s "row" 397] 0,#[]⟩),(152,⟨.type "tuple",none,.seq #[s "place" 399] 0,#[]⟩),(153,⟨.type "tuple",none,.seq #[s "place" 401,s "row" 402,s "row" 403] 0,#[]⟩),(154,⟨.type "tuple",none,.seq #[s "place" 405,s "row" 406] 0,#[]⟩),(155,⟨.type "tuple",none,.seq #[s "place" 408,s "row" 409,s "row" 410] 0,#[]⟩),(156,⟨.type "tuple",none,.seq #[s "load" 418,s "take" 419] 0,#[]⟩),(157,⟨.type "tuple",none,.seq #[s "store" 421,s "put" 422] 0,#[]⟩),f 164 28 "parts_of" (.none) (s "lanepacks.blocks" 381),c 163 "parts_of" 424 49 1 428,f 171 29 "makes_word" (.none) (s "lanepacks.blocks" 381),c 170 "makes_word" 431 53 1 435,f 178 30 "place_of" (.none) (s "lanepacks.blocks" 381),c 177 "place_of" 438 55 1 442,f 183 31 "names_of" (.none) (s "lanepacks.blocks" 381),b 182 "names_of" 445 57 1 448,f 190 32 "with_names" (.none) (s "lanepacks.blocks" 381),c 189 "with_names" 451 60 2 456,f 197 33 "may_name" (.none) (s "lanepacks.blocks" 381),c 196 "may_name" 459 62 2 464,f 204 34 "fits" (.none) (s "lanepacks.blocks" 381),c 203 "fits" 467 64 3 473,f 209 35 "is_row" (.none) (s "lanepacks.blocks" 381),b 208 "is_row" 476 70 2 479,f 216 36 "is_block" (.none) (s "lanepacks.blocks" 381),c 215 "is_block" 482 78 1 490,f 221 39 "is_cells" (.none) (s "lanepacks.running" 493),b 220 "is_cells" 497 94 2 500,f 228 40 "touches" (.none) (s "lanepacks.running" 493),c 227 "touches" 503 98 2 508,f 235 41 "do_on_cell" (.none) (s "lanepacks.running" 493),c 234 "do_on_cell" 511 104 4 518,(236,⟨.type "tuple",none,.seq #[.int 0 521] 0,#[]⟩),f 243 42 "do_row" (.ref 236) (s "lanepacks.running" 493),c 242 "do_row" 522 113 4 532,f 248 43 "do_rows" (.none) (s "lanepacks.running" 493),b 247 "do_rows" 535 122 2 538,f 255 44 "check_run" (.none) (s "lanepacks.running" 493),c 254 "check_run" 541 130 2 546,f 262 45 "run" (.none) (s "lanepacks.running" 493),c 261 "run" 549 135 2 557,f 269 51 "is_if" (.none) (s "lanepacks.trees" 560),c 268 "is_if" 570 145 1 574,f 276 52 "sight_behind_if" (.none) (s "lanepacks.trees" 560),c 275 "sight_behind_if" 577 149 3 586,f 283 53 "sight_behind" (.none) (s "lanepacks.trees" 560),c 282 "sight_behind" 589 159 3 597,f 290 54 "is_tree" (.none) (s "lanepacks.trees" 560),c 289 "is_tree" 600 173 1 604,f 297 55 "listed" (.none) (s "lanepacks.trees" 560),c 296 "listed" 607 177 2 614,f 302 56 "do_tree" (.none) (s "lanepacks.trees" 560),b 301 "do_tree" 617 185 2 620,f 309 57 "run_tree" (.none) (s "lanepacks.trees" 560),c 308 "run_tree" 623 195 2 630,fh 323 58 0 "__init__" "Flat.__init__" (s "lanepacks.trees" 560),(322,⟨.type "code",none,.fields #[s "__init__" 645,s "Flat.__init__" 646,s "/claim/cut.py" 647,.int 205 0,.int 1 0,.int 0 0,.int 0 0,.int 3 0,.ref 317,.bool true,.int 181 0,.ref 318,.none,.ref 319,.ref 320,.ref 321,.int 649 0,.int 205 0,s "/claim/cut.py" 650],#[]⟩),fh 330 58 1 "lay" "Flat.lay" (s "lanepacks.trees" 560),(329,⟨.type "code",none,.fields #[s "lay" 652,s "Flat.lay" 653,s "/claim/cut.py" 654,.int 209 0,.int 2 0,.int 0 0,.int 0 0,.int 3 0,.ref 324,.bool true,.int 181 0,.ref 325,.none,.ref 326,.ref 327,.ref 328,.int 657 0,.int 209 0,s "/claim/cut.py" 658],#[]⟩),fh 337 58 2 "both" "Flat.both" (s "lanepacks.trees" 560),(336,⟨.type "code",none,.fields #[s "both" 660,s "Flat.both" 661,s "/claim/cut.py" 662,.int 213 0,.int 3 0,.int 0 0,.int 0 0,.int 3 0,.ref 331,.bool true,.int 181 0,.ref 332,.none,.ref 333,.ref 334,.ref 335,.int 666 0,.int 213 0,s "/claim/cut.py" 667],#[]⟩),fh 342 58 3 "lay_rows" "Flat.lay_rows" (s "lanepacks.trees" 560),(341,⟨.type "code",none,.fields #[s "lay_rows" 669,s "Flat.lay_rows" 670,s "/claim/cut.py" 671,.int 216 0,.int 3 0,.int 0 0,.int 0 0,.int 3 0,.ref 338,.bool true,.int 181 0,.ref 339,.none,.none,.none,.ref 340,.int 672 0,.int 216 0,s "/claim/cut.py" 673],#[]⟩),fh 349 58 4 "lay_if" "Flat.lay_if" (s "lanepacks.trees" 560),(348,⟨.type "code",none,.fields #[s "lay_if" 675,s "Flat.lay_if" 676,s "/claim/cut.py" 677,.int 224 0,.int 3 0,.int 0 0,.int 0 0,.int 3 0,.ref 343,.bool true,.int 181 0,.ref 344,.none,.ref 345,.ref 346,.ref 347,.int 682 0,.int 224 0,s "/claim/cut.py" 683],#[]⟩),fh 356 58 5 "masked" "Flat.masked" (s "lanepacks.trees" 560),(355,⟨.type "code",none,.fields #[s "masked" 685,s "Flat.masked" 686,s "/claim/cut.py" 687,.int 230 0,.int 3 0,.int 0 0,.int 0 0,.int 3 0,.ref 350,.bool true,.int 181 0,.ref 351,.none,.ref 352,.ref 353,.ref 354,.int 692 0,.int 230 0,s "/claim/cut.py" 693],#[]⟩),(358,⟨.type "dict",none,.dict #[e P "__module__" 640 (s "lanepacks.trees" 560),e P "__firstlineno__" 644 (.int 203 643),e P "__init__" 651 (.ref 323),e P "lay" 659 (.ref 330),e P "both" 668 (.ref 337),e P "lay_rows" 674 (.ref 342),e P "lay_if" 684 (.ref 349),e P "masked" 694 (.ref 356),e P "__static_attributes__" 697 (.ref 357),e P "__dict__" 699 (.ref 360),e P "__weakref__" 701 (.ref 361),e P "__doc__" 702 (.none)] 4,#[]⟩),(359,⟨.type "type",none,.cls {name:= "Flat",bases:=[.type "object"],mro:=[.ref 359,.type "object"],ns:=358,qualname:= "Flat"},#[none,none,some (s "Flat" 633),some (s "Flat" 641),some (.builtin "object.__new__"),some (.bool true)]⟩),f 368 59 "flattened" (.none) (s "lanepacks.trees" 560),b 367 "flattened" 705 243 1 708,f 375 61 "_law_cell_at" (.none) m,c 374 "_law_cell_at" 713 256 2 720,f 382 62 "_law_mixed" (.none) m,c 381 "_law_mixed" 723 265 3 730,f 389 63 "_law_draw" (.none) m,c 388 "_law_draw" 733 268 3 739,f 396 64 "_law_pick" (.none) m,c 395 "_law_pick" 742 271 3 748,f 403 65 "_law_place" (.none) m,c 402 "_law_place" 751 273 5 759,f 408 66 "_law_row" (.none) m,b 407 "_law_row" 762 276 5 765,f 415 67 "_law_rows" (.none) m,c 414 "_law_rows" 768 294 4 779,f 422 68 "_law_next" (.none) m,c 421 "_law_next" 782 306 6 796,f 427 69 "_law_block" (.none) m,b 426 "_law_block" 799 317 3 802,f 432 70 "_law_cells" (.none) m,b 431 "_law_cells" 805 326 3 808,f 439 71 "_law_names" (.none) m,c 438 "_law_names" 811 330 1 815,f 444 72 "_law_may" (.none) m,b 443 "_law_may" 818 334 2 821,f 449 73 "_law_must" (.none) m,b 448 "_law_must" 824 339 1 827,f 454 74 "_law_mixed_order" (.none) m,b 453 "_law_mixed_order" 830 351 3 833,f 459 75 "_law_renamed" (.none) m,b 458 "_law_renamed" 836 358 2 839,f 464 76 "_law_shifted" (.none) m,b 463 "_law_shifted" 842 363 2 845,f 471 77 "law" (.none) m,c 470 "law" 848 366 1 866]
noncomputable def A:List Nat:=[3,76,83,82,90,89,97,96,104,103,111,110,118,117,125,124,132,131,139,138,140,147,146,148,149,150,151,152,153,154,155,156,157,164,163,171,170,178,177,183,182,190,189,197,196,204,203,209,208,216,215,221,220,228,227,235,234,236,243,242,248,247,255,254,262,261,269,268,276,275,283,282,290,289,297,296,302,301,309,308,323,322,330,329,337,336,342,341,349,348,356,355,358,359,368,367,375,374,382,381,389,388,396,395,403,402,408,407,415,414,422,421,427,426,432,431,439,438,444,443,449,448,454,453,459,458,464,463,471,470]
noncomputable def view:Bb:={Jl with main:={PySem.Challenge.pw_lanepacks_k54_whole_ifs_decided.main with body:=[1,2,3,4,5,7,8,9,10,11,12,13,14,15,16,17,18,19,21,22,23,24,25,26,27,28,29,30,31,32,33,34,35,36,38,39,40,41,43,44,45,47,48,49,50,51,52,53,54,55,56,57,58,59,61,62,63,64,65,66,67,68,69,70,71,72,73,74,75,76,77].map RR.top}}
abbrev lo:List Rg:=["MADE","OTHER_PARTS","do_row"]
theorem kA(P:Mc):A=(K P).map (·.1):=by kernel_rfl
noncomputable def X(s:Af):Bool:=xlAt view [] s&&recOk (RowW.records (OpenRow.toRowW PySem.Challenge.rw_lanepacks_k54_whole_ifs_decided.row)) s
noncomputable abbrev H:Hook:=kHook K A kA
abbrev pr:Bb:=PySem.Challenge.rw_lanepacks_k54_whole_ifs_decided.row.prog
noncomputable abbrev go(w:Rl)(b:Bool):Option Af:=LA treeTable pr (w.withFollow "special-get-raises" b) 6896
noncomputable abbrev fA(s:Af):=seen ((recsOf view).map (·.name)) (ownsOf view) [] {s with gens:= #[]}
noncomputable abbrev fB(s:Af):=(s.heap.bltView,tabsOk view s)
noncomputable abbrev fC(s:Af):Bool:=s.heap.keysOk (Ps view lo) ((recsOf view).map (·.name)) ((litsOf view).map (·.1)) ((clssOf view (Ps view lo)).map (·.name))&&s.heap.accountedOkI (Gz pr.main.body)&&s.heap.isNs Ri&&s.heap.isNs builtinsNs&&tablesOk view s.heap&&X s&&(if true then s.gens.size==0 else !leftWithCleanup s.gens)
noncomputable abbrev fD(s:Af):=(pinSeenD view (Qd view) s,plainSeenE view (Ps view lo) s,plainSeenD view lo s,wideSeen view s,clsSeenW view lo s,H.obs s)
set_option maxRecDepth 100000 in
set_option maxHeartbeats 0 in
theorem rAf(w:Rl):(go w false).map fA=some (Pt view):=by kernel_rfl
set_option maxRecDepth 100000 in
set_option maxHeartbeats 0 in
theorem rBf(w:Rl):(go w false).map fB=some ((Md,true)):=by kernel_rfl
set_option maxRecDepth 100000 in
set_option maxHeartbeats 0 in
theorem rCf(w:Rl):(go w false).map fC=some (true):=by kernel_rfl
set_option maxRecDepth 100000 in
set_option maxHeartbeats 0 in
theorem rDf(w:Rl):(go w false).map fD=some ((pinGoodD (Qd view),Pw view (Ps view lo),Px view lo,wideGood view,clsGoodW view lo,H.val (w.withFollow "special-get-raises" false))):=by kernel_rfl
set_option maxRecDepth 100000 in
set_option maxHeartbeats 0 in
theorem rAt(w:Rl):(go w true).map fA=some (Pt view):=by kernel_rfl
set_option maxRecDepth 100000 in
set_option maxHeartbeats 0 in
theorem rBt(w:Rl):(go w true).map fB=some ((Md,true)):=by kernel_rfl
set_option maxRecDepth 100000 in
set_option maxHeartbeats 0 in
theorem rCt(w:Rl):(go w true).map fC=some (true):=by kernel_rfl
set_option maxRecDepth 100000 in
set_option maxHeartbeats 0 in
theorem rDt(w:Rl):(go w true).map fD=some ((pinGoodD (Qd view),Pw view (Ps view lo),Px view lo,wideGood view,clsGoodW view lo,H.val (w.withFollow "special-get-raises" true))):=by kernel_rfl
theorem jn{o:Option Af}{v:H.α}(b:o.map fA=some (Pt view))(c:o.map fB=some (Md,true))(hc:o.map fC=some true)(hd:o.map fD=some (pinGoodD (Qd view),Pw view (Ps view lo),Px view lo,wideGood view,clsGoodW view lo,v)):o.map (λs=>(openSeen view lo (Gz pr.main.body) X true s,H.obs s))=some (openGood view lo,v):=by
 cases o with
 |none=>cases b
 |some s=>
  have f:fA s=_:=Bv b;have e:fB s=_:=Bv c;have d:fC s=_:=Bv hc;have a:fD s=_:=Bv hd;obtain⟨n,m⟩:=Iy e;obtain⟨l,a⟩:=Iy a;obtain⟨k,a⟩:=Iy a;obtain⟨j,a⟩:=Iy a;obtain⟨i,a⟩:=Iy a;obtain⟨h,g⟩:=Iy a;show some ((fA s,s.heap.bltView,fC s,tabsOk view s,pinSeenD view (Qd view) s,plainSeenE view (Ps view lo) s,plainSeenD view lo s,wideSeen view s,clsSeenW view lo s),H.obs s)=_;rw[f,n,d,m,l,k,j,i,h,g];rfl
theorem hl:LeftO pr view lo X H.obs H.val 6896:=λw=>byRow2 "special-get-raises" (P:=λw=>(Of treeTable pr w 6896).map (λs=>(openSeen view lo (Gz pr.main.body) X true s,H.obs s))=some (openGood view lo,H.val w)) (λw=>jn (FR (rAf w)) (FR (rBf w)) (FR (rCf w)) (FR (rDf w))) (λw=>jn (FR (rAt w)) (FR (rBt w)) (FR (rCt w)) (FR (rDt w))) w
set_option maxRecDepth 100000 in
set_option maxHeartbeats 0 in
theorem said:PySem.Challenge.rw_lanepacks_k54_whole_ifs_decided.wellSaid=true:=by kernel_rfl
end KK
namespace L2
open PySem PySem.Spec PyProof.Rows
abbrev aG:=Sum Int Rg
noncomputable def JS:aG->Rc->Bool
 |.inl k,v=>Qv k v
 |.inr x,v=>Qe x v
def keyH(w:Rl):aG->Int
 |.inl k=>hashInt k
 |.inr x=>hashStr w x
theorem ZL:∀{k:aG} {v:Rc},JS k v=true->(∃i t,k=Jv i/\v=Me i t)∨(∃x t,k=Mu x/\v=Mf x t)
 |.inl i,v,h=>by obtain⟨t,e⟩:=Value.isInt_shape (k:=i) (v:=v) h;exact .inl ⟨i,t,rfl,e⟩
 |.inr x,v,h=>by obtain⟨t,e⟩:=Value.isStrOf_shape (x:=x) (v:=v) h;exact .inr ⟨x,t,rfl,e⟩
theorem gF(i:Int)(t:Rx):JS (.inl i) (.int i t)=true:=by simp[JS,Qv]
theorem nE(x:Rg)(t:Rx):JS (.inr x) (.str x t)=true:=by simp[JS,Qe]
theorem fY(a b:Int):decide ((Jv a:aG)=Jv b)=(a==b):=by
 by_cases e:a=b
 ·subst e;simp
 ·have h : ¬ (Jv a : aG) = Jv b := λq => e (Sum.inl.inj q)
  rw[decide_eq_false h];exact(beq_eq_false_iff_ne.mpr e).symm
theorem jW(a b:Rg):decide ((Mu a:aG)=Mu b)=decide (a=b):=by
 by_cases e:a=b
 ·subst e;simp
 ·have h : ¬ (Mu a : aG) = Mu b := λq => e (Sum.inr.inj q)
  rw[decide_eq_false h,decide_eq_false e]
theorem gJ(a:Int)(b:Rg):decide ((Jv a:aG)=Mu b)=false:=decide_eq_false (λq=>nomatch q)
theorem gX(a:Rg)(b:Int):decide ((Mu a:aG)=Jv b)=false:=decide_eq_false (λq=>nomatch q)
noncomputable def aI(prog:Bb)(w:Rl):PySem.KeyKind prog w aG where
 is:=JS
 hash:=keyH w
 inj:=λv a b l f=>by
  rcases ZL l with⟨i,t,rfl,rfl⟩|⟨x,t,rfl,rfl⟩
  ·rcases ZL f with⟨j,u,rfl,e⟩|⟨y,u,rfl,e⟩
   ·injection e with c _;rw[c]
   ·exact nomatch e
  ·rcases ZL f with⟨j,u,rfl,e⟩|⟨y,u,rfl,e⟩
   ·exact nomatch e
   ·injection e with c _;rw[c]
 byValue:=λk v h=>by
  rcases ZL h with⟨i,t,rfl,rfl⟩|⟨x,t,rfl,rfl⟩<;>rfl
 pyHash:=λd h=>by
  rcases ZL d with⟨i,t,rfl,rfl⟩|⟨x,t,rfl,rfl⟩
  ·exact wpAny_pyHash_int h
  ·exact wpAny_pyHash_str h
 eqBool:=λg d h=>by
  rcases ZL g with⟨i,t,rfl,rfl⟩|⟨x,t,rfl,rfl⟩
  ·rcases ZL d with⟨j,u,rfl,rfl⟩|⟨y,u,rfl,rfl⟩
   ·rw[fY] at h;exact Ko h
   ·rw[gJ] at h;exact SeqAt.EqAt.int_str i t y u _ _ _ _ h
  ·rcases ZL d with⟨j,u,rfl,rfl⟩|⟨y,u,rfl,rfl⟩
   ·rw[gX] at h;exact SeqAt.EqAt.str_int x t j u _ _ _ _ h
   ·rw[jW] at h;exact wpAny_eqBool_str h
 «strs» :=λk x t v h=>by
  rcases ZL h with⟨i,u,rfl,e⟩|⟨y,u,rfl,e⟩
  ·exact nomatch e
  ·injection e with c _
   subst c;cases v<;>rfl
theorem FS(prog:Bb)(w:Rl)(i:Int)(t:Rx):(aI prog w).is (.inl i) (.int i t)=true:=gF i t
theorem FT(prog:Bb)(w:Rl)(x:Rg)(t:Rx):(aI prog w).is (.inr x) (.str x t)=true:=nE x t
inductive V where
 |non|bl (b:Bool)|int (i:Int)|str (x:Rg)|byt (b:Array UInt8)|flt (b:UInt64)|ref (a:Rf)|ty (n:String)
 deriving DecidableEq
def bR:V->Rc->Prop
 |.non,u=>u=Value.none
 |.bl b,u=>u=Lk b
 |.int i,u=>∃t,u=Me i t
 |.str x,u=>∃t,u=Mf x t
 |.byt b,u=>∃t,u=Qw b t
 |.flt b,u=>∃t,u=Oi b t
 |.ref a,u=>u=Bi a
 |.ty n,u=>u=Iv n
abbrev bS:List V->List Rc->Prop:=Paired bR
theorem bS.length{xs:List V}{us:List Rc}(r:bS xs us):xs.length=us.length:=Mg r
theorem bS.get:∀{xs:List V} {us:List Rc} {i:Nat} {x:V},bS xs us->xs[i]?=some x->∃u,us[i]?=some u/\bR x u
 |_,_,_,_,.nil,e=>by simp at e
 |_,_,0,_,.cons r _,e=>by simp at e;subst e;exact⟨_,rfl,r⟩
 |_,_,i+1,x,.cons _ t,e=>by obtain⟨u,h1,h2⟩:=bS.get (i:=i) (x:=x) t (by simpa using e);exact⟨u,by simpa using h1,h2⟩
theorem bS.set{x:V}{u:Rc}(r:bR x u):∀{xs:List V} {us:List Rc} (i:Nat),bS xs us->bS (xs.set i x) (us.set i u)
 |_,_,_,.nil=>.nil
 |_,_,0,.cons _ t=>.cons r t
 |_,_,i+1,.cons q t=>.cons q (bS.set r i t)
theorem bS.append:∀{xs ys:List V} {us ws:List Rc},bS xs us->bS ys ws->bS (xs++ys) (us++ws)
 |_,_,_,_,.nil,s=>s
 |_,_,_,_,.cons r t,s=>.cons r (bS.append t s)
theorem bS.take:∀{xs:List V} {us:List Rc} (n:Nat),bS xs us->bS (xs.take n) (us.take n)
 |_,_,0,_=>.nil
 |_,_,_+1,.nil=>.nil
 |_,_,n+1,.cons r t=>.cons r (bS.take n t)
theorem bS.drop:∀{xs:List V} {us:List Rc} (n:Nat),bS xs us->bS (xs.drop n) (us.drop n)
 |_,_,0,r=>r
 |_,_,_+1,.nil=>.nil
 |_,_,n+1,.cons _ t=>bS.drop n t
def UK:Option V->Option Rc->Prop
 |some v,some u=>bR v u
 |none,none=>True
 |_,_=>False
def KV{κ:Type}:List (κ×V)->List (κ×Rc)->Prop:=Paired λ(p:κ×V) (q:κ×Rc)=>p.1=q.1/\bR p.2 q.2
noncomputable def kV:aG->V
 |.inl i=>.int i
 |.inr x=>.str x
inductive HO where
 |lst (xs:List V)
 |tup (xs:List V)
 |dK (kvs:List (aG×V))|dT (kvs:List (List aG×V))
 |set (S:Int->Bool) (n:Nat)
 |ins (C dx:Rf) (fs:List (Rg×V))
 |own (x:Rf)
 |xd (fs:List (Rg×V))
 |met (f x:Rf)
 |flt (C dx:Rf) (f g:Rg) (p q:Rf) (xs ys:List V)
 |rng (lo hi:Int)
 |frz (o:Ro) (u:HO)
 |tbl (ps:Array Rc)
 |ext (φ:Rn->Prop)
abbrev Hp:=Rf->Option HO
noncomputable def upd(H:Hp)(a:Rf)(o:HO):Hp:=λb=>if b=a then some o else H b
theorem cN{H:Hp}{a:Rf}{o:HO}:upd H a o a=some o:=by unfold upd;rw[if_pos rfl]
theorem cL{H:Hp}{a b:Rf}{o:HO}(h:b≠a):upd H a o b=H b:=by unfold upd;rw[if_neg h]
theorem WK{H:Hp}{a b:Rf}{o u:HO}(h:H a=some o)(h':H b=some u)(d:o≠u):a≠b:=by intro e;subst e;rw[h] at h';exact d (Bv h')
theorem aP{H:Hp}{a b:Rf}{o:HO}(h:H a=some o)(h':H b=none):a≠b:=by intro e;subst e;rw[h] at h';cases h'
section
variable(P:Bb)(w:Rl)
def ZY(H:Hp)(h:Rn)(a:Rf):HO->Prop
 |.lst xs=>xs.length<=sizeLine/\∃(its:List Rc) (n:Nat),bS xs its/\h.get? a=some {cls:=.type "list",data:=.seq its.toArray n}
 |.tup xs=>xs.length<=sizeLine/\∃its:List Rc,bS xs its/\IsTup h a its.toArray
 |.dK kvs=>kvs.length<=sizeLine/\(a==Ey)=false/\∃vs,KV kvs vs/\h.DictOf (aI P w) a vs
 | .dT kvs => kvs.length <= sizeLine /\ (a == Ey) = false /\ ∃ xs : List (List aG × Rf × Rc),
   Paired (λ(p:List aG×V) (q:List aG×Rf×Rc)=>p.1=q.1/\H q.2.1=some (.tup (p.1.map kV))/\bR p.2 q.2.2) kvs xs∧
   ∃o es c,h.get? a=some o/\o.ExactDict/\o.data=.dict es c/\es.toList=xs.map (entryOfKey (tupleKind (aI P w)))/\(xs.map (·.1)).Nodup
 |.set S n=>h.SetOf (intKind P w) a S n
 | .ins C dx fs => H dx = some (.own a) /\ fs.length <= 1000 /\ dx ≠ a /\ h.get? a = some (Ih C dx) ∧
   ∃mA,h.Ns1 dx mA/\(∀f,UK (fs.lookup f) (mA f))/\Jr mA (fs.map (·.1))
 |.own _=>∃o,h.get? a=some o
 |.xd fs=>∃mA,h.Ns1 a mA/\∀f,UK (fs.lookup f) (mA f)
 |.rng lo hi=>∃t u v,h.get? a=some {cls:=.type "range",data:=.fields #[.int lo t,.int hi u,.int 1 v]}
 |.frz o u=>h.get? a=some o/\ZY H h a u
 |.tbl ps=>h.get? a=some {cls:=.none,data:=.fields ps}
 |.met f x=>h.get? a=some (Oj (.ref f) (.ref x))
 | .flt C dx f g p q xs ys => (H dx = some (.own a) /\ H p = some (.own a) /\ H q = some (.own a)) /\ (dx ≠ a /\ p ≠ dx /\ q ≠ dx /\ p ≠ q /\ f ≠ g) /\ h.get? a = some (Ih C dx) ∧
   (∃mA,h.Ns1 dx mA/\(∀n,UK (([(f,.ref p),(g,.ref q)]:List (Rg×V)).lookup n) (mA n))/\Jr mA [f,g])∧
   (xs.length<=sizeLine/\∃(its:List Rc) (n:Nat),bS xs its/\h.get? p=some {cls:=.type "list",data:=.seq its.toArray n})∧
   (ys.length<=sizeLine/\∃(its:List Rc) (n:Nat),bS ys its/\h.get? q=some {cls:=.type "list",data:=.seq its.toArray n})
 |.ext b=>b h/\(∃o,h.get? a=some o)/\∀h1 h2:Rn,b h1->(∀o,h1.get? a=some o->h2.get? a=some o)->b h2
def RL(H:Hp)(h:Rn):Prop:=∀a o,H a=some o->ZY P w H h a o
end
section
variable{P:Bb}{w:Rl}{H H':Hp}{h h':Rn}{a:Rf}{o:HO}
theorem ZY.lt(x:ZY P w H h a o):a<h.objs.size:=by
 cases o with
 |lst xs=>obtain⟨_,_,_,_,e⟩:=x;exact Ap e
 |tup xs=>obtain⟨_,_,_,p⟩:=x;exact p.lt
 |dK kvs=>obtain⟨_,_,_,_,o,_,_,e,_⟩:=x;exact Ap e
 |dT kvs=>obtain⟨_,_,_,_,o,_,_,e,_⟩:=x;exact Ap e
 |set S n=>obtain⟨o,_,_,_,e,_⟩:=x;exact Ap e
 |ins C dx fs=>obtain⟨_,_,_,e,_⟩:=x;exact Ap e
 |own y=>obtain⟨_,e⟩:=x;exact Ap e
 |xd fs=>obtain⟨_,⟨_,_,_,e,_⟩,_⟩:=x;exact Ap e
 |rng lo hi=>obtain⟨_,_,_,e⟩:=x;exact Ap e
 |frz c u=>obtain⟨e,_⟩:=x;exact Ap e
 |tbl ps=>exact Ap (show h.get? a=some _ from x)
 |met f y=>exact Ap (show h.get? a=some _ from x)
 |flt C dx f g p q xs ys=>obtain⟨_,_,e,_⟩:=x;exact Ap e
 |ext b=>obtain⟨_,⟨_,e⟩,_⟩:=x;exact Ap e
theorem Paired.mapP{α β:Type}{F G:α->β->Prop}:∀{l₁:List α} {l₂:List β},Paired F l₁ l₂->(∀a b,F a b->G a b)->Paired G l₁ l₂
 |_,_,.nil,_=>.nil
 |_,_,.cons r t,f=>.cons (f _ _ r) (Paired.mapP t f)
theorem ZY.stay(x:ZY P w H h a o)(k:∀b u,(b=a∨H b=some (.own a))->h.get? b=some u->h'.get? b=some u)(l:∀b,H b=some (.own a)->H' b=some (.own a))(O:∀b xs,H b=some (.tup xs)->H' b=some (.tup xs)):ZY P w H' h' a o:=by
 induction o with
 |lst xs=>obtain⟨z,its,n,r,e⟩:=x;exact⟨z,its,n,r,k _ _ (.inl rfl) e⟩
 |tup xs=>obtain⟨z,its,r,j,e,c⟩:=x;exact⟨z,its,r,j,k _ _ (.inl rfl) e,c⟩
 |dK kvs=>obtain⟨z,y,vs,r,j,es,i,e,c⟩:=x;exact⟨z,y,vs,r,j,es,i,k _ _ (.inl rfl) e,c⟩
 |dT kvs=>
  obtain⟨z,y,xs,r,j,es,i,e,c⟩:=x;exact⟨z,y,xs,Paired.mapP r λp q z=>⟨z.1,O _ _ z.2.1,z.2.2⟩,j,es,i,k _ _ (.inl rfl) e,c⟩
 |set S n=>obtain⟨j,es,i,t,e,c⟩:=x;exact⟨j,es,i,t,k _ _ (.inl rfl) e,c⟩
 |ins C dx fs=>
  obtain⟨d,z,m,e,mA,⟨od,es,i,s,c⟩,r⟩:=x;exact⟨l _ d,z,m,k _ _ (.inl rfl) e,mA,⟨od,es,i,k _ _ (.inr d) s,c⟩,r⟩
 |own y=>obtain⟨j,e⟩:=x;exact⟨j,k _ _ (.inl rfl) e⟩
 |xd fs=>obtain⟨mA,⟨od,es,i,e,c⟩,r⟩:=x;exact⟨mA,⟨od,es,i,k _ _ (.inl rfl) e,c⟩,r⟩
 |rng lo hi=>obtain⟨t,u,v,e⟩:=x;exact⟨t,u,v,k _ _ (.inl rfl) e⟩
 |frz j u L=>obtain⟨e,q⟩:=x;exact⟨k _ _ (.inl rfl) e,L q⟩
 |tbl ps=>
  have e:h.get? a=some {cls:=.none,data:=.fields ps}:=x;show h'.get? a=some {cls:=.none,data:=.fields ps};exact k a _ (.inl rfl) e
 |met f y=>
  have e:h.get? a=some (Oj (.ref f) (.ref y)):=x;show h'.get? a=some (Oj (.ref f) (.ref y));exact k a _ (.inl rfl) e
 |flt C dx f g p q xs ys=>
  obtain⟨⟨D,B,A⟩,m,e,⟨mA,⟨od,es,i,s,c⟩,r⟩,⟨F,N,K,I,R⟩,E,M,J,G,Q⟩:=x;exact⟨⟨l _ D,l _ B,l _ A⟩,m,k _ _ (.inl rfl) e,⟨mA,⟨od,es,i,k _ _ (.inr D) s,c⟩,r⟩,⟨F,N,K,I,k _ _ (.inr B) R⟩,E,M,J,G,k _ _ (.inr A) Q⟩
 |ext T=>obtain⟨p,⟨o,e⟩,st⟩:=x;exact⟨st _ _ p λo q=>k _ _ (.inl rfl) q,⟨o,k _ _ (.inl rfl) e⟩,st⟩
theorem RL.lt(x:RL P w H h)(e:H a=some o):a<h.objs.size:=(x a o e).lt
theorem RL.fresh(x:RL P w H h)(e:h.objs.size<=a):H a=none:=by
 cases q:H a with
 |none=>rfl
 |some u=>exact absurd (Bk (x.lt q) e) (Co _)
theorem RL.kept(x:RL P w H h)(k:∀b u,h.get? b=some u->h'.get? b=some u):RL P w H h':=λa o e=>
 (x a o e).stay (λb u _ q=>k b u q) (λ_ q=>q) λ_ _ q=>q
theorem RL.laid(x:RL P w H h)(k:∀b u,h.get? b=some u->h'.get? b=some u)(g:h.objs.size<=a)(new:ZY P w (upd H a o) h' a o):RL P w (upd H a o) h':=λb u e=>by
 have d:=x.fresh g;by_cases f:b=a
 ·subst f;rw[cN] at e;cases e;exact new
 ·rw[cL f] at e
  exact(x b u e).stay (λc v _ q=>k c v q) (λc q=>by rw[cL (aP q d)];exact q) λc xs q=>by rw[cL (aP q d)];exact q
end
def Prt(H:Hp)(a:Rf)(u:HO):Prop:=∃x C dx f g p q xs ys,H a=some (.own x)/\H x=some (.flt C dx f g p q xs ys)/\((a=p/\u=.lst xs)∨(a=q/\u=.lst ys))
def Rd(H:Hp)(a:Rf)(u:HO):Prop:=(H a=some u∨Prt H a u)∨∃o,H a=some (.frz o u)
theorem Rd.of{H:Hp}{a:Rf}{u:HO}(h:H a=some u):Rd H a u:=.inl (.inl h)
theorem Rd.ok{P:Bb}{w:Rl}{H:Hp}{h:Rn}{a:Rf}{u:HO}(r:Rd H a u)(x:RL P w H h):ZY P w H h a u:=by
 rcases r with(r|⟨y,C,dx,f,g,p,q,xs,ys,_,e,z⟩)|⟨o,r⟩
 ·exact x a u r
 ·obtain⟨_,_,_,_,c,b⟩:=x y _ e
  rcases z with⟨rfl,rfl⟩|⟨rfl,rfl⟩
  ·exact c
  ·exact b
 ·obtain⟨_,q⟩:=x a _ r
  exact q
def Mut:Option HO->Prop
 |some (.lst _)=>True
 |some (.dK _)=>True
 |some (.dT _)=>True
 |some (.set _ _)=>True
 |some (.ins _ _ _)=>True
 |some (.flt _ _ _ _ _ _ _ _)=>True
 |some (.ext _)=>True
 |_=>False
section
variable{P:Bb}{w:Rl}{H:Hp}{h h':Rn}{x e:Rf}{o':HO}
theorem RL.write(ok:RL P w H h)(d:Mut (H x))(l:e=x∨H e=some (.own x))(k:∀b u,b≠e->h.get? b=some u->h'.get? b=some u)(g:∃u,h'.get? e=some u)
  (new:ZY P w (upd H x o') h' x o'):RL P w (upd H x o') h':=λb u q=>by
 have j:∀c y,H c=some (.own y)->c≠x:=λc y r z=>by subst z;rw[r] at d;exact d
 have m:∀c xs,H c=some (.tup xs)->c≠x:=λc xs r z=>by subst z;rw[r] at d;exact d
 by_cases f:b=x
 ·subst f;rw[cN] at q;cases q;exact new
 ·rw[cL f] at q
  by_cases a:b=e
  ·have i:H b=some (.own x):=by
    rcases l with z|z
    ·exact absurd (a.trans z) f
    ·rw[a];exact z
   rw[q] at i;cases i;obtain⟨v,n⟩:=g;exact⟨v,by rw[a];exact n⟩
  ·refine (ok b u q).stay (λc v hc r => k c v ?_ r) (λc r => by rw [cL (j c b r)];exact r) λc xs r => by rw [cL (m c xs r)];exact r
   rcases hc with rfl|hc
   ·exact a
   ·rintro rfl
    rcases l with z|z
    ·exact j c b hc z
    ·rw[hc] at z;cases z;exact f rfl
end
structure Un(fs ex:List Rf)(H H':Hp)(h h':Rn):Prop where
 keep:∀b o,h.get? b=some o->H b=none->b∉fs->b∉ex->h'.get? b=some o
 slot:∀b o,h.get? b=some o->H b=none->b∈fs->b∉ex->∃sl,h'.get? b=some {o with slots:=sl}
 free:∀b o,h.get? b=some o->H b=none->b∉ex->H' b=none
 there:∀b o,h.get? b=some o->b∉ex->∃o',h'.get? b=some o'
 tups:∀b xs,H b=some (.tup xs)->H' b=some (.tup xs)
 frzs:∀b o u,H b=some (.frz o u)->H' b=some (.frz o u)
 tbls:∀b ps,H b=some (.tbl ps)->∃more,H' b=some (.tbl (ps++more))
section
variable{fs fs' ex ex':List Rf}{H H1 H2:Hp}{h h1 h2 h':Rn}{a x e:Rf}{o:HO}
theorem Un.any(u:Un fs ex H H1 h h1){b:Rf}{a:Ro}(q:h.get? b=some a)(n:H b=none)(c:b∉ex):∃e,h1.get? b=some {a with slots:=e}:=by
 by_cases d:b∈fs
 ·exact u.slot b a q n d c
 ·exact⟨a.slots,u.keep b a q n d c⟩
theorem Un.kept(k:∀b u,h.get? b=some u->h'.get? b=some u):Un fs ex H H h h':=
 ⟨λb a q _ _ _=>k b a q,λb a q _ _ _=>⟨a.slots,k b a q⟩,λ_ _ _ n _=>n,λb a q _=>⟨a,k b a q⟩,λ_ _ q=>q,λ_ _ _ q=>q,λ_ ps q=>⟨#[],by rw[q];simp⟩⟩
theorem Un.refl:Un fs ex H H h h:=Un.kept λ_ _ q=>q
theorem Un.laid(k:∀b u,h.get? b=some u->h'.get? b=some u)(d:h.objs.size<=a)(c:H a=none):Un fs ex H (upd H a o) h h' where
 keep:=λb u q _ _ _=>k b u q
 slot:=λb u q _ _ _=>⟨u.slots,k b u q⟩
 free:=λb u q n _=>by rw[cL (Bg (Bk (Ap q) d))];exact n
 there:=λb u q _=>⟨u,k b u q⟩
 tups:=λb xs q=>by rw[cL (aP q c)];exact q
 frzs:=λb u xs q=>by rw[cL (aP q c)];exact q
 tbls:=λb ps q=>⟨#[],by rw[cL (aP q c),q];simp⟩
theorem Un.write(c:Mut (H x))(j:e=x∨H e=some (.own x))(k:∀b u,b≠e->h.get? b=some u->h'.get? b=some u)(f:∃u,h'.get? e=some u):Un fs ex H (upd H x o) h h':=by
 have g:∀b,H b=none->b≠x:=λb n z=>by subst z;rw[n] at c;exact c
 have i:∀b,H b=none->b≠e:=λb n z=>by
  subst z;rcases j with r|r
  ·exact g b n r
  ·rw[n] at r;cases r
 have d:∀b u,H b=some u->¬Mut (some u)->b≠x:=λb u q nm z=>by subst z;rw[q] at c;exact nm c
 refine⟨λb u q n _ _=>k b u (i b n) q,λb u q n _ _=>⟨u.slots,k b u (i b n) q⟩,λb u q n _=>by rw[cL (g b n)];exact n,λb u q _=>?_,λb xs q=>by rw[cL (d b _ q λz=>z)];exact q,λb u xs q=>by rw[cL (d b _ q λz=>z)];exact q,λb ps q=>⟨#[],by rw[cL (d b _ q λz=>z),q];simp⟩⟩
 by_cases a:b=e
 ·subst a;exact f
 ·exact⟨u,k b u a q⟩
end
noncomputable def trk(h:Rn)(H:Hp):List Rf:=(Bh h.objs.size).filter λa=>(H a).isSome
def HL(h:Rn)(H:Hp):Rn:=W.hideAll h (trk h H)
theorem Zr(h:Rn)(H:Hp):(HL h H).objs.size=h.objs.size:=W.hideAll_size _ _
theorem mS{h:Rn}{H:Hp}{b:Rf}{o:Ro}(e:h.get? b=some o)(n:H b=none):(HL h H).get? b=some o:=
 W.hideAll_get _ e λa=>by have q:(H b).isSome=true:=(Ha.mp a).2;rw[n] at q;simp at q
theorem iG{h:Rn}{H:Hp}{b:Rf}{o:Ro}(e:(HL h H).get? b=some o):h.get? b=some o/\H b=none:=by
 have a:h.get? b=some o:=W.of_hideAll (trk h H) e;refine⟨a,?_⟩;cases q:H b with
 |none=>rfl
 |some x=>
  have c:b∈trk h H:=Ha.mpr ⟨Ck.mpr (Ap a),by simp[q]⟩;have z:(HL h H).get? b=none:=W.hideAll_none (trk h H) c;rw[z] at e;cases e
structure Mod(K:Al)(mg:Rg->Option Rc)(base:Rn):Prop where
 kin:K.In base
 glob:base.Ns Ri mg
 blt:∃mb,base.Ns builtinsNs mb/\∀x:Rg,x≠ "__name__" ->mb x=Bm x
 nolimit:base.NoLimit
structure Cx where
 prog:Bb
 w:Rl
 K:Al
 mg:Rg->Option Rc
 base:Rn
 A:Cn
 N:List Rg
 s₀:Af
 H₀:Hp
 env:Env
 outer:List Env
 stack:List Env
 ex:List Rf
 fn:Rg->Bool
 calm:Bool
 pn:List (Rf×Ro)
 xe:Rc->Af->Prop
def frs(l:List Env):List Rf:=l.filterMap (·.frame)
abbrev Cx.fs(X:Cx):List Rf:=frs X.outer
def Vis(a:Rt)(x:Rg):Prop:=a.names.lookup x=some .local∨a.names.lookup x=some .cell∨a.names.lookup x=some .free
def Loc(a:Rt)(x:Rg):Prop:=a.names.lookup x=some .local∨a.names.lookup x=some .cell
def Look(env:Env)(h:Rn)(m:Rg->Option Rc)(x:Rg)(u:Rc):Prop:=
 (env.kindOf x=some .local/\m x=some u)∨((env.kindOf x=some .cell∨env.kindOf x=some .free)/\∃c,env.cells.lookup x=some c/\h.IsCell c (some u))
structure Cx.Ok(X:Cx):Prop where
 mod:Mod X.K X.mg X.base
 kind:X.env.scope.kind=.function
 glob:X.env.globals=Ri
 blt:X.env.builtins=builtinsNs
 above:X.s₀.heap.objs.size<=X.env.locals
 inj:∀x y c,X.env.cells.lookup x=some c->X.env.cells.lookup y=some c->x=y
 has:∀x,(X.env.kindOf x=some .cell∨X.env.kindOf x=some .free)->∃c,X.env.cells.lookup x=some c
 cab:∀x c,X.fn x=true->X.env.cells.lookup x=some c->X.s₀.heap.objs.size<=c
 hd:X.calm=true->X.A.handled=none
 frames:X.A.frames=some X.stack
 stk:X.stack=X.outer∨(X.stack=X.env::X.outer/\X.env.frame=some X.env.locals)
 exf:∀b∈X.ex,b≠X.env.locals/\∀x c,X.env.cells.lookup x=some c->c≠b
 bs:∀b o,X.base.get? b=some o->X.s₀.heap.get? b=some o/\X.H₀ b=none
 bsz:X.base.objs.size<=X.s₀.heap.objs.size
 noex:∀b o,X.base.get? b=some o->b∉X.ex
 exfs:∀b∈X.ex,b∉X.fs
 funs:X.s₀.heap.FunFrames X.base X.outer
 frf:∀b∈X.fs,X.H₀ b=none
structure cA(X:Cx)(aa:List (Rf×Ro))(σ:List (Option V))(H:Hp)(s:Af):Prop where
 ok:X.Ok
 os:s.os=X.s₀.os
 bare:Kx s.gens
 base:Un X.fs X.ex X.H₀ H X.s₀.heap s.heap
 loc:∃m,s.heap.Ns X.env.locals m/\∀(i:Nat) (x:Rg) (v:V),X.N[i]?=some x->σ[i]?=some (some v)->Vis X.env.scope x->∃u,bR v u/\Look X.env s.heap m x u
 cell:∀x c,X.env.cells.lookup x=some c->∃v,s.heap.IsCell c v
 free:H X.env.locals=none
 freeC:∀x c,X.env.cells.lookup x=some c->H c=none
 pin:∀p∈X.pn++aa,s.heap.get? p.1=some p.2/\H p.1=none/\p.1≠X.env.locals/\p.1∉X.fs/\∀v,p.2.data≠ .cell v
 hok:RL X.prog X.w H s.heap
 len:σ.length=X.N.length
section
variable{X:Cx}{aa:List (Rf×Ro)}{σ:List (Option V)}{H H':Hp}{s:Af}{h':Rn}
theorem Cx.Ok.nofr(ok:X.Ok){b:Rf}{o:Ro}(e:X.base.get? b=some o):b∉X.fs:=λa=>by
 have:=(ok.funs.mem a).1
 rw[e] at this;cases this
theorem cA.bs(I:cA X aa σ H s):∀b o,X.base.get? b=some o->s.heap.get? b=some o/\H b=none:=λb o e=>
 ⟨I.base.keep b o (I.ok.bs b o e).1 (I.ok.bs b o e).2 (I.ok.nofr e) (I.ok.noex b o e),I.base.free b o (I.ok.bs b o e).1 (I.ok.bs b o e).2 (I.ok.noex b o e)⟩
theorem cA.bk(I:cA X aa σ H s):∀b o,X.base.get? b=some o->s.heap.get? b=some o:=λb o e=>(I.bs b o e).1
theorem cA.mod(I:cA X aa σ H s):Mod X.K X.mg X.base:=I.ok.mod
theorem cA.kIn(I:cA X aa σ H s):X.K.In s.heap:=I.ok.mod.kin.keeps I.bk
theorem cA.lt(I:cA X aa σ H s):X.env.locals<s.heap.objs.size:=let ⟨_,a,_⟩:=I.loc;a.lt
theorem cA.sz(I:cA X aa σ H s):X.s₀.heap.objs.size<=s.heap.objs.size:=Em I.ok.above (Nk I.lt)
theorem cA.nofs(I:cA X aa σ H s){a:Rf}(h:s.heap.objs.size<=a):a∉X.fs:=λc=>by obtain⟨_,o,b,_⟩:=I.ok.funs.mem c;exact absurd (Bk (Ap b) (Em I.sz h)) (Co _)
theorem cA.cne(I:cA X aa σ H s):∀x c,X.env.cells.lookup x=some c->c≠X.env.locals:=λx c e z=>by obtain⟨v,o,d,hd⟩:=I.cell x c e;obtain⟨m,⟨o',es,f,a,b,_⟩,_⟩:=I.loc;rw[z,a] at d;cases d;rw[b] at hd;cases hd
theorem cA.funs(I:cA X aa σ H s):s.heap.FunFrames X.base X.outer:=by
 have all:∀(l:List Env),(∀b∈frs l,b∈X.fs)->X.s₀.heap.FunFrames X.base l->s.heap.FunFrames X.base l:=by
  intro l;induction l with
  |nil=>intro _ _;trivial
  |cons env r g=>
   intro f hl;obtain⟨hk,⟨L,o,a,j,i,hd⟩,h⟩:=hl;have d:L∈X.fs:=f L (by unfold frs;rw[Iz,a];exact Ay);obtain⟨k,e⟩:=I.base.slot L o i (I.ok.frf L d) d λz=>I.ok.exfs L z d;exact⟨hk,⟨L,_,a,j,e,hd⟩,g (λb c=>f b (by unfold frs;rw[Iz,a];exact Ar _ c)) h⟩
 exact all X.outer (λ_ c=>c) I.ok.funs
theorem cA.stack(I:cA X aa σ H s):s.heap.FunFrames X.base X.stack:=by
 rcases I.ok.stk with e|⟨e,b⟩
 ·rw[e];exact I.funs
 ·rw[e]
  obtain⟨m,a,_⟩:=I.loc;refine .cons (by rw[I.ok.kind];decide) b a ?_ I.funs;exact Heap.get?_none_of_le (Em I.ok.bsz I.ok.above)
theorem cA.stkSub(I:cA X aa σ H s):∀b∈frs X.stack,b∈X.env.locals::X.fs:=λb a=>by
 rcases I.ok.stk with e|⟨e,c⟩
 ·rw[e] at a;exact Ar _ a
 ·rw[e] at a
  unfold frs at a;rw[Iz,c] at a;exact a
theorem cA.stkFree(I:cA X aa σ H s):∀b∈frs X.stack,H b=none:=λb a=>by
 rcases Aj.mp (I.stkSub b a) with e|a
 ·rw[e];exact I.free
 ·obtain⟨_,o,c,_⟩:=I.ok.funs.mem a
  exact I.base.free b o c (I.ok.frf b a) λz=>I.ok.exfs b z a
theorem cA.step{g':Array GenState}{t':Nat}{d':Drawn}{ch:List Rf}(I:cA X aa σ H s)(h:∀b∈ch,(b∈X.ex∨X.s₀.heap.objs.size<=b)/\b≠X.env.locals/\(∀x c,X.env.cells.lookup x=some c->c≠b)/\∀p∈X.pn++aa,p.1≠b)(keep:∀b o,b≠X.env.locals->b∉X.fs->b∉ch->s.heap.get? b=some o->H b=none->h'.get? b=some o)(slot:∀b o,b≠X.env.locals->b∈X.fs->b∉ch->s.heap.get? b=some o->H b=none->∃G,h'.get? b=some {o with slots:=G})(f:∀b o,b∉ch->s.heap.get? b=some o->H b=none->H' b=none)(there:∀b o,b∉ch->s.heap.get? b=some o->∃o',h'.get? b=some o')(tups:∀b xs,H b=some (.tup xs)->H' b=some (.tup xs))(D:∀b o u,H b=some (.frz o u)->H' b=some (.frz o u))(B:∀b ps,H b=some (.tbl ps)->∃more,H' b=some (.tbl (ps++more)))(ns:∀m,s.heap.Ns X.env.locals m->h'.Ns X.env.locals m)(J:RL X.prog X.w H' h')(R:Kx g'):cA X aa σ H' {s with heap:=h',gens:=g',drawn:=d',toks:=t'}:=by
 have C:∀b o,X.s₀.heap.get? b=some o->b≠X.env.locals:=λb o e=>Bg (Bk (Ap e) I.ok.above);have j:∀b o,X.s₀.heap.get? b=some o->b∉X.ex->b∉ch:=λb o e a y=>by
  rcases(h b y).1 with z|z
  ·exact a z
  ·exact absurd (Bk (Ap e) z) (Co _)
 have M:∀x c,X.env.cells.lookup x=some c->∀v,s.heap.IsCell c v->h'.IsCell c v:=λx c e v q0=>by
  obtain⟨o,A,hd⟩:=q0;have g:c∉ch:=λz=>(h c z).2.2.1 x c e rfl;by_cases hc:c∈X.fs
  ·obtain⟨G,q⟩:=slot c o (I.cne x c e) hc g A (I.freeC x c e)
   exact⟨_,q,hd⟩
  ·exact⟨o,keep c o (I.cne x c e) hc g A (I.freeC x c e),hd⟩
 refine⟨I.ok,I.os,R,⟨λb o e n y a=>?_,λb o e n y a=>?_,λb o e n a=>?_,λb o e a=>?_,λb xs e=>tups b xs (I.base.tups b xs e),λb o xs e=>D b o xs (I.base.frzs b o xs e),λb ps e=>?_⟩,?_,λx c e=>?_,?_,λx c e=>?_,λp N=>?_,J,I.len⟩
 ·exact keep b o (C b o e) y (j b o e a) (I.base.keep b o e n y a) (I.base.free b o e n a)
 ·obtain⟨G,t⟩:=I.base.slot b o e n y a
  obtain⟨F,E⟩:=slot b _ (C b o e) y (j b o e a) t (I.base.free b o e n a);exact⟨F,E⟩
 ·obtain⟨o',t⟩:=I.base.there b o e a
  exact f b o' (j b o e a) t (I.base.free b o e n a)
 ·obtain⟨o',t⟩:=I.base.there b o e a
  exact there b o' (j b o e a) t
 ·obtain⟨P,t⟩:=I.base.tbls b ps e
  obtain⟨O,E⟩:=B b _ t;exact⟨P++O,by rw[E,Array.append_assoc]⟩
 ·obtain⟨m,Q,hl⟩:=I.loc
  refine⟨m,ns m Q,λi x v t E S=>?_⟩;obtain⟨u,r,l⟩:=hl i x v t E S;refine⟨u,r,?_⟩;rcases l with l|⟨k,c,e,z⟩
  ·exact .inl l
  ·exact .inr ⟨k,c,e,M x c e _ z⟩
 ·obtain⟨v,z⟩:=I.cell x c e
  exact⟨v,M x c e v z⟩
 ·obtain⟨m,⟨o,_,_,A,_⟩,_⟩:=I.loc
  exact f _ o (λz=>(h _ z).2.1 rfl) A I.free
 ·obtain⟨v,o,A,hd⟩:=I.cell x c e
  exact f c o (λz=>(h c z).2.2.1 x c e rfl) A (I.freeC x c e)
 ·obtain⟨e,n,L,K,d⟩:=I.pin p N
  have g:p.1∉ch:=λz=>(h p.1 z).2.2.2 p N rfl;exact⟨keep p.1 p.2 L K g e n,f p.1 p.2 g e n,L,K,d⟩
theorem cA.un{t':Nat}(I:cA X aa σ H s)(u:Un X.fs [] H H' s.heap h')(c:RL X.prog X.w H' h'):cA X aa σ H' {s with heap:=h',toks:=t'}:=by
 obtain⟨m,⟨o,es,p,h,r⟩,_⟩:=id I.loc;obtain⟨k,j⟩:=u.any h I.free (by simp);exact I.step (g':=s.gens) (d':=s.drawn) (ch:=[]) (λ_ z=>nomatch z) (λb o _ d _ e n=>u.keep b o e n d (by simp)) (λb o _ d _ e n=>u.slot b o e n d (by simp)) (λb o _ e n=>u.free b o e n (by simp)) (λb o _ e=>u.there b o e (by simp)) u.tups u.frzs u.tbls (λl i=>by obtain⟨o',f,g,a,r'⟩:=i;rw[h] at a;cases a;exact⟨_,f,g,j,r'⟩) c I.bare
theorem cA.call{g':Array GenState}{t':Nat}{d':Drawn}{ch:List Rf}(I:cA X aa σ H s)(u:Un (frs X.stack) ch H H' s.heap h')(f:RL X.prog X.w H' h')(l:Kx g')(d:∀b∈ch,(b∈X.ex∨X.s₀.heap.objs.size<=b)/\b≠X.env.locals/\(∀x c,X.env.cells.lookup x=some c->c≠b)/\∀p∈X.pn++aa,p.1≠b):cA X aa σ H' {s with heap:=h',gens:=g',drawn:=d',toks:=t'}:=by
 obtain⟨m,⟨o,es,y,j,r⟩,_⟩:=id I.loc;obtain⟨t,g⟩:=u.any j I.free λz=>(d _ z).2.1 rfl;exact I.step (ch:=ch) d (λb o g q hc e n=>u.keep b o e n (λz=>(Aj.mp (I.stkSub b z)).elim g q) hc) (λb o _ _ hc e n=>u.any e n hc) (λb o hc e n=>u.free b o e n hc) (λb o hc e=>u.there b o e hc) u.tups u.frzs u.tbls (λv k=>by obtain⟨o',h,i,a,r'⟩:=k;rw[j] at a;cases a;exact⟨_,h,i,g,r'⟩) f l
theorem cA.turned{t':Nat}{it:Rf}(I:cA X aa σ H s)(k:∀b o,b≠it->s.heap.get? b=some o->h'.get? b=some o)(g:H it=none)(d:it≠X.env.locals)(h1:it∈X.ex∨X.s₀.heap.objs.size<=it)(h2:∀x c,X.env.cells.lookup x=some c->c≠it)(j:∀p∈X.pn++aa,p.1≠it):cA X aa σ H {s with heap:=h',toks:=t'}:=by
 have a:∀b u,H b=some u->b≠it:=λb u e z=>by rw[z,g] at e;cases e
 refine I.step (g':=s.gens) (d':=s.drawn) (ch:=[it]) (λb i=>?_) (λb o _ _ hc e _=>k b o (λz=>hc (by simp[z])) e) (λb o _ _ hc e _=>⟨o.slots,k b o (λz=>hc (by simp[z])) e⟩) (λ_ _ _ _ n=>n)
  (λb o hc e=>⟨o,k b o (λz=>hc (by simp[z])) e⟩) (λ_ _ e=>e) (λ_ _ _ e=>e) (λb ps e=>⟨#[],by rw[e];simp⟩) (λm h=>?_) (λb u e=>?_) I.bare
 ·have e : b = it := by simpa using i
  subst e;exact⟨h1,d,h2,j⟩
 ·obtain⟨o,es,l,f,r⟩:=h
  exact⟨o,es,l,k _ o (Cq d) f,r⟩
 ·refine (I.hok b u e).stay (λc v hc q => k c v ?_ q) (λ_ q => q) λ_ _ q => q
  rcases hc with z|z
  ·rw[z];exact a b u e
  ·exact a c _ z
theorem cA.tok(I:cA X aa σ H s)(t:Nat):cA X aa σ H {s with toks:=t}:=I.un (h':=s.heap) (t':=t) Un.refl I.hok
theorem cA.kept{t':Nat}(I:cA X aa σ H s)(k:∀b u,s.heap.get? b=some u->h'.get? b=some u):cA X aa σ H {s with heap:=h',toks:=t'}:=I.un (Un.kept k) (I.hok.kept k)
theorem cA.laid{a:Rf}{o:HO}{t':Nat}(I:cA X aa σ H s)(k:∀b u,s.heap.get? b=some u->h'.get? b=some u)(c:s.heap.objs.size<=a)(new:ZY X.prog X.w (upd H a o) h' a o):cA X aa σ (upd H a o) {s with heap:=h',toks:=t'}:=I.un (Un.laid k c (I.hok.fresh c)) (I.hok.laid k c new)
theorem cA.write{x e:Rf}{o:HO}{t':Nat}(I:cA X aa σ H s)(c:Mut (H x))(d:e=x∨H e=some (.own x))(k:∀b u,b≠e->s.heap.get? b=some u->h'.get? b=some u)(a:∃u,h'.get? e=some u)(new:ZY X.prog X.w (upd H x o) h' x o):cA X aa σ (upd H x o) {s with heap:=h',toks:=t'}:=I.un (Un.write c d k a) (I.hok.write c d k a new)
theorem cA.weak{a:List (Option V)}(I:cA X aa σ H s)(hl:a.length=σ.length)(w:∀(i:Nat) v,a[i]?=some (some v)->σ[i]?=some (some v)):cA X aa a H s:=
 ⟨I.ok,I.os,I.bare,I.base,let ⟨m,c,b⟩:=I.loc;⟨m,c,λi x v f e d=>b i x v f (w i v e) d⟩,I.cell,I.free,I.freeC,I.pin,I.hok,hl.trans I.len⟩
theorem cA.pins_of{a:List (Rf×Ro)}(I:cA X aa σ H s)(h:∀p∈a,s.heap.get? p.1=some p.2/\H p.1=none/\p.1≠X.env.locals/\p.1∉X.fs/\∀v,p.2.data≠ .cell v):cA X a σ H s:=
 ⟨I.ok,I.os,I.bare,I.base,I.loc,I.cell,I.free,I.freeC,λp b=>(Bz.mp b).elim (λz=>I.pin p (Ch _ z)) (h p),I.hok,I.len⟩
theorem FY{N:List Rg}(c:N.Nodup){i j:Nat}{x:Rg}(a:N[i]?=some x)(b:N[j]?=some x):i=j:=by obtain⟨h1,e⟩:=Ag.mp a;obtain⟨h2,d⟩:=Ag.mp b;exact(Nv c).mp (e.trans d.symm)
theorem KA{M:Model}{A:Cn}{E:Rc->Af->Prop}{i:Nat}{x:Rg}{v:V}{u:Rc}{Q:Unit->Af->Prop}(I:cA X aa σ H s)(hN:X.N.Nodup)(hi:X.N[i]?=some x)(l:Loc X.env.scope x)(r:bR v u)(h:∀s',cA X aa (σ.set i (some v)) H s'->(∃a,Fa a s.heap s'.heap/\(a=X.env.locals∨X.env.cells.lookup x=some a))->Q () s')(hf:X.fn x=true∨X.env.scope.names.lookup x=some .local:=by first|exact .inl rfl|exact .inr rfl|assumption):Rh M A (storeName X.env x u) Q E s:=by
 obtain⟨m,Z,hl⟩:=id I.loc;have u9:(X.env.scope.kind== .class || (X.env.scope.kind== .module&&X.env.locals !=X.env.globals))=false:=by rw[I.ok.kind];rfl
 have B:i<σ.length:=by rw[I.len];exact(Ag.mp hi).1
 have cne:=I.cne;have eu:∀{a:Rf} {h':Rn},(∃o,s.heap.get? a=some o/\H a=none)->Fa a s.heap h'->RL X.prog X.w H h':=λ{a h'} ha f b ob e=>by
  obtain⟨_,_,c8⟩:=ha;refine(I.hok b ob e).stay (λc w' hc q=>(f.2 c ?_).trans q) (λ_ q=>q) λ_ _ q=>q;rintro rfl;rcases hc with rfl|hc
  ·rw[c8] at e;cases e
  ·rw[c8] at hc;cases hc
 rcases l with hk|hk
 ·refine wpAny_storeName_local hk Z (λh' Y f => ?_) u9
  obtain⟨oL,_,_,W,_⟩:=id Z;refine h _ ⟨I.ok,I.os,I.bare,⟨λb o e n F l=>?_,λb o e n F l=>?_,I.base.free,λb o e l=>?_,I.base.tups,I.base.frzs,I.base.tbls⟩,⟨_,Y,λj y P g t e3=>?_⟩,λy c e=>?_,I.free,I.freeC,λp U=>?_,eu ⟨oL,W,I.free⟩ f,by simpa using I.len⟩ ⟨_,f,.inl rfl⟩
  ·exact(f.2 b (Bg (Bk (Ap e) I.ok.above))).trans (I.base.keep b o e n F l)
  ·obtain⟨S,g⟩:=I.base.slot b o e n F l
   exact⟨S,(f.2 b (Bg (Bk (Ap e) I.ok.above))).trans g⟩
  ·obtain⟨o',g⟩:=I.base.there b o e l
   exact⟨o',(f.2 b (Bg (Bk (Ap e) I.ok.above))).trans g⟩
  ·by_cases C:j=i
   ·subst C
    rw[hi] at g;cases g;rw[Dd B] at t;cases t;exact⟨u,r,.inl ⟨hk,by simp⟩⟩
   ·rw[Bw (Cq C)] at t
    obtain⟨R,r',q⟩:=hl j y P g t e3;refine⟨R,r',?_⟩;rcases q with⟨k,e⟩|⟨k,c,e,z⟩
    ·refine .inl ⟨k,?_⟩
     have:y≠x:=λe=>C (FY hN g (e▸hi))
     simp[this,e]
    ·exact .inr ⟨k,c,e,z.sameBut f (cne y c e)⟩
  ·obtain⟨w',z⟩:=I.cell y c e
   exact⟨w',z.sameBut f (cne y c e)⟩
  ·obtain⟨e,n,L,T,d⟩:=I.pin p U
   exact⟨(f.2 p.1 L).trans e,n,L,T,d⟩
 ·have D:X.fn x=true:=by
   rcases hf with z|z
   ·exact z
   ·rw[z] at hk;cases hk
  obtain⟨c,hc⟩:=I.ok.has x (.inl hk);obtain⟨w',z⟩:=I.cell x c hc;refine wpAny_storeName_cell I.ok.kind hk hc z (λh' K f=>?_);obtain⟨oc,G,so⟩:=id z;refine h {s with heap:=h'} ⟨I.ok,I.os,I.bare,⟨λb o e n F l=>?_,λb o e n F l=>?_,I.base.free,λb o e l=>?_,I.base.tups,I.base.frzs,I.base.tbls⟩,⟨m,Z.sameBut f (Cq (cne x c hc)),λj y P g t e3=>?_⟩,λy O e=>?_,I.free,I.freeC,λp U=>?_,eu ⟨oc,G,I.freeC x c hc⟩ f,by simpa using I.len⟩ ⟨c,f,.inr hc⟩
  ·exact(f.2 b (Bg (Bk (Ap e) (I.ok.cab x c D hc)))).trans (I.base.keep b o e n F l)
  ·obtain⟨S,g⟩:=I.base.slot b o e n F l
   exact⟨S,(f.2 b (Bg (Bk (Ap e) (I.ok.cab x c D hc)))).trans g⟩
  ·obtain⟨o',g⟩:=I.base.there b o e l
   exact⟨o',(f.2 b (Bg (Bk (Ap e) (I.ok.cab x c D hc)))).trans g⟩
  ·by_cases C:j=i
   ·subst C
    rw[hi] at g;cases g;rw[Dd B] at t;cases t;exact⟨u,r,.inr ⟨.inl hk,c,hc,K⟩⟩
   ·rw[Bw (Cq C)] at t
    obtain⟨R,r',q⟩:=hl j y P g t e3;refine⟨R,r',?_⟩;rcases q with q|⟨k,O,e,z'⟩
    ·exact .inl q
    ·refine .inr ⟨k,O,e,z'.sameBut f ?_⟩
     rintro rfl;exact C (FY hN g (I.ok.inj _ _ _ e hc▸hi))
  ·by_cases J:O=c
   ·subst J;exact⟨_,K⟩
   ·obtain⟨w2,z2⟩:=I.cell y O e
    exact⟨w2,z2.sameBut f J⟩
  ·obtain⟨e,n,L,T,d⟩:=I.pin p U
   refine⟨(f.2 p.1 ?_).trans e,n,L,T,d⟩;intro q;rw[q,G] at e;have q':oc=p.2:=Bv e;exact d w' (by rw[<-q'];exact so)
theorem XS{M:Model}{A:Cn}{E:Rc->Af->Prop}{i:Nat}{x:Rg}{v:V}{u:Rc}{Q:Unit->Af->Prop}(I:cA X aa σ H s)(c:X.N.Nodup)(hi:X.N[i]?=some x)(a:Loc X.env.scope x)(r:bR v u)(h:∀s',cA X aa (σ.set i (some v)) H s'->Q () s')(b:X.fn x=true∨X.env.scope.names.lookup x=some .local:=by first|exact .inl rfl|exact .inr rfl|assumption):Rh M A (storeName X.env x u) Q E s:=
 KA I c hi a r (λs' d _=>h s' d) b
theorem cA.call'{s':Af}{ch:List Rf}(I:cA X aa σ H s)(f:s'.os=s.os)(u:Un (frs X.stack) ch H H' s.heap s'.heap)(a:RL X.prog X.w H' s'.heap)(g:Kx s'.gens)(d:∀b∈ch,(b∈X.ex∨X.s₀.heap.objs.size<=b)/\b≠X.env.locals/\(∀x c,X.env.cells.lookup x=some c->c≠b)/\∀p∈X.pn++aa,p.1≠b):cA X aa σ H' s':=by obtain⟨h',g',d',t',o'⟩:=s';have e:o'=s.os:=f;subst e;exact I.call (g':=g') (t':=t') (d':=d') u a g d
end
abbrev XK:=Rc->Option Rf->Hp->Prop
abbrev St:=List (Option V)
abbrev VK:=V->Hp->Prop
abbrev TE:=St->Hp->VK->Prop
abbrev TT:=St->Hp->(Bool->Hp->Prop)->Prop
abbrev TA:=St->Hp->(List V->Hp->Prop)->Prop
structure CQ where
 nx:St->Hp->Prop
 rt:VK
 bk:St->Hp->Prop:=λ_ _=>False
 ct:St->Hp->Prop:=λ_ _=>False
abbrev TS:=CQ->St->Hp->Prop
def EP(X:Cx)(aa:List (Rf×Ro))(σ:St)(Q:VK)(u:Rc)(s':Af):Prop:=∃v H',cA X aa σ H' s'/\bR v u/\Q v H'
def TP(X:Cx)(aa:List (Rf×Ro))(σ:St)(Q:Bool->Hp->Prop)(b:Bool)(s':Af):Prop:=∃H',cA X aa σ H' s'/\Q b H'
def AP(X:Cx)(aa:List (Rf×Ro))(σ:St)(Q:List V->Hp->Prop)(us:List Rc)(s':Af):Prop:=∃vs H',cA X aa σ H' s'/\bS vs us/\Q vs H'
def SP(X:Cx)(aa:List (Rf×Ro))(D:CQ)(f:Flow)(s':Af):Prop:=
 match f with
 |.next=>∃a H',cA X aa a H' s'/\D.nx a H'
 |.brk=>∃a H',cA X aa a H' s'/\D.bk a H'
 |.cont=>∃a H',cA X aa a H' s'/\D.ct a H'
 |.ret u=>∃v a H',cA X aa a H' s'/\bR v u/\D.rt v H'
def PE(X:Cx)(e:Rk)(t:TE):Prop:=
 ∀(aa:List (Rf×Ro)) (s:Af) (σ:St) (H:Hp) (Q:VK),cA X aa σ H s->t σ H Q->Rh (Rj X.prog X.w) X.A (eval e X.env) (EP X aa σ Q) X.xe s
def PT(X:Cx)(e:Rk)(t:TT):Prop:=
 ∀(aa:List (Rf×Ro)) (s:Af) (σ:St) (H:Hp) (Q:Bool->Hp->Prop),cA X aa σ H s->t σ H Q->Rh (Rj X.prog X.w) X.A (isTrue e X.env (eval e X.env)) (TP X aa σ Q) X.xe s
def PW(X:Cx)(e:Rk)(t:TT):Prop:=
 ∀(a:Rv Rc) (aa:List (Rf×Ro)) (s:Af) (σ:St) (H:Hp) (Q:Bool->Hp->Prop),cA X aa σ H s->t σ H Q->Rh (Rj X.prog X.w) X.A (isTrue e X.env a) (TP X aa σ Q) X.xe s
theorem PW.pt{X:Cx}{e:Rk}{t:TT}(h:PW X e t):PT X e t:=h _
def PA(X:Cx)(es:List Rk)(t:TA):Prop:=
 ∀(pos:Pos) (aa:List (Rf×Ro)) (s:Af) (σ:St) (H:Hp) (Q:List V->Hp->Prop),cA X aa σ H s->t σ H Q->Rh (Rj X.prog X.w) X.A (spliced (Dx pos (Ae es X.env))) (AP X aa σ Q) X.xe s
def PS(X:Cx)(st:Rq)(t:TS):Prop:=
 ∀(aa:List (Rf×Ro)) (s:Af) (σ:St) (H:Hp) (D:CQ),cA X aa σ H s->t D σ H->Rh (Rj X.prog X.w) X.A (exec st X.env) (SP X aa D) X.xe s
def PF(X:Cx)(st:List Rq)(t:TS):Prop:=
 ∀(aa:List (Rf×Ro)) (s:Af) (σ:St) (H:Hp) (D:CQ),cA X aa σ H s->t D σ H->Rh (Rj X.prog X.w) X.A (execs st X.env) (SP X aa D) X.xe s
theorem ZB{α:Type}{t:Rv α}{Q b:α->Af->Prop}{M:Model}{A:Cn}{E:Rc->Af->Prop}{s:Af}(h:Rh M A t Q E s)(c:∀a s,Q a s->b a s):Rh M A t b E s:=Cs h c λ_ _ x=>x
section
variable{X:Cx}
def XT(i:Nat):TE:=λσ H Q=>∃v,σ[i]?=some (some v)/\Q v H
def tC(v:V):TE:=λ_ H Q=>Q v H
theorem D0{i:Nat}{x:Rg}{pos:Pos}(j:X.N[i]?=some x)(d:Vis X.env.scope x)(hd:(x==("__debug__":Rg))=false:=by decide)(a:(x==("__classdict__":Rg))=false:=by decide):PE X (.Name x pos) (XT i):=by
 intro aa s σ H Q I h;obtain⟨v,e,h⟩:=h;obtain⟨m,f,hl⟩:=I.loc;obtain⟨u,r,l⟩:=hl i x v j e d;have fin:EP X aa σ Q u s:=⟨v,H,I,r,h⟩;rcases l with⟨hk,g⟩|⟨hk,c,hc,b⟩
 ·exact Py (wpAny_loadName_local I.ok.kind hk f g fin) hd
 ·rcases hk with hk|hk
  ·exact Py (wpAny_loadName_cell I.ok.kind hk hc b fin) hd
  ·exact Py (wpAny_loadName_free I.ok.kind hk hc b fin a) hd
theorem oV{i j pos}:PE X (.Constant (.int i) j pos) (tC (.int i)):=λ_ _ _ H _ I h=>wpAny_Constant_int ⟨.int i,H,I.tok _,⟨_,rfl⟩,h⟩
theorem gS{b j pos}:PE X (.Constant (.bool b) j pos) (tC (.bl b)):=λ_ _ _ H _ I h=>Constant_bool ⟨.bl b,H,I,rfl,h⟩
theorem kU{j pos}:PE X (.Constant .none j pos) (tC .non):=λ_ _ _ H _ I h=>Constant_none ⟨.non,H,I,rfl,h⟩
theorem lA{x j pos}:PE X (.Constant (.str x) j pos) (tC (.str x)):=λ_ _ _ H _ I h=>Calls.Constant_str ⟨.str x,H,I.tok _,⟨_,rfl⟩,h⟩
def Gl(X:Cx)(x:Rg):Prop:=X.env.kindOf x=some .globalImplicit
theorem HS{E:Rc->Af->Prop}{aa:List (Rf×Ro)}{s:Af}{σ:St}{H:Hp}{x:Rg}{u:Rc}{pos:Pos}{Q:Rc->Af->Prop}(I:cA X aa σ H s)(b:Gl X x)(a:X.mg x=some u)(h:Q u s)(hd:(x==("__debug__":Rg))=false:=by decide):Rh (Rj X.prog X.w) X.A (eval (.Name x pos) X.env) Q E s:=
 Jn I.ok.kind b (Calls.loadGlobal_global (by rw[I.ok.glob];exact I.mod.glob.keeps I.bk) a h) hd
theorem QV{E:Rc->Af->Prop}{aa:List (Rf×Ro)}{s:Af}{σ:St}{H:Hp}{x:Rg}{u:Rc}{pos:Pos}{Q:Rc->Af->Prop}(I:cA X aa σ H s)(d:Gl X x)(c:X.mg x=none)(a:Bm x=some u)(h:Q u s)(b:x≠ "__name__":=by decide)(hd:(x==("__debug__":Rg))=false:=by decide):Rh (Rj X.prog X.w) X.A (eval (.Name x pos) X.env) Q E s:=by obtain⟨e,h1,h2⟩:=I.mod.blt;exact Jn I.ok.kind d (Calls.loadGlobal_builtin (by rw[I.ok.glob];exact I.mod.glob.keeps I.bk) c (by rw[I.ok.blt];exact h1.keeps I.bk) ((h2 x b).trans a) h) hd
theorem lW{x:Rg}{v:V}{u:Rc}{pos:Pos}(b:Gl X x)(a:X.mg x=some u)(r:bR v u)(hd:(x==("__debug__":Rg))=false:=by decide):PE X (.Name x pos) (tC v):=
 λ_ _ _ H _ I h=>HS I b a ⟨v,H,I,r,h⟩ hd
theorem Wi{x:Rg}{v:V}{u:Rc}{pos:Pos}(d:Gl X x)(c:X.mg x=none)(a:Bm x=some u)(r:bR v u)(b:x≠ "__name__":=by decide)(hd:(x==("__debug__":Rg))=false:=by decide):PE X (.Name x pos) (tC v):=
 λ_ _ _ H _ I h=>QV I d c a ⟨v,H,I,r,h⟩ b hd
variable{a b:Rk}{ta tb:TE}{pos:Pos}
def tB(t:TE):TT:=λσ H Q=>t σ H λx H1=>∃c,x=.bl c/\Q c H1
theorem jL{e:Rk}{t:TE}(h:PE X e t)(b:∀a,isTrue e X.env a=(do let v<-a;Mv e.pos;Jw [v] (truthy v)):=by intro _;rfl):PT X e (tB t):=by intro aa s σ H Q I hw;refine isTrue_plain (ZB (h aa s σ H _ I hw) λv s1 ⟨x,H1,c,r1,q1⟩=>?_) (b _);obtain⟨d,rfl,q⟩:=q1;cases r1;exact Ep ⟨H1,c,q⟩
variable{tA tB':TT}{rest:List Rk}
def tAnd(t u:TT):TT:=λσ H Q=>t σ H λc H1=>if c=true then u σ H1 Q else Q false H1
def tOr(t u:TT):TT:=λσ H Q=>t σ H λc H1=>if c=true then Q true H1 else u σ H1 Q
def tNot(t:TT):TT:=λσ H Q=>t σ H λc H1=>Q (!c) H1
theorem eN(b:PT X a tA):PW X (.BoolOp .And [a] pos) tA:=by
 intro d aa s σ H Q I h;refine isTrue_and (ZB (b aa s σ H Q I h) λc s1 e=>?_);cases c with
 |true=>exact isTrue_and_nil e
 |false=>exact e
theorem oC(b:PT X a tA):PW X (.BoolOp .Or [a] pos) tA:=by
 intro d aa s σ H Q I h;refine isTrue_or (ZB (b aa s σ H Q I h) λc s1 e=>?_);cases c with
 |false=>exact isTrue_or_nil e
 |true=>exact e
theorem pI(g:PT X a tA)(f:PW X (.BoolOp .And (b::rest) pos) tB'):PW X (.BoolOp .And (a::b::rest) pos) (tAnd tA tB'):=by
 intro e aa s σ H Q I h;refine isTrue_and (ZB (g aa s σ H _ I h) λc s1 ⟨H1,d,q1⟩=>?_);cases c with
 |true=>exact f e aa s1 σ H1 Q d q1
 |false=>exact⟨H1,d,q1⟩
theorem Xg(g:PT X a tA)(f:PW X (.BoolOp .Or (b::rest) pos) tB'):PW X (.BoolOp .Or (a::b::rest) pos) (tOr tA tB'):=by
 intro e aa s σ H Q I h;refine isTrue_or (ZB (g aa s σ H _ I h) λc s1 ⟨H1,d,q1⟩=>?_);cases c with
 |true=>exact⟨H1,d,q1⟩
 |false=>exact f e aa s1 σ H1 Q d q1
theorem Xo(b:PT X a tA):PT X (.UnaryOp .Not a pos) (tNot tA):=by intro aa s σ H Q I h;exact isTrue_not (b aa s σ H (λc H1=>Q (!c) H1) I h)
def nY(ta tb:TE):TE:=λσ H Q=>ta σ H λx H1=>∃c,x=.bl c/\if c=true then tb σ H1 Q else Q (.bl false) H1
theorem Vz{op}{t:TE}(h:PE X a t):PE X (.BoolOp op [a] pos) t:=λaa s σ H Q I hw=>BoolOp_one (h aa s σ H Q I hw)
theorem eJ(f:PE X a ta)(e:PE X (.BoolOp .And (b::rest) pos) tb):PE X (.BoolOp .And (a::b::rest) pos) (nY ta tb):=by
 intro aa s σ H Q I h;refine BoolOp_and (ZB (f aa s σ H _ I h) λv s1 ⟨x,H1,d,r1,q1⟩=>?_);obtain⟨c,rfl,q1⟩:=q1;cases r1;refine Ep ?_;cases c with
 |true=>exact e aa s1 σ H1 Q d q1
 |false=>exact⟨.bl false,H1,d,rfl,q1⟩
def tIf(t:TT)(ta tb:TE):TE:=λσ H Q=>t σ H λc H1=>if c=true then ta σ H1 Q else tb σ H1 Q
theorem Ye{c:Rk}(hc:PT X c tA)(g:PE X a ta)(f:PE X b tb):PE X (.IfExp c a b pos) (tIf tA ta tb):=by
 intro aa s σ H Q I h;refine wpAny_IfExp (ZB (hc aa s σ H _ I h) λd s1 ⟨H1,e,q1⟩=>?_);cases d with
 |true=>exact g aa s1 σ H1 Q e q1
 |false=>exact f aa s1 σ H1 Q e q1
end
def WT(K:Al)(H:Hp)(a:Rf)(xs:List V):Prop:=
 Rd H a (.lst xs)∨
  ∃(o:Ro) (its:Array Rc) (n:Nat),K.lookup a=some o/\o.cls=.type "list" /\o.dict=none/\o.data=.seq its n/\its.size<=sizeLine/\bS xs its.toList
def UV(K:Al)(H:Hp)(a:Rf)(xs:List V):Prop:=
 Rd H a (.tup xs)∨
  ∃(o:Ro) (its:Array Rc) (n:Nat),K.lookup a=some o/\o.cls=.type "tuple" /\o.data=.seq its n/\its.size<=sizeLine/\bS xs its.toList
noncomputable def absV:Rc->Option V
 |.none=>some .non
 |.bool b=>some (.bl b)
 |.int i _=>some (.int i)
 |.str x _=>some (.str x)
 |.bytes b _=>some (.byt b)
 |.float b _=>some (.flt b)
 |.ref a=>some (.ref a)
 |.type n=>some (.ty n)
 |_=>none
theorem bR.abs{x:V}{u:Rc}(r:bR x u):absV u=some x:=by
 cases x with
 |non=>cases r;rfl
 |bl _=>cases r;rfl
 |int _=>obtain⟨t,rfl⟩:=r;rfl
 |str _=>obtain⟨t,rfl⟩:=r;rfl
 |byt _=>obtain⟨t,rfl⟩:=r;rfl
 |flt _=>obtain⟨t,rfl⟩:=r;rfl
 |ref _=>cases r;rfl
 |ty _=>cases r;rfl
theorem bR.inj{x y:V}{u:Rc}(r:bR x u)(q:bR y u):x=y:=Bv (r.abs.symm.trans q.abs)
theorem bS.inj:∀{xs ys:List V} {us:List Rc},bS xs us->bS ys us->xs=ys
 |_,_,_,.nil,.nil=>rfl
 |_,_,_,.cons r t,.cons r' t'=>by rw[r.inj r',bS.inj t t']
section
variable{X:Cx}{aa:List (Rf×Ro)}{σ:St}{H:Hp}{s:Af}{a:Rf}{xs ys:List V}
theorem WT.of{K:Al}(h:H a=some (.lst xs)):WT K H a xs:=.inl (.inl (.inl h))
theorem UV.of{K:Al}(h:H a=some (.tup xs)):UV K H a xs:=.inl (.inl (.inl h))
theorem cA.list(I:cA X aa σ H s)(h:WT X.K H a xs):∃its:List Rc,bS xs its/\PlainL s.heap a its.toArray/\xs.length<=sizeLine:=by
 rcases h with h|⟨o,its,n,hk,hc,hd,b,hz,r⟩
 ·obtain⟨z,its,n,r,e⟩:=h.ok I.hok
  exact⟨its,r,⟨_,n,e,rfl,rfl,rfl⟩,z⟩
 ·refine ⟨its.toList,r,⟨o,n,I.kIn a o hk,hc,hd,by simpa using b⟩,?_⟩
  have e:=r.length;simp only[Gr] at e;lia
theorem cA.tuple(I:cA X aa σ H s)(h:UV X.K H a xs):∃its:List Rc,bS xs its/\IsTup s.heap a its.toArray/\xs.length<=sizeLine:=by
 rcases h with h|⟨o,its,n,hk,hc,b,hz,r⟩
 ·obtain⟨z,its,r,p⟩:=h.ok I.hok
  exact⟨its,r,p,z⟩
 ·refine ⟨its.toList,r,⟨o,I.kIn a o hk,hc,n,by simpa using b⟩,?_⟩
  have e:=r.length;simp only[Gr] at e;lia
theorem cA.list_inj(I:cA X aa σ H s)(h:WT X.K H a xs)(h':WT X.K H a ys):xs=ys:=by
 obtain⟨its,r,⟨o,n,e,_,_,d⟩,_⟩:=I.list h;obtain⟨its',r',⟨o',f,b,_,_,d'⟩,_⟩:=I.list h';rw[e] at b;cases b;rw[d] at d';injection d' with c _;have:its=its':=by simpa using congrArg Qn c
 subst this;exact r.inj r'
theorem cA.tuple_inj(I:cA X aa σ H s)(h:UV X.K H a xs)(h':UV X.K H a ys):xs=ys:=by
 obtain⟨its,r,⟨o,e,_,n,d⟩,_⟩:=I.tuple h;obtain⟨its',r',⟨o',b,_,f,d'⟩,_⟩:=I.tuple h';rw[e] at b;cases b;rw[d] at d';injection d' with c _;have:its=its':=by simpa using congrArg Qn c
 subst this;exact r.inj r'
end
abbrev Cx.wish(X:Cx)(E:Rc->Af->Prop):Cx:={X with xe:=E}
abbrev Cx.nox(X:Cx):Cx:=X.wish λ_ _=>False
theorem Cx.Ok.wish{X:Cx}(ok:X.Ok)(E:Rc->Af->Prop):(X.wish E).Ok:=
 ⟨ok.mod,ok.kind,ok.glob,ok.blt,ok.above,ok.inj,ok.has,ok.cab,ok.hd,ok.frames,ok.stk,ok.exf,ok.bs,ok.bsz,ok.noex,ok.exfs,ok.funs,ok.frf⟩
theorem Cx.Ok.unwish{X:Cx}{E:Rc->Af->Prop}(ok:(X.wish E).Ok):X.Ok:=
 ⟨ok.mod,ok.kind,ok.glob,ok.blt,ok.above,ok.inj,ok.has,ok.cab,ok.hd,ok.frames,ok.stk,ok.exf,ok.bs,ok.bsz,ok.noex,ok.exfs,ok.funs,ok.frf⟩
section
variable{X:Cx}{aa:List (Rf×Ro)}{σ:St}{H:Hp}{s:Af}{E:Rc->Af->Prop}
theorem cA.wish(I:cA X aa σ H s)(E:Rc->Af->Prop):cA (X.wish E) aa σ H s:=⟨I.ok.wish E,I.os,I.bare,I.base,I.loc,I.cell,I.free,I.freeC,I.pin,I.hok,I.len⟩
theorem cA.unwish(I:cA (X.wish E) aa σ H s):cA X aa σ H s:=⟨I.ok.unwish,I.os,I.bare,I.base,I.loc,I.cell,I.free,I.freeC,I.pin,I.hok,I.len⟩
theorem SP.unwish{D:CQ}{f:Flow}{s':Af}(h:SP (X.wish E) aa D f s'):SP X aa D f s':=by
 cases f with
 |next=>obtain⟨a,H',I,q⟩:=h;exact⟨a,H',I.unwish,q⟩
 |brk=>obtain⟨a,H',I,q⟩:=h;exact⟨a,H',I.unwish,q⟩
 |cont=>obtain⟨a,H',I,q⟩:=h;exact⟨a,H',I.unwish,q⟩
 |ret u=>obtain⟨v,a,H',I,r,q⟩:=h;exact⟨v,a,H',I.unwish,r,q⟩
theorem PF.nox{st:List Rq}{t:TS}(h:PF X.nox st t):PF X st t:=λaa s σ H D I hw=>
 Cs (h aa s σ H D (I.wish _) hw) (λ_ _ q=>q.unwish) λ_ _ z=>Ez z
end
section
variable{X:Cx}{st:Rq}{rest:List Rq}{t u:TS}{e:Rk}{te:TE}{pos:Pos}
def Xm:TS:=λD σ H=>D.nx σ H
def tSeq(t u:TS):TS:=λD σ H=>t {D with nx:=u D} σ H
theorem BS:PF X [] Xm:=λ_ _ σ H _ I h=>Ja ⟨σ,H,I,h⟩
theorem L7(h1:PS X st t)(h2:PF X rest u):PF X (st::rest) (tSeq t u):=by
 intro aa s σ H D I h;refine wpAny_execs_cons (ZB (h1 aa s σ H {D with nx:=u D} I h) λf s1 q=>?_);cases f with
 |next=>
  obtain⟨a,H',b,q⟩:=q;exact h2 aa s1 a H' D b q
 |ret v=>exact q
 |brk=>exact q
 |cont=>exact q
theorem gL(h1:PS X st t):PF X [st] t:=by
 intro aa s σ H D I h;refine wpAny_execs_cons (ZB (h1 aa s σ H D I h) λf s1 q=>?_);cases f with
 |next=>exact Ja q
 |ret v=>exact q
 |brk=>exact q
 |cont=>exact q
theorem cA.quiet{aa:List (Rf×Ro)}{σ:St}{H:Hp}{s:Af}(I:cA X aa σ H s):interactive X.env=false:=by simp[interactive,I.ok.kind]
def Wo(te:TE):TS:=λD σ H=>te σ H λ_ H1=>D.nx σ H1
theorem IA(b:PE X e te)(a:Er e none pos.line X.env=pure false:=by rfl):PS X (.Expr e pos) (Wo te):=by intro aa s σ H D I h;exact wpAny_Expr_any (ZB (b aa s σ H _ I h) λv s1 ⟨x,H1,c,r1,q1⟩=>⟨σ,H1,c,q1⟩) I.quiet a
def tRet(te:TE):TS:=λD σ H=>te σ H D.rt
theorem Uc(a:PE X e te):PS X (.Return (some e) pos) (tRet te):=by intro aa s σ H D I h;exact wpAny_Return_some (ZB (a aa s σ H _ I h) λv s1 ⟨x,H1,b,r1,q1⟩=>⟨x,σ,H1,b,r1,q1⟩)
def tIfS(c:TT)(t u:TS):TS:=λD σ H=>c σ H λb H1=>if b=true then t D σ H1 else u D σ H1
theorem oF{c:Rk}{a b:List Rq}{tc:TT}(hc:PT X c tc)(g:PF X a t)(f:PF X b u):PS X (.If c a b pos) (tIfS tc t u):=by
 intro aa s σ H D I h;refine wpAny_If (ZB (hc aa s σ H _ I h) λd s1 ⟨H1,e,q1⟩=>?_);cases d with
 |true=>exact g aa s1 σ H1 D e q1
 |false=>exact f aa s1 σ H1 D e q1
end
abbrev TG:=V->St->Hp->(St->Hp->Prop)->Prop
abbrev TGs:=List V->St->Hp->(St->Hp->Prop)->Prop
def PG(X:Cx)(b:Rk)(t:TG):Prop:=
 ∀(aa:List (Rf×Ro)) (s:Af) (σ:St) (H:Hp) (v:V) (u:Rc) (Q:St->Hp->Prop),cA X aa σ H s->bR v u->t v σ H Q->
  Rh (Rj X.prog X.w) X.A (assign b X.env u) (λ_ s'=>∃a H',cA X aa a H' s'/\Q a H') X.xe s
def AF(X:Cx)(b:List Rk)(t:TGs):Prop:=
 ∀(aa:List (Rf×Ro)) (s:Af) (σ:St) (H:Hp) (vs:List V) (us:List Rc) (Q:St->Hp->Prop),cA X aa σ H s->bS vs us->t vs σ H Q->
  Rh (Rj X.prog X.w) X.A (Ru ((Rm b X.env).map (·.2)) us) (λ_ s'=>∃a H',cA X aa a H' s'/\Q a H') X.xe s
abbrev TSet:=V->V->V->Hp->(Hp->Prop)->Prop
def PSet(X:Cx)(t:TSet):Prop:=
 ∀(aa:List (Rf×Ro)) (s:Af) (σ:St) (H:Hp) (o i v:V) (a b u:Rc) (Q:Hp->Prop),cA X aa σ H s->bR o a->bR i b->bR v u->t o i v H Q->
  Rh (Rj X.prog X.w) X.A (setItem a b u) (λ_ s'=>∃H',cA X aa σ H' s'/\Q H') X.xe s
section
variable{X:Cx}{pos:Pos}
def AW(i:Nat):TG:=λv σ H Q=>Q (σ.set i (some v)) H
theorem M6{i:Nat}{x:Rg}(c:X.N.Nodup)(hi:X.N[i]?=some x)(a:Loc X.env.scope x)(b:X.fn x=true∨X.env.scope.names.lookup x=some .local:=by first|exact .inl rfl|exact .inr rfl|assumption):PG X (.Name x pos) (AW i):=by intro aa s σ H v u Q I r h;exact Hr (XS I c hi a r (λs' d=>⟨_,H,d,h⟩) b)
def gNil:TGs:=λvs σ H Q=>vs=[]/\Q σ H
def Xz(t:TG)(u:TGs):TGs:=λvs σ H Q=>∃v r,vs=v::r/\t v σ H λa H'=>u r a H' Q
theorem BO:AF X [] gNil:=by intro aa s σ H vs us Q I r h;obtain⟨e,h⟩:=h;subst e;cases r;exact Hs ⟨σ,H,I,h⟩
theorem P5{e:Rk}{es:List Rk}{t:TG}{u:TGs}(h1:PG X e t)(h2:AF X es u)(c:(Rm (e::es) X.env).map (·.2)=assign e X.env::(Rm es X.env).map (·.2):=by rfl):AF X (e::es) (Xz t u):=by
 intro aa s σ H vs us Q I r h;obtain⟨v,g,d,h⟩:=h;subst d;cases r with
 |cons r b=>
  rw[c];refine Dy (ZB (h1 aa s σ H _ _ _ I r h) λ_ s1 ⟨a,H1,f,q1⟩=>?_);exact h2 aa s1 a H1 _ _ Q f b q1
def gTup(K:Al)(n:Nat)(t:TGs):TG:=λv σ H Q=>∃a xs,v=.ref a/\UV K H a xs/\xs.length=n/\t xs σ H Q
theorem mE{es:List Rk}{k:Nat}{t:TGs}{n:Nat}(hc:X.calm=true)(h:AF X es t)(j:(Rm es X.env).length=n:=by rfl)(c:(Rm es X.env).findIdx? (·.1)=none:=by rfl):PG X (.Tuple es k pos) (gTup X.K n t):=by intro aa s σ H v u Q I r hw;obtain⟨a,xs,l,i,hl,hw⟩:=hw;subst l;cases r;obtain⟨its,d,g,hz⟩:=I.tuple i;refine assign_Tuple_tuple (I.ok.hd hc) g (by simp[j,<-hl,d.length]) c λh' f=>?_;have m:cA X aa σ H {s with heap:=h'}:=I.kept (t':=s.toks) λb o e=>f b o (Bg (Ap e)) e;exact h aa _ σ H xs _ Q m (by simpa using d) hw
def gSub(to a:TE)(t:TSet):TG:=λv σ H Q=>to σ H λo H1=>a σ H1 λi H2=>t o i v H2 λb=>Q σ b
theorem pG{o i:Rk}{to c:TE}{t:TSet}(e:PE X o to)(hi:PE X i c)(d:PSet X t)(f:∀v,assign (.Subscript o i pos) X.env v=(do
   let a<-Jw [v] (eval o X.env)
   let b<-Jw [v,a] (eval i X.env)
   Mv pos
   Jw [v,a,b] (setItem a b v)
   release [v,a,b] []):=by intro _;rfl):PG X (.Subscript o i pos) (gSub to c t):=by
 intro aa s σ H v u Q I r h;rw[f];refine Ac (Cb (ZB (e aa s σ H _ I h) λa s1 ⟨x,H1,k,r1,q1⟩=>?_));refine Ac (Cb (ZB (hi aa s1 σ H1 _ k q1) λb s2 ⟨y,H2,j,r2,q2⟩=>?_));refine Ac (Gj (Ac (Cb (ZB (d aa s2 σ H2 x y v a b u _ j r1 r2 r q2) λ_ m ⟨l,g,q3⟩=>?_))));exact wpAny_release ⟨σ,l,g,q3⟩
def tAsg(te:TE)(g:TG):TS:=λD σ H=>te σ H λx H1=>g x σ H1 D.nx
theorem HZ{tg e:Rk}{te:TE}{g:TG}(c:PE X e te)(b:PG X tg g)(a:Fb [tg] e pos.line X.env=pure false:=by rfl)(hw:Fc [tg] e X.env=pure none:=by rfl)(h1:(Rm [tg] X.env).map (·.2)=[assign tg X.env]:=by rfl):PS X (.Assign [tg] e pos) (tAsg te g):=by intro aa s σ H D I h;refine wpAny_Assign_stores (ZB (c aa s σ H _ I h) λv s1 ⟨x,H1,d,r1,q1⟩=>?_) a hw;rw[h1];exact ZB (b aa s1 σ H1 x v _ d r1 q1) λ_ s2 q=>q
theorem mZ{i:Nat}{x:Rg}{e:Rk}{te:TE}{ay:Pos}(f:X.N.Nodup)(hi:X.N[i]?=some x)(a:Loc X.env.scope x)(d:PE X e te)(b:Er e (some (.Name x ay)) pos.line X.env=pure false:=by rfl)(c:X.fn x=true∨X.env.scope.names.lookup x=some .local:=by first|exact .inl rfl|exact .inr rfl|assumption):PS X (.Assign [.Name x ay] e pos) (tAsg te (AW i)):=by intro aa s σ H D I h;refine wpAny_Assign_Name (ZB (d aa s σ H _ I h) λv s1 ⟨y,H1,j,r1,q1⟩=>?_) b;exact XS j f hi a r1 (λs2 g=>⟨_,H1,g,q1⟩) c
def tPar(i j:Nat)(ta:TA):TS:=λD σ H=>ta σ H λvs H1=>∃v w,vs=[v,w]/\D.nx ((σ.set i (some v)).set j (some w)) H1
theorem iX{i j:Nat}{x y:Rg}{a b:Rk}{ta:TA}{k g pt:Pos}{kt k2 pt2}(hc:X.calm=true)(t:X.N.Nodup)(hi:X.N[i]?=some x)(E:X.N[j]?=some y)(m:i≠j)(r:X.env.scope.names.lookup x=some .local)(n:X.env.scope.names.lookup y=some .local)(F:PA X [a,b] ta)(hw:Fc [.Tuple [.Name x k,.Name y g] kt pt] (.Tuple [a,b] k2 pt2) X.env=pure (some [x,y]))(C:Fb [.Tuple [.Name x k,.Name y g] kt pt] (.Tuple [a,b] k2 pt2) pos.line X.env=pure false:=by rfl):PS X (.Assign [.Tuple [.Name x k,.Name y g] kt pt] (.Tuple [a,b] k2 pt2) pos) (tPar i j ta):=by
 intro aa s σ H D I h;rw[exec_Assign_arm];refine Ac (Gj ?_);rw[C];refine Ac (Am ?_);rw[if_neg (by decide)];refine Ac (Tuple_ (ZB (F _ aa s σ H _ I h) λus s1 ⟨vs,H1,M,r1,q1⟩=>?_));obtain⟨v,w,G,q1⟩:=q1;subst G;obtain⟨d,c,rfl,z,f⟩:∃d c,us=[d,c]/\bR v d/\bR w c:=by
  cases r1 with
  |cons p q=>
   cases q with
   |cons p' B=>
    cases B;exact⟨_,_,rfl,p,p'⟩
 refine Dm ?_ (by show 2<=sizeLine;decide);have L:cA X aa σ H1 {s1 with heap:=s1.heap.push {cls:=.type "tuple",data:=.seq [d,c].toArray}}:=M.kept (t':=s1.toks) λb o e=>Ad _ e;rw[hw];refine Ac (Am ?_);show Rh (Rj X.prog X.w) X.A (do rule "assign.swapped-stores";let items<-Jb (.ref s1.heap.objs.size) 2 none;Ru [λv=>Ip X.env y v,λv=>Ip X.env x v] items.reverse;pure Flow.next) _ _ _;refine Ac (Ht (Ac (Mw (items:= #[d,c]) (I.ok.hd hc) (Jy s1.heap _) λh' l=>?_)));have K:=L.kept (h':=h') (t':=s1.toks) λb o e=>l b o (Bg (Ap e)) e;show Rh _ _ (Ru [λv=>Ip X.env y v,λv=>Ip X.env x v] [c,d]>>=λ_=>pure Flow.next) _ _ _;refine Ac (Dy (Ib (XS K t E (.inl n) f (λs2 J=>?_) (.inr n))));refine Dy (Ib (XS J t hi (.inl r) z (λO u=>Hs (Am ?_)) (.inr r)));rw[Eg _ _ (Cq m)] at u;exact⟨_,H1,u,q1⟩
end
section
variable{X:Cx}{pos:Pos}
def mB(c:TT)(tb:TS):TS:=λD σ H=>∃W:Nat->St->Hp->Prop,(∃m,W m σ H)/\∀m σ H,W m σ H->
 c σ H λb H1=>if b=true then∃N:St->Hp->Prop,(∀a H',N a H'->∃d,d<m/\W d a H')/\tb {D with nx:=N,ct:=N,bk:=D.nx} σ H1 else D.nx σ H1
theorem gK{c:Rk}{body:List Rq}{tc:TT}{tb:TS}(o:Ol (Rj X.prog X.w) X.A X.env X.xe)(hc:PT X c tc)(x:PF X body tb):PS X (.While c body [] pos) (mB tc tb):=by
 intro aa s σ H D I h;obtain⟨W,⟨u,t⟩,turn⟩:=h;refine wpAny_While (codeAny_whileLoop (λn s'=>∃e H',cA X aa e H' s'/\W n e H') ?_ u ⟨σ,H,I,t⟩);rintro n s1 ⟨d,H1,y,r⟩;refine Fm o (ZB (hc aa s1 d H1 _ y (turn n d H1 r)) λb s2 ⟨H2,q,q2⟩=>?_);cases b with
 |true=>
  obtain⟨N,p,q2⟩:=q2;rw[if_pos rfl];refine Fm o (ZB (x aa s2 d H2 _ q q2) λf z q3=>?_);cases f with
  |next=>
   obtain⟨a,g,m,j⟩:=q3;obtain⟨k,l,i⟩:=p a g j;exact⟨k,l,a,g,m,i⟩
  |cont=>
   obtain⟨a,g,m,j⟩:=q3;obtain⟨k,l,i⟩:=p a g j;exact⟨k,l,a,g,m,i⟩
  |brk=>exact q3
  |ret v=>exact q3
 |false=>
  rw[if_neg Dr];exact Ja ⟨d,H2,q,q2⟩
end
structure It where
 go:Nat->Hp->Prop
 yld:Nat->Hp->V->Hp->Prop
 stop:Nat->Hp->Prop
def KM(X:Cx)(aa:List (Rf×Ro))(H:Hp)(b:Rf):Prop:=
 H b=none/\b≠X.env.locals/\b∉X.fs/\(b∈X.ex∨X.s₀.heap.objs.size<=b)/\(∀x c,X.env.cells.lookup x=some c->c≠b)/\∀p∈X.pn++aa,p.1≠b
theorem cA.fpOk{X:Cx}{aa:List (Rf×Ro)}{σ:St}{H H':Hp}{s:Af}{b:Rf}(I:cA X aa σ H s)(a:s.heap.objs.size<=b)(f:H' b=none):KM X aa H' b:=by
 refine⟨f,Gu (Bk I.lt a),I.nofs a,.inr (Em I.sz a),λx c e z=>?_,λp d z=>?_⟩
 ·obtain⟨v,q⟩:=I.cell x c e
  exact absurd (Bk q.lt (by rw[z];exact a)) (Co _)
 ·exact absurd (Bk (Ap (I.pin p d).1) (by rw[z];exact a)) (Co _)
structure CY(P:Bb)(w:Rl)(K:Al)(tg:Rk)(J:It)(fp:List Rf)(it:Rf)(tn:Nat->Rn->Prop):Prop where
 mem:it∈fp
 obj:∀i h,tn i h->∀b∈fp,∃o,h.get? b=some o/\∀v,o.data≠ .cell v
 keep:∀i h h',tn i h->(∀b∈fp,∀o,h.get? b=some o->h'.get? b=some o)->tn i h'
 item:∀(X:Cx),X.prog=P->X.w=w->X.K=K->X.calm=true->∀(i:Nat) (aa:List (Rf×Ro)) (s:Af) (σ:St) (H:Hp) (E:Rc->Af->Prop),cA X aa σ H s->(∀b∈fp,KM X aa H b)->tn i s.heap->J.go i H->
  Rh (Rj P w) X.A (pyNext (.ref it)) (λr s1=>∃u,r=some u∧
   Rh (Rj P w) X.A (Jd tg (.ref it) u) (λ_ s2=>∃x H',cA X aa σ H' s2/\bR x u/\J.yld i H x H'/\tn (i+1) s2.heap/\∀b∈fp,H' b=none) E s1) E s
 done:∀(X:Cx),X.prog=P->X.w=w->X.K=K->X.calm=true->∀(i:Nat) (aa:List (Rf×Ro)) (s:Af) (σ:St) (H:Hp) (E:Rc->Af->Prop),cA X aa σ H s->(∀b∈fp,KM X aa H b)->tn i s.heap->J.stop i H->
  Rh (Rj P w) X.A (pyNext (.ref it)) (λr s1=>r=none/\cA X aa σ H s1) E s
 self:∀(A:Cn) (i:Nat) (s:Af) (Q:Rc->Af->Prop) (E:Rc->Af->Prop),tn i s.heap->Q (.ref it) s->Rh (Rj P w) A (pyIter (.ref it)) Q E s
abbrev TI:=St->Hp->(It->Hp->Prop)->Prop
def PIE(X:Cx)(aa:List (Rf×Ro))(σ:St)(tg:Rk)(R:It->Hp->Prop)(a:Rc)(s2:Af):Prop:=
 ∃(it:Rf) (fp:List Rf) (c:Nat->Rn->Prop) (J:It) (H':Hp),a=.ref it/\cA X aa σ H' s2/\CY X.prog X.w X.K tg J fp it c/\c 0 s2.heap/\(∀b∈fp,KM X aa H' b)/\R J H'
def PI(X:Cx)(tg iter:Rk)(a:TI):Prop:=
 ∀(aa:List (Rf×Ro)) (s:Af) (σ:St) (H:Hp) (R:It->Hp->Prop),cA X aa σ H s->a σ H R->
  Rh (Rj X.prog X.w) X.A (eval iter X.env) (λv s1=>Rh (Rj X.prog X.w) X.A (pyIter v) (PIE X aa σ tg R) X.xe s1) X.xe s
theorem Ry{M:Model}{A:Cn}{E:Rc->Af->Prop}{s:Af}{tg:Rk}{it:Rf}{u:Rc}{o:Ro}{n:String}{vs:Array Rc}{Q:Unit->Af->Prop}(b:s.heap.get? it=some o)(hc:o.cls= .type n)(hd:o.data= .fields vs)(c:["enumerate","zip","dict_itemiterator","dict_reverseitemiterator","odict_iterator","itertools.zip_longest","itertools.pairwise"].contains n=false)(a:Q () s):Rh M A (Jd tg (.ref it) u) Q E s:=by
  unfold Jd;cases tg<;>first
    |exact Am a
    |(cases u<;>first
        |exact Am a
        | (refine Ac (wpAny_load b ?_)
           rw[hc,hd];show Rh M A (if(["enumerate","zip","dict_itemiterator","dict_reverseitemiterator","odict_iterator","itertools.zip_longest","itertools.pairwise"].contains n&&vs[0]? ==some (rawInt _))=true then _ else _) Q E s;rw[if_neg (by intro h;rw[c,Bool.false_and] at h;cases h)];exact Am a))
def Itl(K:Al)(a:Rf):It:=
 ⟨λi H=>∃xs x,WT K H a xs/\xs[i]?=some x,λi H x H'=>H'=H/\∀xs,WT K H a xs->xs[i]?=some x,λi H=>∃xs,WT K H a xs/\xs.length<=i⟩
def Itt(K:Al)(a:Rf):It:=
 ⟨λi H=>∃xs x,UV K H a xs/\xs[i]?=some x,λi H x H'=>H'=H/\∀xs,UV K H a xs->xs[i]?=some x,λi H=>∃xs,UV K H a xs/\xs.length<=i⟩
def Itr(lo:Int)(n:Nat):It:=⟨λi _=>i<n,λi H x H'=>H'=H/\x=.int (lo+i),λi _=>n<=i⟩
theorem pH{P:Bb}{w:Rl}{K:Al}{tg:Rk}(a it:Rf):CY P w K tg (Itl K a) [it] it (λi h=>h.IsListIter it a i) where
 mem:=by simp
 obj:=λi h st b f=>by
  have e:b=it:=by simpa using f
  subst e;obtain⟨o,e,c,d⟩:=st;exact⟨o,e,λv z=>by rw[d] at z;cases z⟩
 keep:=λi h h' st k=>st.at λo e=>k it (by simp) o e
 item:=by intro X r hw t hc i aa s σ H E I l st q;subst r hw t;obtain⟨xs,x,j,n⟩:=q;obtain⟨its,m,p,hz⟩:=I.list j;obtain⟨u,G,D⟩:=m.get n;obtain⟨B,f1,f2,f3,A,y⟩:=l it (by simp);refine Kt st p.isList (x:=u) (by simpa using G) λh' g C=>?_;have L:cA X aa σ H {s with heap:=h'}:=I.turned (t':=s.toks) (λb o f e=>(C.2 b f).trans e) B f1 f3 A y;obtain⟨o,e,c,d⟩:=id g;exact⟨u,rfl,Ry (s:={s with heap:=h'}) e c d (by decide) ⟨x,H,L,D,⟨rfl,λys F=>by rw[I.list_inj F j];exact n⟩,g,λb f=>(l b f).1⟩⟩
 done:=by intro X r hw t hc i aa s σ H E I l st q;subst r hw t;obtain⟨xs,j,n⟩:=q;obtain⟨its,m,p,hz⟩:=I.list j;obtain⟨B,f1,f2,f3,A,y⟩:=l it (by simp);have hl:=m.length;exact Ky (I.ok.hd hc) st p.isList (by simp;lia) λh' J=>⟨rfl,I.turned (t':=s.toks) (λb o f e=>J b o f e) B f1 f3 A y⟩
 self:=λ_ _ _ _ _ st h=>wpAny_pyIter_listiter st h
theorem EQ{P:Bb}{w:Rl}{K:Al}{tg:Rk}(a it:Rf):CY P w K tg (Itt K a) [it] it (λi h=>h.IsTupleIter it a i) where
 mem:=by simp
 obj:=λi h st b f=>by
  have e:b=it:=by simpa using f
  subst e;obtain⟨o,e,c,d⟩:=st;exact⟨o,e,λv z=>by rw[d] at z;cases z⟩
 keep:=λi h h' st k=>st.at λo e=>k it (by simp) o e
 item:=by intro X r hw t hc i aa s σ H E I l st q;subst r hw t;obtain⟨xs,x,j,n⟩:=q;obtain⟨its,m,p,hz⟩:=I.tuple j;obtain⟨u,G,D⟩:=m.get n;obtain⟨B,f1,f2,f3,A,y⟩:=l it (by simp);refine wpAny_pyNext_tuple_item st (show s.heap.IsTuple a its.toArray from p) (x:=u) (by simpa using G) λh' g C=>?_;have L:cA X aa σ H {s with heap:=h'}:=I.turned (t':=s.toks) (λb o f e=>(C.2 b f).trans e) B f1 f3 A y;obtain⟨o,e,c,d⟩:=id g;exact⟨u,rfl,Ry (s:={s with heap:=h'}) e c d (by decide) ⟨x,H,L,D,⟨rfl,λys F=>by rw[I.tuple_inj F j];exact n⟩,g,λb f=>(l b f).1⟩⟩
 done:=by intro X r hw t hc i aa s σ H E I l st q;subst r hw t;obtain⟨xs,j,n⟩:=q;obtain⟨its,m,p,hz⟩:=I.tuple j;obtain⟨B,f1,f2,f3,A,y⟩:=l it (by simp);have hl:=m.length;exact wpAny_pyNext_tuple_end (I.ok.hd hc) st (show s.heap.IsTuple a its.toArray from p) (by simp;lia) λh' J=>⟨rfl,I.turned (t':=s.toks) (λb o f e=>J b o f e) B f1 f3 A y⟩
 self:=λ_ _ _ _ _ st h=>wpAny_pyIter_tupleiter st h
theorem EO{P:Bb}{w:Rl}{K:PySem.W.Frag}{tg:Rk}(it:Rf)(lo:Int)(n:Nat):CY P w K tg (Itr lo n) [it] it (λi h=>IsRangeIter h it (lo+(i:Nat)*1) ((n:Int) - (i:Nat)) 1) where
 mem:=by simp
 obj:=λi h st b a=>by
  have e:b=it:=by simpa using a
  subst e;exact⟨_,st,λv z=>by have q:Data.fields _=Data.cell v:=z;cases q⟩
 keep:=λi h h' st k=>k it (by simp) _ st
 item:=by intro X g hw j hc i aa s σ H E I d st f;subst g hw j;obtain⟨p,f1,f2,f3,m,l⟩:=d it (by simp);have W:=Walks.range (prog:=X.prog) (w:=X.w) (I.ok.hd hc) it lo 1 n;refine W.item i s _ _ f st λv h' tk r c kk=>?_;obtain⟨t,rfl⟩:=r;have x:cA X aa σ H {s with heap:=h',toks:=tk}:=I.turned (λb o a e=>kk b o (by simpa using a) e) p f1 f3 m l;refine⟨_,rfl,Ry (s:={s with heap:=h',toks:=tk}) (n:= "range_iterator") c rfl rfl (by decide) ⟨.int (lo+i),H,x,⟨t,?_⟩,⟨rfl,rfl⟩,c,λb a=>(d b a).1⟩⟩;rw[Int.mul_one]
 done:=by intro X g hw j hc i aa s σ H E I d st f;subst g hw j;obtain⟨p,f1,f2,f3,m,l⟩:=d it (by simp);exact wpAny_pyNext_range_end (I.ok.hd hc) st (by have:n<=i:=f;lia) λh' u=>⟨rfl,I.turned (t':=s.toks) (λb o a e=>u b o a e) p f1 f3 m l⟩
 self:=λ_ _ _ _ _ st h=>wpAny_pyIter_rangeiter st h
section
variable{X:Cx}{tg:Rk}
def Ux(K:Al)(tl:TE):TI:=λσ H R=>tl σ H λx H1=>∃a,x=.ref a/\(∃xs,WT K H1 a xs)/\R (Itl K a) H1
def iTup(K:Al)(tl:TE):TI:=λσ H R=>tl σ H λx H1=>∃a,x=.ref a/\(∃xs,UV K H1 a xs)/\R (Itt K a) H1
theorem Xn{l:Rk}{tl:TE}(hl:PE X l tl):PI X tg l (Ux X.K tl):=by
 intro aa s σ H R I h;refine ZB (hl aa s σ H _ I h) λv s1 ⟨x,H1,c,r1,q1⟩=>?_;obtain⟨a,e,⟨xs,d⟩,q⟩:=q1;subst e;cases r1;obtain⟨its,g,p,hz⟩:=c.list d;refine Fo p.isList ?_;refine⟨s1.heap.objs.size,[s1.heap.objs.size],_,_,H1,rfl,c.kept (t':=s1.toks) λb o e=>Ad _ e,pH a _,⟨_,Av _ rfl,rfl,rfl⟩,λb f=>?_,q⟩;have e:b=s1.heap.objs.size:=by simpa using f
 subst e;exact c.fpOk (Au _) (c.hok.fresh (Au _))
theorem mJ{l:Rk}{tl:TE}(hl:PE X l tl):PI X tg l (iTup X.K tl):=by
 intro aa s σ H R I h;refine ZB (hl aa s σ H _ I h) λv s1 ⟨x,H1,c,r1,q1⟩=>?_;obtain⟨a,e,⟨xs,d⟩,q⟩:=q1;subst e;cases r1;obtain⟨its,g,p,hz⟩:=c.tuple d;refine Hb (show s1.heap.IsTuple a its.toArray from p) ?_;refine⟨s1.heap.objs.size,[s1.heap.objs.size],_,_,H1,rfl,c.kept (t':=s1.toks) λb o e=>Ad _ e,EQ a _,⟨_,Av _ rfl,rfl,rfl⟩,λb f=>?_,q⟩;have e:b=s1.heap.objs.size:=by simpa using f
 subst e;exact c.fpOk (Au _) (c.hok.fresh (Au _))
theorem GB{aa:List (Rf×Ro)}{σ:St}{H:Hp}{s:Af}{R:It->Hp->Prop}{E:Rc->Af->Prop}{lo hi:Int}{t u v:Rx}{tk:Nat}(I:cA X aa σ H s)(h1: -(2 ^ 62)<=lo)(h2:lo<2 ^ 62)(f: -(2 ^ 62)<=hi)(d:hi<2 ^ 62)(q:R (Itr lo (hi - lo).toNat) H):Rh (Rj X.prog X.w) X.A (pyIter (.ref s.heap.objs.size)) (PIE X aa σ tg R) E {s with heap:=s.heap.push {cls:=.type "range",data:=.fields #[.int lo t,.int hi u,.int 1 v]},toks:=tk}:=by
 refine wpAny_pyIter_range (Qx ..) (small_one h1 h2 f d) ?_;have a:cA X aa σ H {s with heap:=s.heap.push {cls:=.type "range",data:=.fields #[.int lo t,.int hi u,.int 1 v]},toks:=tk}:=I.kept λb o e=>Ad _ e;refine⟨(s.heap.push {cls:=.type "range",data:=.fields #[.int lo t,.int hi u,.int 1 v]}).objs.size,[(s.heap.push {cls:=.type "range",data:=.fields #[.int lo t,.int hi u,.int 1 v]}).objs.size],_,_,H,rfl,a.kept (t':=tk) λb o e=>Ad _ e,EO _ lo (hi - lo).toNat,?_,λb c=>?_,q⟩
 ·have h : lo + ((0 : Nat) : Int) * 1 = lo := by simp
  have g:(((hi - lo).toNat:Nat):Int) - ((0:Nat):Int)=Hc lo hi 1:=by rw[rangeSize_one];split<;>lia
  show IsRangeIter _ _ (lo+((0:Nat):Int)*1) ((((hi - lo).toNat:Nat):Int) - ((0:Nat):Int)) 1;rw[h,g];exact Av _ rfl
 ·have e : b = (s.heap.push { cls := .type "range",data := .fields #[.int lo t,.int hi u,.int 1 v] }).objs.size := by simpa using c
  subst e;exact a.fpOk (Au _) (a.hok.fresh (Au _))
def nQ(ta:TA):TI:=λσ H R=>ta σ H λvs H1=>∃j:Int,vs=[.int j]/\ -(2 ^ 62)<=j/\j<2 ^ 62/\R (Itr 0 j.toNat) H1
def mO(ta:TA):TI:=λσ H R=>ta σ H λvs H1=>∃i j:Int,vs=[.int i,.int j]/\(-(2 ^ 62)<=i/\i<2 ^ 62/\ -(2 ^ 62)<=j/\j<2 ^ 62)/\R (Itr i (j - i).toNat) H1
theorem eW{a:Rk}{ta:TA}{p pos:Pos}(f:Gl X "range")(d:X.mg "range"=none)(g:PA X [a] ta)(c:Ae [a] X.env=[(false,eval a X.env)]:=by rfl):PI X tg (.Call (.Name "range" p) [a] [] pos) (nQ ta):=by
 intro aa s σ H R I h;refine Call_ (QV I f d boot_range (Dz (ZB (g pos aa s σ H _ I h) λus s1 ⟨vs,H1,i,r1,q1⟩=>?_) c rfl));obtain⟨j,e,q1,q2,q⟩:=q1;subst e;cases r1 with
 |cons r b=>
  cases b;obtain⟨t,rfl⟩:=r;exact call_range_1 (GB i (by lia) (by lia) q1 q2 (by simpa using q))
theorem pE{a b:Rk}{ta:TA}{p pos:Pos}(l:Gl X "range")(k:X.mg "range"=none)(m:PA X [a,b] ta)(g:Ae [a,b] X.env=[(false,eval a X.env),(false,eval b X.env)]:=by rfl)(c:Ae [b] X.env=[(false,eval b X.env)]:=by rfl):PI X tg (.Call (.Name "range" p) [a,b] [] pos) (mO ta):=by
 intro aa s σ H R I h;refine Call_ (QV I l k boot_range (Dz (ZB (m pos aa s σ H _ I h) λus s1 ⟨vs,H1,n,r1,q1⟩=>?_) (by rw[g,c]) (by rw[c];rfl)));obtain⟨i,j,e,⟨q1,q2,q3,f⟩,q⟩:=q1;subst e;cases r1 with
 |cons r d=>
  cases d with
  |cons r' d=>
   cases d;obtain⟨t,rfl⟩:=r;obtain⟨t',rfl⟩:=r';exact call_range_2 (GB n q1 q2 q3 f q)
def tFor(d:TI)(g:TG)(tb:TS):TS:=λD σ H=>d σ H λJ H1=>∃W:Nat->Nat->St->Hp->Prop,(∃m,W 0 m σ H1)/\∀i m σ H,W i m σ H->
 (J.stop i H/\D.nx σ H)∨(J.go i H/\∃N:St->Hp->Prop,(∀a H',N a H'->∃c,c<m/\W (i+1) c a H')/\∀x H',J.yld i H x H'->g x σ H' λb H2=>tb {D with nx:=N,ct:=N,bk:=D.nx} b H2)
noncomputable def LZ(fp:List Rf)(h:Rn):List (Rf×Ro):=fp.filterMap λb=>(h.get? b).map λo=>(b,o)
theorem T7{fp:List Rf}{h:Rn}{b:Rf}{o:Ro}(a:b∈fp)(e:h.get? b=some o):(b,o)∈LZ fp h:=Mh.mpr ⟨b,a,by rw[e];rfl⟩
theorem dJ{fp:List Rf}{h:Rn}{p:Rf×Ro}(a:p∈LZ fp h):p.1∈fp/\h.get? p.1=some p.2:=by
 obtain⟨b,c,e⟩:=Mh.mp a;cases q:h.get? b with
 |none=>rw[q] at e;cases e
 |some o=>
  rw[q] at e;have d:(b,o)=p:=Bv e;subst d;exact⟨c,q⟩
theorem cA.pinned{aa:List (Rf×Ro)}{σ:St}{H:Hp}{s:Af}{fp:List Rf}(I:cA X aa σ H s)(h:∀b∈fp,KM X aa H b)(g:∀b∈fp,∃o,s.heap.get? b=some o/\∀v,o.data≠ .cell v):cA X (aa++LZ fp s.heap) σ H s:=
 I.pins_of λp f=>(Bz.mp f).elim (λz=>I.pin p (Bu _ z)) λz=>by obtain⟨a,e⟩:=dJ z;obtain⟨i,f1,f2,_⟩:=h p.1 a;obtain⟨o,c,d⟩:=g p.1 a;rw[e] at c;cases c;exact⟨e,i,f1,f2,d⟩
theorem cA.unpinned{aa pl:List (Rf×Ro)}{σ:St}{H:Hp}{s:Af}(I:cA X (aa++pl) σ H s):cA X aa σ H s:=I.pins_of λp a=>I.pin p (Bu _ (Ch _ a))
theorem jS{iter:Rk}{body:List Rq}{P:TI}{g:TG}{tb:TS}{pos:Pos}(C:Ol (Rj X.prog X.w) X.A X.env X.xe)(hc:X.calm=true)(hi:PI X tg iter P)(hg:PG X tg g)(k:PF X body tb)(hs:∀x,Rp iter X.env x=pure x:=by intro _;rfl):PS X (.For tg iter body [] pos) (tFor P g tb):=by
 intro aa s σ H D I h;refine wpAny_For (ZB (hi aa s σ H _ I h) λv s1 h1=>ZB h1 λitv s2 h2=>?_) hs;obtain⟨it,fp,Q,J,H2,e,I2,T,G,f2,W,⟨m0,w0⟩,turn⟩:=h2;subst e;have stat:∀{H':Hp},(∀b∈fp,H' b=none)->∀b∈fp,KM X aa H' b:=λhn b k=>⟨hn b k,(f2 b k).2⟩;refine codeAny_forLoop_any (λn s'=>∃i j H',cA X aa j H' s'/\Q i s'.heap/\(∀b∈fp,H' b=none)/\W i n j H') ?_ m0 ⟨0,σ,H2,I2,G,λb k=>(f2 b k).1,w0⟩;rintro n S ⟨i,c,E,U,z,fr3,w3⟩;rcases turn i n c E w3 with⟨y,qn⟩|⟨go,N,hN,step⟩
 ·refine Fm C (ZB (T.done X rfl rfl rfl hc i aa S c E X.xe U (stat fr3) z y) λr s4 ⟨L,I4⟩ => ?_)
  subst L;exact Ja ⟨c,E,I4,qn⟩
 ·refine Fm C (ZB (T.item X rfl rfl rfl hc i aa S c E X.xe U (stat fr3) z go) λr s4 ⟨u,L,h4⟩ => ?_)
  subst L;refine Fm C (ZB h4 λ_ R ⟨x,V,I5,r5,Y,t,M⟩=>?_);have O:=I5.pinned (stat M) (T.obj _ _ t);refine Fm C (ZB (hg _ R c V x u _ O r5 (step x V Y)) λ_ s6 ⟨F,H6,I6,q6⟩=>?_);refine Fm C (ZB (k _ s6 F H6 _ I6 q6) λf K q=>?_);have XI:∀{a:St} {p:Hp},cA X (aa++LZ fp R.heap) a p K->N a p->∃m,m<n/\∃i j H',cA X aa j H' K/\Q i K.heap/\(∀b∈fp,H' b=none)/\W i m j H':=λ{a p} l B=>by obtain⟨m',hm,w7⟩:=hN a p B;refine⟨m',hm,i+1,a,p,l.unpinned,T.keep _ _ _ t λb k o e=>(l.pin (b,o) (Bu _ (Bu _ (T7 k e)))).1,λb k=>?_,w7⟩;obtain⟨o,e,d⟩:=T.obj _ _ t b k;exact(l.pin (b,o) (Bu _ (Bu _ (T7 k e)))).2.1
  cases f with
  |next=>obtain⟨a,p,l,B⟩:=q;exact XI l B
  |cont=>obtain⟨a,p,l,B⟩:=q;exact XI l B
  |brk=>obtain⟨a,p,l,q⟩:=q;exact⟨a,p,l.unpinned,q⟩
  |ret v=>obtain⟨Z,a,p,l,r7,q⟩:=q;exact⟨Z,a,p,l.unpinned,r7,q⟩
end
abbrev R2:=V->V->Hp->VK->Prop
def WB(X:Cx)(f:Rc->Rc->Rv Rc)(r:R2):Prop:=
 ∀(aa:List (Rf×Ro)) (s:Af) (σ:St) (H:Hp) (x y:V) (v u:Rc) (Q:VK),cA X aa σ H s->bR x v->bR y u->r x y H Q->
  Rh (Rj X.prog X.w) X.A (f v u) (EP X aa σ Q) X.xe s
def UnR(X:Cx)(f:Rc->Rv Rc)(r:V->Hp->VK->Prop):Prop:=
 ∀(aa:List (Rf×Ro)) (s:Af) (σ:St) (H:Hp) (x:V) (v:Rc) (Q:VK),cA X aa σ H s->bR x v->r x H Q->
  Rh (Rj X.prog X.w) X.A (f v) (EP X aa σ Q) X.xe s
def ZW(X:Cx)(f:Rc)(r:List V->Hp->VK->Prop):Prop:=
 ∀(aa:List (Rf×Ro)) (s:Af) (σ:St) (H:Hp) (xs:List V) (us:List Rc) (Q:VK),cA X aa σ H s->bS xs us->r xs H Q->
  Rh (Rj X.prog X.w) X.A (call f us) (EP X aa σ Q) X.xe s
def tOp(r:R2)(ta tb:TE):TE:=λσ H Q=>ta σ H λx H1=>tb σ H1 λy H2=>r x y H2 Q
def tUn(r:V->Hp->VK->Prop)(ta:TE):TE:=λσ H Q=>ta σ H λx H1=>r x H1 Q
def rI(C:Int->Int->Prop)(g:Int->Int->V):R2:=λx y H Q=>∃i j,x=.int i/\y=.int j/\C i j/\Q (g i j) H
def D3(g:Int->Int->V):R2:=λx y H Q=>∃i j,x=.int i/\y=.int j/\Q (g i j) H
def rU(g:Int->V):V->Hp->VK->Prop:=λx H Q=>∃i,x=.int i/\Q (g i) H
section
variable{X:Cx}{a b c:Rk}{ta tb tc:TE}{pos:Pos}
theorem binT(i:PE X a ta)(g:PE X b tb){aa:List (Rf×Ro)}{s:Af}{σ:St}{H:Hp}{R:V->V->Hp->Prop}(I:cA X aa σ H s)(h:ta σ H λx H1=>tb σ H1 λy H2=>R x y H2){Q:Rc->Af->Prop}{f:Rc->Rc->Rv Rc}(e:∀v u s2 x y H2,cA X aa σ H2 s2->bR x v->bR y u->R x y H2->Rh (Rj X.prog X.w) X.A (f v u) Q X.xe s2):Rh (Rj X.prog X.w) X.A (eval a X.env) (λv d=>Rh (Rj X.prog X.w) X.A (eval b X.env) (λu c=>Rh (Rj X.prog X.w) X.A (f v u) Q X.xe c) X.xe d) X.xe s:=by refine ZB (i aa s σ H _ I h) λv s1 ⟨x,H1,k,r1,q1⟩=>?_;refine ZB (g aa s1 σ H1 _ k q1) λu s2 ⟨y,H2,j,r2,q2⟩=>?_;exact e v u s2 x y H2 j r1 r2 q2
theorem Us{op:Operator}{r:R2}(e:WB X (Fk op) r)(g:PE X a ta)(f:PE X b tb):PE X (.BinOp a op b pos) (tOp r ta tb):=by intro aa s σ H Q I h;exact wpAny_BinOp (binT g f I h λv u s2 x y H2 i d c q=>e aa s2 σ H2 x y v u Q i d c q)
theorem dC{op:UnaryOp}{r:V->Hp->VK->Prop}(b:UnR X (unaryOp op) r)(c:PE X a ta):PE X (.UnaryOp op a pos) (tUn r ta):=by intro aa s σ H Q I h;exact UnaryOp_ (ZB (c aa s σ H _ I h) λv s1 ⟨x,H1,d,r1,q1⟩=>b aa s1 σ H1 x v Q d r1 q1)
theorem opI{f:Rc->Rc->Rv Rc}{C:Int->Int->Prop}{g:Int->Int->Int}(rule:∀(i j:Int) (t u:Rx) (s:Af) (Q:Rc->Af->Prop) (E:Rc->Af->Prop),C i j->Q (.int (g i j) s.toks) {s with toks:=s.toks+1}->Rh (Rj X.prog X.w) X.A (f (.int i t) (.int j u)) Q E s):WB X f (rI C λi j=>.int (g i j)):=by intro aa s σ H x y v u Q I b a h;obtain⟨i,j,rfl,rfl,hc,q⟩:=h;obtain⟨t,rfl⟩:=b;obtain⟨t',rfl⟩:=a;exact rule i j t t' s _ _ hc ⟨.int (g i j),H,I.tok _,⟨_,rfl⟩,q⟩
theorem opI0{f:Rc->Rc->Rv Rc}{g:Int->Int->Int}(rule:∀(i j:Int) (t u:Rx) (s:Af) (Q:Rc->Af->Prop) (E:Rc->Af->Prop),Q (.int (g i j) s.toks) {s with toks:=s.toks+1}->Rh (Rj X.prog X.w) X.A (f (.int i t) (.int j u)) Q E s):WB X f (D3 λi j=>.int (g i j)):=by intro aa s σ H x y v u Q I b a h;obtain⟨i,j,rfl,rfl,q⟩:=h;obtain⟨t,rfl⟩:=b;obtain⟨t',rfl⟩:=a;exact rule i j t t' s _ _ ⟨.int (g i j),H,I.tok _,⟨_,rfl⟩,q⟩
theorem opB0{f:Rc->Rc->Rv Rc}{g:Int->Int->Bool}(rule:∀(i j:Int) (t u:Rx) (s:Af) (Q:Rc->Af->Prop) (E:Rc->Af->Prop),Q (.bool (g i j)) s->Rh (Rj X.prog X.w) X.A (f (.int i t) (.int j u)) Q E s):WB X f (D3 λi j=>.bl (g i j)):=by intro aa s σ H x y v u Q I b a h;obtain⟨i,j,rfl,rfl,q⟩:=h;obtain⟨t,rfl⟩:=b;obtain⟨t',rfl⟩:=a;exact rule i j t t' s _ _ ⟨.bl (g i j),H,I,rfl,q⟩
def CDiv(i j:Int):Prop:=0<j/\j<1073741824
def CPow(i j:Int):Prop:=0<=j/\j<=1000000/\i.natAbs<2 ^ 64
def CMul(i j:Int):Prop:=(-(2 ^ 64)<i/\i<2 ^ 64)∨(-(2 ^ 64)<j/\j<2 ^ 64)
theorem CMul.ok{i j:Int}(h:CMul i j):IntMulOk i j:=by
 rcases h with⟨h1,h2⟩|⟨h1,h2⟩
 ·exact .of_left (intBits_le_64 h1 h2)
 ·exact .of_right (intBits_le_64 h1 h2)
theorem zJU:WB X (Fk .Add) (D3 λi j=>.int (i+j)):=opI0 λ_ _ _ _ _ _ _ q=>add_int q
theorem U5:WB X (Fk .Sub) (D3 λi j=>.int (i - j)):=opI0 λ_ _ _ _ _ _ _ q=>sub_int q
theorem kR:WB X (Fk .Mult) (rI CMul λi j=>.int (i*j)):=opI λ_ _ _ _ _ _ _ hc q=>mul_int q hc.ok
theorem HY:WB X (Fk .FloorDiv) (rI CDiv λi j=>.int (i/j)):=opI λi j _ _ _ _ _ hc q=>by have h1:(0:Int)<j:=hc.1;have h2:j<1073741824:=hc.2;exact floordiv_int (by lia) (by rw[Int.fdiv_eq_ediv_of_nonneg i (by lia)];exact q) (.inl (PyProof.noPylong_small (by lia)))
theorem VY:WB X (Fk .Mod) (rI (λ_ j=>0<j) λi j=>.int (i % j)):=opI λi j _ _ _ _ _ hc q=>by have h1:(0:Int)<j:=hc;exact mod_int' (by lia) (by rw[Int.fmod_eq_emod_of_nonneg i (by lia)];exact q)
theorem Ys:WB X (Fk .Pow) (rI CPow λi j=>.int (i ^ j.toNat)):=opI λ_ _ _ _ _ _ _ hc q=>pow_int_small hc.1 hc.2.1 hc.2.2 q
theorem unI{f:Rc->Rv Rc}{g:Int->Int}(rule:∀(i:Int) (t:Rx) (s:Af) (Q:Rc->Af->Prop) (E:Rc->Af->Prop),Q (.int (g i) s.toks) {s with toks:=s.toks+1}->Rh (Rj X.prog X.w) X.A (f (.int i t)) Q E s):UnR X f (rU λi=>.int (g i)):=by intro aa s σ H x v Q I a h;obtain⟨i,rfl,q⟩:=h;obtain⟨t,rfl⟩:=a;exact rule i t s _ _ ⟨.int (g i),H,I.tok _,⟨_,rfl⟩,q⟩
theorem gE:UnR X (unaryOp .USub) (rU λi=>.int (-i)):=unI λ_ _ _ _ _ q=>neg_int q
end
section
variable{X:Cx}{a b c:Rk}{ta tb tc:TE}{pos:Pos}
theorem HG{aa:List (Rf×Ro)}{σ:St}{H:Hp}{s:Af}{Q:VK}{k k':Bool}(I:cA X aa σ H s)(q:Q (.bl k) H)(e:k=k'):EP X aa σ Q (.bool k') s:=by subst e;exact⟨.bl k,H,I,rfl,q⟩
theorem F5:WB X (Cu .Lt) (D3 λi j=>.bl (decide (i<j))):=opB0 λ_ _ _ _ _ _ _ q=>lt_int q
theorem F4:WB X (Cu .LtE) (D3 λi j=>.bl (decide (i<=j))):=opB0 λ_ _ _ _ _ _ _ q=>le_int q
theorem BK:WB X (Cu .Gt) (D3 λi j=>.bl (decide (j<i))):=opB0 λ_ _ _ _ _ _ _ q=>gt_int q
theorem Uk:WB X (Cu .GtE) (D3 λi j=>.bl (decide (j<=i))):=opB0 λ_ _ _ _ _ _ _ q=>ge_int q
theorem T8:WB X (Cu .Is) (λx y H Q=>y=.non/\Q (.bl (decide (x=.non))) H):=by
 intro aa s σ H x y v u Q I a b h;obtain⟨rfl,q⟩:=h;cases b;refine is_none_gen (HG I q ?_);cases x<;>first
  |(cases a;rfl)
  |(obtain⟨t,rfl⟩:=a;rfl)
theorem M5:WB X (Cu .IsNot) (λx y H Q=>y=.non/\Q (.bl (!decide (x=.non))) H):=by
 intro aa s σ H x y v u Q I a b h;obtain⟨rfl,q⟩:=h;cases b;refine isnot_none_gen (HG I q ?_);cases x<;>first
  |(cases a;rfl)
  |(obtain⟨t,rfl⟩:=a;rfl)
theorem WB.or{f:Rc->Rc->Rv Rc}{r r':R2}(h:WB X f r)(h':WB X f r'):WB X f (λx y H Q=>r x y H Q∨r' x y H Q):=by
 intro aa s σ H x y v u Q I b a q;rcases q with q|q
 ·exact h aa s σ H x y v u Q I b a q
 ·exact h' aa s σ H x y v u Q I b a q
theorem bQ(b:Rk){op:CmpOp}(h:op≠ .In:=by decide)(h2:op≠ .NotIn:=by decide):Hd op b=false:=by
 have c:(op==CmpOp.In)=false:=by cases op<;>first|rfl|exact absurd rfl h
 have a:(op==CmpOp.NotIn)=false:=by cases op<;>first|rfl|exact absurd rfl h2
 cases b<;>simp[Hd,c,a]
theorem gM{op:CmpOp}{r:R2}(e:WB X (Cu op) r)(i:PE X a ta)(g:PE X b tb)(f:Hd op b=false):PE X (.Compare a [op] [b] pos) (tOp r ta tb):=by intro aa s σ H Q I h;exact wpAny_Compare1 (binT i g I h λv u s2 x y H2 j d c q=>e aa s2 σ H2 x y v u Q j d c q) f
def Tj(t:TE):TT:=λσ H Q=>t σ H λx H'=>∃k,x=.bl k/\Q k H'
theorem qD{op:CmpOp}{r:R2}(f:WB X (Cu op) r)(j:PE X a ta)(i:PE X b tb)(g:Hd op b=false):PT X (.Compare a [op] [b] pos) (Tj (tOp r ta tb)):=by
 intro aa s σ H Q I h;refine wpAny_isTrue_Compare1 (ZB (j aa s σ H _ I h) λv s1 ⟨x,H1,n,r1,q1⟩=>ZB (i aa s1 σ H1 _ n q1) λu s2 ⟨y,H2,m,r2,q2⟩=>
  ZB (f aa s2 σ H2 x y v u _ m r1 r2 q2) λc p ⟨z,o,l,d,k,e,q3⟩=>?_) g
 subst e;cases d;exact Ep ⟨o,l,q3⟩
def EN(r r':R2)(ta tb tc:TE):TE:=λσ H Q=>ta σ H λx H1=>tb σ H1 λy H2=>r x y H2 λz a=>∃k,z=.bl k∧
 (if k=true then tc σ a λw' b=>r' y w' b Q else Q (.bl false) a)
theorem lN{op f:CmpOp}{r r':R2}(t:WB X (Cu op) r)(g:WB X (Cu f) r')(B:PE X a ta)(A:PE X b tb)(hc:PE X c tc)(w:Om [op,f] [b,c]=false:=by with_unfolding_all rfl):PE X (.Compare a [op,f] [b,c] pos) (EN r r' ta tb tc):=by
 intro aa s σ H Q I h;refine Compare_chain (ZB (B aa s σ H _ I h) λv s1 ⟨x,H1,E,r1,q1⟩=>chain_link (ZB (A aa s1 σ H1 _ E q1) λu s2 ⟨y,H2,D,r2,q2⟩=>
  ZB (t aa s2 σ H2 x y v u _ D r1 r2 q2) λd n ⟨z,j,i,p,k,e,q3⟩=>?_)) w
 subst e;cases p;refine Ep ?_;cases k with
 |false=>exact ite_ff ⟨.bl false,j,i,rfl,q3⟩
 |true=>exact ite_tt (chain_last (ZB (hc aa n σ j _ i q3) λw' m ⟨l,F,C,o,q⟩=>g aa m σ F y l u w' Q C r2 o q))
theorem fR{op f:CmpOp}{r r':R2}(B:WB X (Cu op) r)(g:WB X (Cu f) r')(E:PE X a ta)(D:PE X b tb)(hc:PE X c tc)(C:Om [op,f] [b,c]=false:=by with_unfolding_all rfl):PT X (.Compare a [op,f] [b,c] pos) (Tj (EN r r' ta tb tc)):=by
 intro aa s σ H Q I h;refine isTrue_chain (ZB (E aa s σ H _ I h) λv s1 ⟨x,H1,M,r1,q1⟩=>test_link (ZB (D aa s1 σ H1 _ M q1) λu s2 ⟨y,H2,L,r2,q2⟩=>
  ZB (B aa s2 σ H2 x y v u _ L r1 r2 q2) λd n ⟨z,j,i,q,k,e,q3⟩=>?_)) C
 subst e;cases q;refine Ep ?_;cases k with
 |false=>
  obtain⟨k',G,A⟩:=q3;cases G;exact ite_ff ⟨j,i,A⟩
 |true=>
  refine ite_tt (test_last (ZB (hc aa n σ j _ i q3) λw' m ⟨l,O,K,p,w⟩=>ZB (g aa m σ O y l u w' _ K r2 p w) λd' R ⟨P,N,J,o,S,F,t⟩=>?_));subst F;cases o;exact Ep ⟨N,J,t⟩
theorem OR:(sizeLine:Nat)<2 ^ 63:=by rw[Cm];decide
theorem DV:WB X (Fk .Add) (λx y H Q=>∃i j,x=.str i/\y=.str j/\i.length+j.length<=sizeLine/\Q (.str (i++j)) H):=by intro aa s σ H x y v u Q I b a h;obtain⟨i,j,rfl,rfl,hz,q⟩:=h;obtain⟨t,rfl⟩:=b;obtain⟨t',rfl⟩:=a;exact add_str (λt' tk=>⟨.str (i++j),H,I.tok _,⟨_,rfl⟩,q⟩) hz
theorem S8{x:V}{us:List Rc}(r:bS [x] us):∃u,us=[u]/\bR x u:=by
 cases r with
 |cons r1 r2=>cases r2;exact⟨_,rfl,r1⟩
theorem CJ{x y:V}{us:List Rc}(r:bS [x,y] us):∃u w',us=[u,w']/\bR x u/\bR y w':=by
 cases r with
 |cons r1 r2=>
  cases r2 with
  |cons b a=>cases a;exact⟨_,_,rfl,r1,b⟩
theorem OC(hc:X.calm=true):ZW X (.builtin "max") (λxs H Q=>∃i j,xs=[.int i,.int j]/\Q (.int (if j>i then j else i)) H):=by
 intro aa s σ H xs us Q I r h;obtain⟨i,j,rfl,q⟩:=h;obtain⟨u,w',rfl,⟨t,rfl⟩,⟨t',rfl⟩⟩:=CJ r;refine max_two_ints (I.ok.hd hc) λh' tk k=>⟨_,H,I.kept k,?_,q⟩;by_cases a:j>i
 ·rw[if_pos a,if_pos a];exact⟨_,rfl⟩
 ·rw[if_neg a,if_neg a];exact⟨_,rfl⟩
theorem OD(hc:X.calm=true):ZW X (.builtin "min") (λxs H Q=>∃i j,xs=[.int i,.int j]/\Q (.int (if j<i then j else i)) H):=by
 intro aa s σ H xs us Q I r h;obtain⟨i,j,rfl,q⟩:=h;obtain⟨u,w',rfl,⟨t,rfl⟩,⟨t',rfl⟩⟩:=CJ r;refine min_two_ints (I.ok.hd hc) λh' tk k=>⟨_,H,I.kept k,?_,q⟩;by_cases a:j<i
 ·rw[if_pos a,if_pos a];exact⟨_,rfl⟩
 ·rw[if_neg a,if_neg a];exact⟨_,rfl⟩
end
structure EV(h:Rn)(x dx C:Rf)(mA:Rg->Option Rc):Prop where
 obj:h.get? x=some (Ih C dx)
 ns:h.Ns1 dx mA
 ne:dx≠x
theorem lR{h:Rn}{dx:Rf}{mA:Rg->Option Rc}(n:h.Ns1 dx mA):∃od,h.get? dx=some od/\∀name,Qf name od=some (mA name):=by
 obtain⟨o,es,i,d,hd,hk,_,f⟩:=n;refine⟨o,d,λname=>?_⟩;have e:=f name;unfold nsFind findBy at e;rw[<-Array.find?_toList] at e;unfold Qf;rw[hd];dsimp only;split
 ·rename_i y q
  rw[q] at e;exact congrArg some e
 ·rename_i q
  rw[q] at e;have a:es.toList.any (·.refKey)=false:=by rw[List.any_eq_false];intro y c;obtain⟨z,t,b⟩:=hk y (Array.mem_toList_iff.mp c);simp[DictEntry.refKey,b]
  have g:¬es.toList.any (·.refKey)=true:=by rw[a];exact Dr
  rw[if_neg g];exact congrArg some e
theorem EV.look{h:Rn}{x dx C:Rf}{mA:Rg->Option Rc}(I:EV h x dx C mA):∃od,W.InstAt h x (Ih C dx) C (some od)/\∀name,Qf name od=some (mA name):=
 let ⟨od,a,hl⟩:=lR I.ns
 ⟨od,⟨I.obj,rfl,rfl,a⟩,hl⟩
section
variable{prog:Bb}{w:Rl}{A:Cn}{E:Rc->Af->Prop}{s:Af}{K:Al}{x dx C f:Rf}{mA:Rg->Option Rc}{name:Rg}{v:Rc}
theorem Zi{b:Bool}{Q:Rc->Af->Prop}(X:K.In s.heap)(I:EV s.heap x dx C mA)(e:Mx K C name=true)(d:Oo K C=true)(f:Ic K (.ref C) name=some none)(c:mA name=some v)(a:W.handedIn v=true)(h:Q v {s with toks:=s.toks+1}):Rh (Rj prog w) A (getAttr (.ref x) name b) Q E s:=by obtain⟨od,J,hl⟩:=I.look;exact W.get_value X J (Mi e).1 (W.findObj_own d f rfl (by rw[hl,c])) a h
theorem oK{pl:Rv Bool}{Q:Rc×List Rc->Af->Prop}(X:K.In s.heap)(I:EV s.heap x dx C mA)(a:Mx K C name=true)(d:Ic K (.ref C) name=some (some (.ref f)))(c:W.isFn K (.ref f)=true)(b:mA name=none)(h:Q (.ref f,[.ref x]) s):Rh (Rj prog w) A (Mj (.ref x) name pl) Q E s:=by obtain⟨od,J,hl⟩:=I.look;exact W.method_fn X J (Mi a).1 (Mi a).2 d (beq_iff_eq.mp c) (by show(Qf name od).map (·.isSome)=some false;rw[hl,b];rfl) h
theorem jI{ns:List Rg}{Q:Unit->Af->Prop}(X:K.In s.heap)(I:EV s.heap x dx C mA)(l:Ic K (.ref C) "__setattr__"=some (some (.builtin "object.__setattr__")))(m:W.plainOver K C=true)(k:Qo K C name=some none)(n:Oo K C=true)(hw:Jr mA ns)(hsz:ns.length<=sizeLine)(h:∀h',EV h' x dx C (λy=>if y=name then some v else mA y)->Fa dx s.heap h'->Q () {s with heap:=h',toks:=s.toks+2}):Rh (Rj prog w) A (setAttr (.ref x) name v) Q E s:=by obtain⟨od,J,hl⟩:=I.look;refine W.set_plain X J l (W.osa_open (s:={s with toks:=s.toks+1}) (r:=none) X J m k λb=>?_);obtain⟨q,hc,g⟩:=W.any_some n;have j:s.heap.get? x=some ⟨.ref C,some dx,.plain,#[]⟩:=I.obj;refine Ac (Am (Ac (Ac (wpAny_loadPart j (Ac (W.Looks.here (s:={s with toks:=s.toks+1}) (W.looks_clsIn X hc) ?_))))));rw[g];refine Am (a:=some dx) (Ac (Am (Ac ?_)));refine wpAny_nsSet1 (s:={s with toks:=s.toks+1}) I.ns λh' d c=>?_;obtain⟨oD,o,p,e,f,i⟩:=d.count (PySem.Within.cons name v hw);refine Ac (wpAny_lookBehind e (by rw[f];exact pastItsLine_dict (Em i (by rw[Ax];lia))) ?_);exact Am (h _ ⟨(c.2 _ (Cq I.ne)).trans I.obj,d,I.ne⟩ c)
theorem Wl{R:Result->Af->Prop}{vs:List Rc}{b:List (Rg×Rc)}(X:K.In s.heap)(c:Kz K C=true)(hi:Ic K (.ref C) "__init__"=some (some (.ref f)))(e:W.typeIn K (.ref f)=some (.type "function"))(h:Kh (Rj prog w) (A.under (.builtin "type.__call__" ⟨.ref C::vs,b⟩)) (.call (.ref f) ⟨.ref (s.heap.objs.size+1)::vs,b⟩) (W.InitBack (s.heap.objs.size+1) R) {s with heap:=(s.heap.push Gf).push (Ih C s.heap.objs.size)}):Kh (Rj prog w) A (.call (.ref C) ⟨vs,b⟩) R s:=by obtain⟨i,g,d,t,os⟩:=s;exact W.make_core (W.makes_of X c) (W.looks_findIn X hi) (λa=>W.bind_fn X a e) (.inl rfl) h
end
noncomputable def UA(f:Rg)(v:V):List (Rg×V)->List (Rg×V)
 |[]=>[(f,v)]
 |(g,x)::r=>if g=f then(g,v)::r else(g,x)::UA f v r
theorem NT(f g:Rg)(v:V):∀fs:List (Rg×V),(UA f v fs).lookup g=if g=f then some v else fs.lookup g
 | [] => by
  show Fg g [(f,v)]=_;by_cases h:g=f
  ·have a:(g==f)=true:=beq_iff_eq.mpr h
   simp only[Fg,a,if_pos h]
  ·have a:(g==f)=false:=beq_eq_false_iff_ne.mpr h
   simp only[Fg,a,if_neg h]
 | (k,x) :: r => by
  have b:=NT f g v r;rw[show UA f v ((k,x)::r)=(if k=f then(k,v)::r else(k,x)::UA f v r) from rfl];by_cases hk:k=f
  ·rw[if_pos hk]
   by_cases h:g=k
   ·have a:(g==k)=true:=beq_iff_eq.mpr h
    simp only[Fg,a,if_pos (h.trans hk)]
   ·have a:(g==k)=false:=beq_eq_false_iff_ne.mpr h
    simp only[Fg,a,if_neg (λe:g=f=>h (e.trans hk.symm))]
  ·rw[if_neg hk]
   by_cases h:g=k
   ·have a:(g==k)=true:=beq_iff_eq.mpr h
    simp only[Fg,a,if_neg (λe:g=f=>hk (h.symm.trans e))]
   ·have a:(g==k)=false:=beq_eq_false_iff_ne.mpr h
    simp only[Fg,a];exact b
theorem OQ(f:Rg)(v:V):∀fs:List (Rg×V),f∈(UA f v fs).map (·.1)/\∀g,g∈fs.map (·.1)->g∈(UA f v fs).map (·.1)
 |[]=>⟨by simp[UA],λg h=>by simp at h⟩
 | (k,x) :: r => by
  obtain⟨b,a⟩:=OQ f v r;rw[show UA f v ((k,x)::r)=(if k=f then(k,v)::r else(k,x)::UA f v r) from rfl];by_cases hk:k=f
  ·rw[if_pos hk]
   subst hk;exact⟨by simp,λg h=>by simpa using h⟩
  ·rw[if_neg hk]
   refine⟨?_,λg h=>?_⟩
   ·rw[As]
    exact Ar _ b
   ·rw[As] at h⊢
    rcases Aj.mp h with e|e
    ·exact Aj.mpr (.inl e)
    ·exact Ar _ (a g e)
theorem NR(f:Rg)(v:V):∀fs:List (Rg×V),(UA f v fs).length<=fs.length+1
 |[]=>by simp[UA]
 |(k,x)::r=>by
  have a:=NR f v r;rw[show UA f v ((k,x)::r)=(if k=f then(k,v)::r else(k,x)::UA f v r) from rfl];by_cases hk:k=f
  ·rw[if_pos hk,Ax,Ax];lia
  ·rw[if_neg hk,Ax,Ax];lia
theorem UK.some_of{v:V}{o:Option Rc}(r:UK (some v) o):∃u,o=some u/\bR v u:=by
 cases o with
 |none=>exact(show False from r).elim
 |some u=>exact⟨u,rfl,r⟩
theorem UK.none_of{o:Option Rc}(r:UK none o):o=none:=by
 cases o with
 |none=>rfl
 |some u=>exact(show False from r).elim
theorem iC{v:V}{u:Rc}(r:bR v u):W.handedIn u=true:=by
 cases v with
 |non=>cases (show u=Value.none from r);rfl
 |bl b=>cases (show u=Lk b from r);rfl
 |int i=>obtain⟨t,e⟩:=(show∃t,u=Me i t from r);cases e;rfl
 |str x=>obtain⟨t,e⟩:=(show∃t,u=Mf x t from r);cases e;rfl
 |byt b=>obtain⟨t,e⟩:=(show∃t,u=Qw b t from r);cases e;rfl
 |flt b=>obtain⟨t,e⟩:=(show∃t,u=Oi b t from r);cases e;rfl
 |ref a=>cases (show u=Bi a from r);rfl
 |ty n=>cases (show u=Iv n from r);rfl
section
variable{P:Bb}{w:Rl}{H H':Hp}{h h':Rn}{a C dx:Rf}{fs fs':List (Rg×V)}
theorem A6(b:RL P w H h)(e:H a=some (.ins C dx fs)):∃mA,EV h a dx C mA/\(∀f,UK (fs.lookup f) (mA f))/\Jr mA (fs.map (·.1))/\fs.length<=1000/\H dx=some (.own a):=by obtain⟨d,z,g,c,mA,n,r,q⟩:=(show ZY P w H h a (.ins C dx fs) from b a _ e);exact⟨mA,⟨c,n,g⟩,r,q,z,d⟩
end
structure Cls(K:Al)(C:Rf):Prop where
 pg:Mx K C Str.empty=true
 hd:Oo K C=true
 po:W.plainOver K C=true
 sa:Ic K (.ref C) "__setattr__"=some (some (.builtin "object.__setattr__"))
theorem Cls.get{K:Al}{C:Rf}(c:Cls K C)(f:Rg):Mx K C f=true:=c.pg
def ZC(K:Al)(C:Rf)(f:Rg):Prop:=Ic K (.ref C) f=some none
theorem ZC.taker{K:Al}{C:Rf}{f:Rg}(n:ZC K C f):Qo K C f=some none:=by unfold Qo;rw[show Ic K (.ref C) f=some none from n];rfl
structure Meth(K:Al)(C:Rf)(m:Rg)(f:Rf):Prop where
 at_:Ic K (.ref C) m=some (some (.ref f))
 fn:W.isFn K (.ref f)=true
 kp:Eu K (.ref f)=true
section
variable{X:Cx}{aa:List (Rf×Ro)}{σ:St}{H:Hp}{s:Af}{a C dx:Rf}{fs:List (Rg×V)}{f:Rg}{v:V}{A:Cn}{E:Rc->Af->Prop}
theorem EK{y:V}{u:Rc}{Q:Unit->Af->Prop}(I:cA X aa σ H s)(e:H a=some (.ins C dx fs))(c:Cls X.K C)(n:ZC X.K C f)(hl:fs.length<1000)(l:bR y u)(h:∀s',cA X aa σ (upd H a (.ins C dx (UA f y fs))) s'->Q () s'):Rh (Rj X.prog X.w) A (setAttr (.ref a) f u) Q E s:=by
 obtain⟨mA,O,r,i,_,j⟩:=A6 I.hok e;have hz:(fs.map (·.1)).length<=sizeLine:=by rw[Aq,Cm];lia
 refine jI I.kIn O c.sa c.po n.taker c.hd i hz λh' d k=>h _ ?_;have hd:∃o,h'.get? dx=some o:=let ⟨o,_,_,t,_⟩:=d.ns;⟨o,t⟩
 refine I.write (x:=a) (e:=dx) (by rw[e];exact True.intro) (.inr j) (λb q p z=>(k.2 b p).trans z) hd ?_;refine⟨by rw[cL O.ne];exact j,?_,O.ne,d.obj,_,d.ns,λg=>?_,λg m=>?_⟩
 ·have:=NR f y fs;lia
 ·show UK ((UA f y fs).lookup g) (if g=f then some u else mA g)
  rw[NT];by_cases q:g=f
  ·rw[if_pos q,if_pos q];exact l
  ·rw[if_neg q,if_neg q];exact r g
 ·by_cases q:g=f
  ·rw[q];exact(OQ f y fs).1
  ·refine (OQ f y fs).2 g (i g λz => m ?_)
   show(if g=f then some u else mA g)=none;rw[if_neg q];exact z
theorem cA.made(I:cA X aa σ H s):cA X aa σ (upd (upd H s.heap.objs.size (.own (s.heap.objs.size+1))) (s.heap.objs.size+1) (.ins C s.heap.objs.size [])) {s with heap:=(s.heap.push Gf).push (Ih C s.heap.objs.size)}:=by
 have d:(s.heap.push Gf).get? s.heap.objs.size=some Gf:=Av s.heap rfl;have i:((s.heap.push Gf).push (Ih C s.heap.objs.size)).get? (s.heap.objs.size+1)=some (Ih C s.heap.objs.size):=by
  have:=Av (s.heap.push Gf) (o:=Ih C s.heap.objs.size) rfl
  rwa[Dk] at this
 have h:(s.heap.push Gf).Ns s.heap.objs.size (λ_=>none):=⟨Gf,#[],_,d,rfl,(λe g=>absurd g (by simp)),λ_=>rfl⟩;have j:=I.laid (a:=s.heap.objs.size) (o:=.own (s.heap.objs.size+1)) (h':=s.heap.push Gf) (t':=s.toks) (λb u q=>Ad _ q) (Au _) ⟨_,d⟩;refine j.laid (a:=s.heap.objs.size+1) (o:=.ins C s.heap.objs.size []) (t':=s.toks) (λb u q=>Ad _ q) (Nat.le_of_eq (Dk _ _)) ?_;have c:s.heap.objs.size≠s.heap.objs.size+1:=Bg (Kq _);refine⟨by rw[cL c,cN],Dg _,c,i,λ_=>none,(Heap.Ns1.of_empty h).at λo q=>Ad _ q,λ_=>True.intro,λy f=>absurd rfl f⟩
theorem lX{prog:Bb}{w:Rl}{env:Env}{e:Rk}{f:Rg}{pos:Pos}{s:Af}{Q:Rc->Af->Prop}(b:Ce e f env (eval e env)=eval e env)(h:Rh (Rj prog w) A (eval e env) (λo a=>Rh (Rj prog w) A (getAttr o f true) Q E a) E s):Rh (Rj prog w) A (eval (.Attribute e f pos) env) Q E s:=
 Attribute_any_ h (by rw[arm_eval_Attribute,b])
end
def sFld(K:Al)(ta tv:TE)(f:Rg):TS:=λD σ H=>tv σ H λy H1=>ta σ H1 λx H2=>∃a C dx fs,x=.ref a/\H2 a=some (.ins C dx fs)/\Cls K C/\ZC K C f/\fs.length<1000∧
 D.nx σ (upd H2 a (.ins C dx (UA f y fs)))
section
variable{X:Cx}{o e value:Rk}{f:Rg}{pos ay db:Pos}{ta tv:TE}
theorem Ve(j:PE X o ta)(g:PE X value tv)(i:Er value (some (.Attribute o f ay)) pos.line X.env=pure false):PS X (.Assign [.Attribute o f ay] value pos) (sFld X.K ta tv f):=by intro aa s σ H D I h;refine plainObj_wpAny_Assign_Attribute (ZB (g aa s σ H _ I h) λu s1 ⟨y,H1,r,b,q⟩=>ZB (j aa s1 σ H1 _ r q) λe s2 ⟨x,H2,p,d,a,C,dx,fs,ex,k,c,n,l,q2⟩=>?_) i;subst ex;obtain rfl:e=Bi a:=d;exact EK p k c n l b λt m=>⟨σ,_,m,q2⟩
end
section
variable{X:Cx}{aa:List (Rf×Ro)}{σ:St}{H:Hp}{s:Af}{A:Cn}{E:Rc->Af->Prop}{Q:Rc->Af->Prop}{c:Rc}{b:Bool}
inductive NC(K:Al)(H:Hp):V->Rc->Prop where
 |non:NC K H .non (.type "NoneType")
 |bl (x:Bool):NC K H (.bl x) (.type "bool")
 |int (i:Int):NC K H (.int i) (.type "int")
 |str (x:Rg):NC K H (.str x) (.type "str")
 |flt (x:UInt64):NC K H (.flt x) (.type "float")
 |lst {a:Rf} {xs:List V} (e:H a=some (.lst xs)):NC K H (.ref a) (.type "list")
 |frz {a:Rf} {o:Ro} {xs:List V} (e:H a=some (.frz o (.lst xs))):NC K H (.ref a) (.type "list")
 |tup {a:Rf} {xs:List V} (e:H a=some (.tup xs)):NC K H (.ref a) (.type "tuple")
 |dK {a:Rf} {kvs:List (aG×V)} (e:H a=some (.dK kvs)):NC K H (.ref a) (.type "dict")
 |dT {a:Rf} {kvs:List (List aG×V)} (e:H a=some (.dT kvs)):NC K H (.ref a) (.type "dict")
 |ins {a C dx:Rf} {fs:List (Rg×V)} (e:H a=some (.ins C dx fs)) (cl:Cls K C) (ha:Ic K (.ref C) "__class__"=some (some (.builtin "object.__class__")))
   (hn:W.specialIn K (.builtin "object.__class__") "__get__"=some (some (.builtin "getset_descriptor.__get__"))) (htk:W.takesIn K (.builtin "object.__class__")=some true)
   (hm:W.mroIn K C (.type "object")=some true):NC K H (.ref a) (.ref C)
theorem RV{x:V}{u t:Rc}(I:cA X aa σ H s)(d:bR x u)(ty:NC X.K H x t)(e:W.kitOne X.K t c=some b)(h:∀tk,Q (.bool b) {s with toks:=tk}):Rh (Rj X.prog X.w) A (call (.builtin "isinstance") [u,c]) Q E s:=by
 cases ty with
 |non=>cases (show u=Value.none from d);exact Fp W.kitx_none I.kIn True.intro e (λz=>nomatch z) h
 |bl y=>cases (show u=Lk y from d);exact Fp W.kitx_bool I.kIn True.intro e (λz=>nomatch z) h
 |int i=>obtain⟨t,q⟩:=(show∃t,u=Me i t from d);cases q;exact Fp W.kitx_int I.kIn True.intro e (λz=>nomatch z) h
 |str y=>obtain⟨t,q⟩:=(show∃t,u=Mf y t from d);cases q;exact Fp W.kitx_str I.kIn True.intro e (λz=>nomatch z) h
 |flt y=>obtain⟨t,q⟩:=(show∃t,u=Oi y t from d);cases q;exact Fp W.kitx_float I.kIn True.intro e (λz=>nomatch z) h
 | @lst a xs f=>
  cases (show u=Bi a from d);obtain⟨_,_,n,_,h1⟩:=(show ZY X.prog X.w H s.heap a (.lst xs) from I.hok a _ f);exact Fp Lv I.kIn ⟨_,h1,rfl⟩ e (λz=>nomatch z) h
 | @frz a j xs f=>
  cases (show u=Bi a from d);obtain⟨_,_,_,n,_,h1⟩:=(show ZY X.prog X.w H s.heap a (.frz j (.lst xs)) from I.hok a _ f);exact Fp Lv I.kIn ⟨_,h1,rfl⟩ e (λz=>nomatch z) h
 | @tup a xs f=>
  cases (show u=Bi a from d);obtain⟨_,_,_,p⟩:=(show ZY X.prog X.w H s.heap a (.tup xs) from I.hok a _ f);obtain⟨o,h1,h2,_⟩:=p;exact Fp W.kitx_tuple I.kIn ⟨o,h1,h2⟩ e (λz=>nomatch z) h
 | @dK a kvs f=>
  cases (show u=Bi a from d);obtain⟨_,_,vs,_,p⟩:=(show ZY X.prog X.w H s.heap a (.dK kvs) from I.hok a _ f);obtain⟨o,es,r,h1,h2,_⟩:=p;exact Fp W.kitx_dict I.kIn ⟨o,h1,h2.1⟩ e (λz=>nomatch z) h
 | @dT a kvs f=>
  cases (show u=Bi a from d);obtain⟨_,_,xs,_,o,es,r,h1,h2,_⟩:=(show ZY X.prog X.w H s.heap a (.dT kvs) from I.hok a _ f);exact Fp W.kitx_dict I.kIn ⟨o,h1,h2.1⟩ e (λz=>nomatch z) h
 | @ins a C dx fs f cl m k g l=>
  cases (show u=Bi a from d);obtain⟨mA,O,_⟩:=A6 I.hok f;obtain⟨od,J,_⟩:=O.look;exact Fp (W.kitx_own (cl.get _) cl.hd m k g l) I.kIn J e (λz=>nomatch z) h
end
structure ZD(k:Nat)(A:Cn):Prop where
 hd:A.handled=none
 dp:A.depth+3*k+5<recursionLimit
 un:A.units+16*k+200<cLine
theorem ZD.mono{j k:Nat}{A:Cn}(r:ZD k A)(h:j<=k):ZD j A:=⟨r.hd,by have:=r.dp;lia,by have:=r.un;lia⟩
theorem ZD.deeper{k:Nat}{A:Cn}(r:ZD (k+1) A)(env:Env):ZD k (A.deeper env):=
 ⟨r.hd,by have:=r.dp;show A.depth+1+3*k+5<_;lia,by have:=r.un;show A.units+3+16*k+200<_;lia⟩
theorem DM{A:Cn}{C:Rf}{us:List Rc}{a:List (Rg×Rc)}:(A.under (.builtin "type.__call__" ⟨.ref C::us,a⟩)).depth=A.depth+1:=by
 first|rfl|simp[Nl,Code.weight,Code.isCreation,Code.isGuard,Code.isCaller,Code.frames,No,guardIds]
theorem DN{A:Cn}{C:Rf}{us:List Rc}{a:List (Rg×Rc)}:(A.under (.builtin "type.__call__" ⟨.ref C::us,a⟩)).units=A.units+1:=by
 first|rfl|simp[Nl,Code.cUnits,Code.frames,No]
theorem ZD.make{k:Nat}{A:Cn}(r:ZD (k+1) A)(C:Rf)(us:List Rc)(a:List (Rg×Rc)):ZD k (A.under (.builtin "type.__call__" ⟨.ref C::us,a⟩)):=
 ⟨r.hd,by have:=r.dp;rw[DM];lia,by have:=r.un;rw[DN];lia⟩
theorem ZD.depth{k:Nat}{A:Cn}(r:ZD k A):A.depth<recursionLimit:=by have:=r.dp;lia
theorem ZD.units{k:Nat}{A:Cn}(r:ZD k A):A.units+64<cLine:=by have:=r.un;lia
def KZ:TA:=λ_ H Q=>Q [] H
def KC(ta:TE)(a:TA):TA:=λσ H Q=>ta σ H λx H1=>a σ H1 λxs H2=>Q (x::xs) H2
section
variable{X:Cx}{e:Rk}{es:List Rk}{te:TE}{t:TA}{pos:Pos}
theorem ZE:PA X [] KZ:=λ_ _ _ _ H Q I h=>Hu ⟨[],H,I,.nil,h⟩
theorem bC(c:PE X e te)(b:PA X es t)(a:Ae (e::es) X.env=(false,eval e X.env)::Ae es X.env:=by rfl):PA X (e::es) (KC te t):=by intro pos aa s σ H Q I h;rw[a];show Rh _ _ (spliced ((false,eval e X.env)::Dx pos (Ae es X.env))) _ _ s;refine Gd (ZB (c aa s σ H _ I h) λu s1 ⟨x,H1,f,r1,q1⟩=>?_);exact ZB (b pos aa s1 σ H1 _ f q1) λus s2 ⟨xs,H2,d,r2,q2⟩=>⟨x::xs,H2,d,.cons r1 r2,q2⟩
def tTup(t:TA):TE:=λσ H Q=>t σ H λxs H1=>xs.length<=sizeLine/\∀p,H1 p=none->Q (.ref p) (upd H1 p (.tup xs))
def tLst(t:TA):TE:=λσ H Q=>t σ H λxs H1=>xs.length<=sizeLine/\∀p,H1 p=none->Q (.ref p) (upd H1 p (.lst xs))
theorem Sz{x1}(h:PA X es t):PE X (.Tuple es x1 pos) (tTup t):=by intro aa s σ H Q I c;refine wpAny_Tuple_spliced (ZB (h pos aa s σ H _ I c) λus s1 ⟨xs,H1,a,r,z,q⟩=>⟨by rw[<-r.length];exact z,?_⟩);have d:H1 s1.heap.objs.size=none:=a.hok.fresh (Au _);refine⟨.ref s1.heap.objs.size,upd H1 s1.heap.objs.size (.tup xs),a.laid (t':=s1.toks) (λb u e=>Ad _ e) (Au _) ?_,rfl,q _ d⟩;exact⟨z,us,r,⟨_,Av _ rfl,rfl,_,rfl⟩⟩
theorem DY(h:PA X es t):PE X (.List es pos) (tLst t):=by intro aa s σ H Q I c;refine wpAny_List_spliced (ZB (h pos aa s σ H _ I c) λus s1 ⟨xs,H1,a,r,z,q⟩=>⟨by rw[<-r.length];exact z,?_⟩);have d:H1 s1.heap.objs.size=none:=a.hok.fresh (Au _);refine⟨.ref s1.heap.objs.size,upd H1 s1.heap.objs.size (.lst xs),a.laid (t':=s1.toks) (λb u e=>Ad _ e) (Au _) ?_,rfl,q _ d⟩;exact⟨z,us,0,r,Av _ rfl⟩
end
abbrev Sp:=List V->Hp->VK->XK->Prop
abbrev CXT:=List Env->Hp->Af->XK->Rc->Af->Prop
structure CS(P:Bb)(w:Rl)(K:Al)(mg:Rg->Option Rc)(base:Rn)(A:Cn)(outer:List Env)(s:Af)(H:Hp):Prop where
 frames:A.frames=some outer
 mod:Mod K mg base
 bs:∀b o,base.get? b=some o->s.heap.get? b=some o/\H b=none
 bsz:base.objs.size<=s.heap.objs.size
 funs:s.heap.FunFrames base outer
 frf:∀b∈frs outer,H b=none
 hok:RL P w H s.heap
 bare:Kx s.gens
def CE(outer:List Env)(P:Bb)(w:Rl)(H:Hp)(s:Af)(Q:VK)(u:Rc)(s':Af):Prop:=
 ∃v H',s'.os=s.os/\Kx s'.gens/\Un (frs outer) [] H H' s.heap s'.heap/\RL P w H' s'.heap/\bR v u/\Q v H'
def CR(CX:CXT)(outer:List Env)(P:Bb)(w:Rl)(H:Hp)(s:Af)(Q:VK)(E:XK)(r:Result)(s':Af):Prop:=
 match r with
 |.ok (.ret u)=>CE outer P w H s Q u s'
 |.ok _=>False
 |.error e=>CX outer H s E e s'
structure bO(P:Bb)(w:Rl)(K:Al)(mg:Rg->Option Rc)(base:Rn)(CX:CXT)(k:Nat)(f:Rf)(fd:Ds)(ps:List Rg)(sp:Sp):Prop where
 len:∀vs H Q E,sp vs H Q E->vs.length=ps.length
 run:∀(A:Cn) (outer:List Env) (s:Af) (H:Hp) (args:Args) (us:List Rc) (vs:List V) (Q:VK) (E:XK),ZD k A->CS P w K mg base A outer s H->Op s fd args (ps.zip us)->bS vs us->sp vs H Q E->
  Kh (Rj P w) A (.call (.ref f) args) (CR CX outer P w H s Q E) s
theorem CS.make{P:Bb}{w:Rl}{K:Al}{mg:Rg->Option Rc}{base:Rn}{A:Cn}{outer:List Env}{s:Af}{H:Hp}(e:CS P w K mg base A outer s H)(C:Rf)(us:List Rc)(a:List (Rg×Rc)):CS P w K mg base (A.under (.builtin "type.__call__" ⟨.ref C::us,a⟩)) outer s H:=⟨by first|exact e.frames|(simpa[Nl,Code.envs,No,pushEnvs] using e.frames),e.mod,e.bs,e.bsz,e.funs,e.frf,e.hok,e.bare⟩
section
variable{X:Cx}{aa:List (Rf×Ro)}{σ:St}{H:Hp}{s s':Af}
theorem cA.env0(I:cA X aa σ H s):CS X.prog X.w X.K X.mg X.base X.A X.stack s H:=
 ⟨I.ok.frames,I.ok.mod,I.bs,Em I.ok.bsz I.sz,I.stack,I.stkFree,I.hok,I.bare⟩
theorem cA.after{Q:VK}{u:Rc}(I:cA X aa σ H s)(h:CE X.stack X.prog X.w H s Q u s'):EP X aa σ Q u s':=by obtain⟨v,H',os,a,un,e,r,q⟩:=h;obtain⟨f,g,d,t,c⟩:=s';obtain rfl:c=s.os:=os;exact⟨v,H',I.call (h':=f) (g':=g) (d':=d) (t':=t) (ch:=[]) un e a (λb z=>absurd z (by simp)),r,q⟩
end
def Sf(sp:Sp)(dvs:List V)(E:XK)(t:TA):TE:=λσ H Q=>t σ H λvs H1=>sp (vs++dvs) H1 Q E
def Zq(C:Rf)(sp:Sp)(dvs:List V)(E:XK)(t:TA):TE:=λσ H Q=>t σ H λvs H1=>∀x dx,H1 x=none->H1 dx=none->dx≠x->
 sp (.ref x::(vs++dvs)) (upd (upd H1 dx (.own x)) x (.ins C dx [])) (λv H2=>v=.non/\Q (.ref x) H2) E
def WI(K:Al)(fd:Ds)(ps:List Rg)(ds:List Rc):Prop:=
 ∀(s:Af) (us:List Rc),K.In s.heap->(us++ds).length=ps.length->Op s fd ⟨us,[]⟩ (ps.zip (us++ds))
theorem WI.all{K:Al}{fd:Ds}{ps:List Rg}(h:∀us:List Rc,us.length=ps.length->bindArgs fd ⟨us,[]⟩=pure (ps.zip us)):WI K fd ps []:=λs us _ hl=>by rw[Bp] at hl⊢;exact .of_eq (h us hl)
def N9(CX:CXT)(X:Cx)(E:XK):Prop:=∀(aa:List (Rf×Ro)) (σ:St) (H:Hp) (s:Af) (e:Rc) (s':Af),cA X aa σ H s->CX X.stack H s E e s'->X.xe e s'
section
variable{X:Cx}{CX:CXT}{k:Nat}{f C:Rf}{fd:Ds}{ps:List Rg}{sp:Sp}{dvs:List V}{ds:List Rc}{E:XK}{x m:Rg}{p pos ag:Pos}{e o:Rk}{es:List Rk}{ta:TE}{t:TA}
theorem D8{aa:List (Rf×Ro)}{σ:St}{H:Hp}{s:Af}{Q:VK}{us:List Rc}{vs:List V}(F:bO X.prog X.w X.K X.mg X.base CX k f fd ps sp)(c:ZD k X.A)(d:WI X.K fd ps ds)(hd:bS dvs ds)(b:N9 CX X E)(I:cA X aa σ H s)(r:bS vs us)(h:sp (vs++dvs) H Q E):Rh (Rj X.prog X.w) X.A (call (.ref f) us) (EP X aa σ Q) X.xe s:=by
 have r2:bS (vs++dvs) (us++ds):=r.append hd;have hl:(us++ds).length=ps.length:=by rw[<-r2.length];exact F.len _ _ _ _ h
 refine wpAny_call (La (F.run X.A X.stack s H ⟨us,[]⟩ (us++ds) (vs++dvs) Q E c I.env0 (d s us I.kIn hl) r2 h) λr s' a=>?_);cases r with
 |error e=>exact b aa σ H s e s' I a
 |ok g=>
  cases g with
  |ret u=>exact I.after a
  |next=>exact Ez a
  |brk=>exact Ez a
  |cont=>exact Ez a
theorem BN(F:bO X.prog X.w X.K X.mg X.base CX k f fd ps sp)(g:ZD k X.A)(j:Gl X x)(i:X.mg x=some (.ref f))(hk:Eu X.K (.ref f)=true)(m:WI X.K fd ps ds)(hd:bS dvs ds)(d:N9 CX X E)(n:PA X (e::es) t)(b:(x==("__debug__":Rg))=false:=by decide)(l:Ae (e::es) X.env=(false,eval e X.env)::Ae es X.env:=by rfl)(a:(Dx pos (Ae es X.env)).any (·.1)=false:=by rfl):PE X (.Call (.Name x p) (e::es) [] pos) (Sf sp dvs E t):=by intro aa s σ H Q I h;refine Ej (HS I j i ?_ b);refine Np (h₀:=X.base) I.ok.mod.kin hk (ZB (n pos aa s σ H _ I h) λus s1 ⟨vs,H1,c,r,q⟩=>⟨c.kIn,?_⟩) l a;exact D8 F g m hd d c r q
structure Mk(K:Al)(C f:Rf):Prop where
 makes:Kz K C=true
 init:Ic K (.ref C) "__init__"=some (some (.ref f))
 fn:W.isFn K (.ref f)=true
 kp:Eu K (.ref C)=true
theorem hX{aa:List (Rf×Ro)}{σ:St}{H:Hp}{s:Af}{Q:VK}{us:List Rc}{vs:List V}(M:Mk X.K C f)(F:bO X.prog X.w X.K X.mg X.base CX k f fd ps sp)(i:ZD (k+1) X.A)(j:WI X.K fd ps ds)(hd:bS dvs ds)(g:N9 CX X E)(I:cA X aa σ H s)(r:bS vs us)(h:∀x dx,H x=none->H dx=none->dx≠x->sp (.ref x::(vs++dvs)) (upd (upd H dx (.own x)) x (.ins C dx [])) (λv H2=>v=.non/\Q (.ref x) H2) E):Rh (Rj X.prog X.w) X.A (call (.ref C) us) (EP X aa σ Q) X.xe s:=by
 have c:=h (s.heap.objs.size+1) s.heap.objs.size (I.hok.fresh (Gs _)) (I.hok.fresh (Au _)) (Bg (Kq _));have b:=cA.made (C:=C) I;have r2:bS (V.ref (s.heap.objs.size+1)::(vs++dvs)) (Bi (s.heap.objs.size+1)::(us++ds)):=.cons rfl (r.append hd);have hl:(Bi (s.heap.objs.size+1)::us++ds).length=ps.length:=by have e:=r2.length;rw[F.len _ _ _ _ c] at e;exact e.symm
 refine wpAny_call (Wl (f:=f) I.kIn M.makes M.init (beq_iff_eq.mp M.fn) (La (F.run _ X.stack _ _ ⟨Bi (s.heap.objs.size+1)::us,[]⟩ (Bi (s.heap.objs.size+1)::(us++ds)) _ _ E (i.make C us [])
  (b.env0.make C us []) (j _ (Bi (s.heap.objs.size+1)::us) b.kIn hl) r2 c) λr s' a=>?_))
 cases r with
 |error e=>exact g aa σ _ _ e s' b a
 |ok l=>
  cases l with
  |ret u=>
   obtain⟨v,H',n,d,m,q3⟩:=b.after a;subst m;exact⟨d,⟨V.ref (s.heap.objs.size+1),H',n,rfl,q3⟩⟩
  |next=>exact Ez a
  |brk=>exact Ez a
  |cont=>exact Ez a
theorem kN(M:Mk X.K C f)(F:bO X.prog X.w X.K X.mg X.base CX k f fd ps sp)(c:ZD (k+1) X.A)(e:Gl X x)(d:X.mg x=some (.ref C))(g:WI X.K fd ps ds)(hd:bS dvs ds)(b:N9 CX X E)(a:(x==("__debug__":Rg))=false:=by decide):PE X (.Call (.Name x p) [] [] pos) (Zq C sp dvs E KZ):=by intro aa s σ H Q I h;refine Ej (HS I e d ?_ a);exact W.callWith_K0 I.kIn M.kp (hX (us:=[]) M F c g hd b I .nil h)
end
structure cM(N P:List Rg)(sc:Rt):Prop where
 kind:sc.kind=.function
 co:sc.isCoroutine=false
 gen:sc.isGenerator=false
 nd:N.Nodup
 pre:N.take P.length=P
 par:∀x∈P,sc.names.lookup x=some .local∨sc.names.lookup x=some .cell
 nofree:∀y∈sc.names,y.2≠ .free
theorem JA{kindOf:Rg->Option Rs}{x:Rg}:∀{binds:List (Rg×Rc)} {m:Rg->Option Rc},(∀v,(x,v)∉binds)->bindL kindOf binds m x=m x
 |[],_,_=>rfl
 | (n,v) :: r,m,h => by
  unfold bindL;rw[JA λw hw=>h w (Ar _ hw)];split
  ·have : x ≠ n := by rintro rfl;exact h v Ay
   simp[this]
  ·rfl
theorem IW{kindOf:Rg->Option Rs}{x:Rg}:∀{binds:List (Rg×Rc)} {m:Rg->Option Rc},(∀v,(x,v)∉binds)->bindC kindOf binds m x=m x
 |[],_,_=>rfl
 | (n,v) :: r,m,h => by
  unfold bindC;rw[IW λw hw=>h w (Ar _ hw)];split
  ·rfl
  ·have : x ≠ n := by rintro rfl;exact h v Ay
   simp[this]
theorem IZ{kindOf:Rg->Option Rs}{x:Rg}{v:Rc}:∀{P:List Rg} {vs:List Rc} {i:Nat} {m:Rg->Option Rc},P.Nodup->P[i]?=some x->vs[i]?=some v->kindOf x=some .local->bindL kindOf (P.zip vs) m x=some v
 |[],_,_,_,_,h,_,_=>by simp at h
 |_::_,[],_,_,_,_,h,_=>by simp at h
 |p::P,w::vs,0,m,a,h1,h2,hk=>by simp at h1 h2;subst h1;subst h2;show bindL kindOf ((p,w)::P.zip vs) m p=_;unfold bindL;rw[JA λv b=>(Cv.mp a).1 (Lb b).1,if_pos hk];simp
 |p::P,w::vs,i+1,m,a,h1,h2,hk=>by show bindL kindOf ((p,w)::P.zip vs) m x=_;unfold bindL;exact IZ (i:=i) (Cv.mp a).2 (by simpa using h1) (by simpa using h2) hk
theorem IV{kindOf:Rg->Option Rs}{x:Rg}{v:Rc}:∀{P:List Rg} {vs:List Rc} {i:Nat} {m:Rg->Option Rc},P.Nodup->P[i]?=some x->vs[i]?=some v->kindOf x≠some .local->bindC kindOf (P.zip vs) m x=some v
 |[],_,_,_,_,h,_,_=>by simp at h
 |_::_,[],_,_,_,_,h,_=>by simp at h
 |p::P,w::vs,0,m,a,h1,h2,hk=>by simp at h1 h2;subst h1;subst h2;show bindC kindOf ((p,w)::P.zip vs) m p=_;unfold bindC;rw[IW λv b=>(Cv.mp a).1 (Lb b).1,if_neg hk];simp
 |p::P,w::vs,i+1,m,a,h1,h2,hk=>by show bindC kindOf ((p,w)::P.zip vs) m x=_;unfold bindC;exact IV (i:=i) (Cv.mp a).2 (by simpa using h1) (by simpa using h2) hk
noncomputable def start(N:List Rg)(vs:List V):St:=vs.map some++Bn (N.length - vs.length) none
noncomputable def KS(CX:CXT)(P:Bb)(w:Rl)(K:Al)(mg:Rg->Option Rc)(base:Rn)(N:List Rg)(a:Rg)(scope:Rt)(f:Rf)(c:Rc)(A:Cn)(outer:List Env)(s:Af)(H:Hp)(E:XK):Cx where
 prog:=P
 w:=w
 K:=K
 mg:=mg
 base:=base
 A:=A.deeper (Js a scope s.heap.objs.size f c)
 N:=N
 s₀:=s
 H₀:=H
 env:=Js a scope s.heap.objs.size f c
 outer:=outer
 stack:=Js a scope s.heap.objs.size f c::outer
 ex:=[]
 calm:=true
 fn:=λ_=>true
 pn:=[]
 xe:=λe s'=>Rh (Rj P w) (A.deeper (Js a scope s.heap.objs.size f c)) (leaving (Js a scope s.heap.objs.size f c) e) (λ_ b=>CX outer H s E e b) (λd b=>CX outer H s E d b) s'
theorem E7{a:Rt}{n:Nat}{x:Rg}(h:a.names.lookup x=some .cell):∃c,(Rr n a.names []).lookup x=some c:=by have q:=Nw a.names n [] (.inl h);exact Option.isSome_iff_exists.mp q
theorem Xv{CX:CXT}{P:Bb}{w:Rl}{K:Al}{mg:Rg->Option Rc}{base:Rn}{N ps:List Rg}{d:Rg}{scope:Rt}{f:Rf}{t:Rc}{A:Cn}{outer:List Env}{s s1:Af}{H:Hp}{E:XK}{us:List Rc}{vs:List V}(S:cM N ps scope)(hd:A.handled=none)(g:CS P w K mg base A outer s H)(hl:vs.length=ps.length)(r:bS vs us)(x:InCallC s s.heap.objs.size (bindL (Js d scope s.heap.objs.size f t).kindOf (ps.zip us) λ_=>none) (Rr (s.heap.objs.size+1) scope.names []) (bindC (Js d scope s.heap.objs.size f t).kindOf (ps.zip us) λ_=>none) s1):cA (KS CX P w K mg base N d scope f t A outer s H E) [] (start N vs) H s1:=by
 have D:ps.length<=N.length:=by have:=congrArg List.length S.pre;rw[Cw] at this;lia
 obtain⟨h1,tk,rfl,hk⟩:=x.done;have j:∀b:Rf,b∉(KS CX P w K mg base N d scope f t A outer s H E).ex:=λb z=>absurd (show b∈([]:List Rf) from z) (by simp);refine⟨⟨g.mod,S.kind,rfl,rfl,Au _,λy z c h1 h2=>?_,λy l=>?_,λy c _ h=>?_,λ_=>hd,Around.frames_deeper g.frames,.inr ⟨rfl,rfl⟩,λb z=>absurd z (j b),g.bs,g.bsz,λb _ _=>j b,λb z=>absurd z (j b),g.funs,g.frf⟩,rfl,g.bare,Un.kept hk,⟨_,x.toInCall.ns,λi y v h1 h2 G=>?_⟩,λy c h=>⟨_,x.cell y c h⟩,g.hok.fresh (Au _),λy c h=>?_,λp o=>absurd (show p∈([]:List (Rf×Ro)) from o) (by simp),g.hok.kept hk,?_⟩
 ·exact name_of_addr x.apart (Ct h1) (Ct h2)
 ·have l:scope.names.lookup y=some .cell∨scope.names.lookup y=some .free:=l
  rcases l with l|l
  ·exact E7 l
  ·exact absurd rfl (S.nofree _ (Ct l))
 ·exact Nk (x.above y c (Ct h))
 ·have hi:i<vs.length:=by
   unfold start at h2;by_cases hi:i<vs.length
   ·exact hi
   ·rw [Ba (by simpa using hi)] at h2
    rw[Ea] at h2;split at h2<;>cases h2
  have F:vs[i]?=some v:=by
   unfold start at h2;rw[Ai (by simpa using hi),Dc] at h2;cases e:vs[i]? with
   |none=>rw[e] at h2;cases h2
   |some a=>rw[e] at h2;cases h2;rfl
  obtain⟨u,B,C⟩:=r.get F;have o:ps[i]?=some y:=by rw[<-S.pre,Df (by lia)];exact h1
  have m:ps.Nodup:=by rw[<-S.pre];exact S.nd.sublist (List.take_sublist _ _)
  refine⟨u,C,?_⟩;rcases S.par y (Cp o) with k|k
  ·exact .inl ⟨k,IZ m o B k⟩
  ·obtain⟨c,e⟩:=E7 (n:=s.heap.objs.size+1) k
   refine .inr ⟨.inl k,c,e,?_⟩;have q:=x.cell y c e;rw[IV m o B (by show scope.names.lookup y≠_;rw[k];decide)] at q;exact q
 ·exact g.hok.fresh (Nk (x.above y c (Ct h)))
 ·unfold start
  show _=N.length;rw[Ao,Aq,Lc];lia
theorem Tx{CX:CXT}{P:Bb}{w:Rl}{K:Al}{mg:Rg->Option Rc}{base:Rn}{k:Nat}{f:Rf}{name a:Rg}{d:Arguments}{body:List Rq}{scope:Rt}{D kV doc C c ct M:Rc}{F od:Option Rf}{m:Array (Option Rc)}{N ps:List Rg}{sp:Sp}(O:K.lookup f=some ⟨M,od,.func (Hm name a d body scope D kV doc C F c ct),m⟩)(B:Iq K c a=true)(S:cM N ps scope)(len:∀vs H Q E,sp vs H Q E->vs.length=ps.length)(bo:∀(A:Cn) (outer:List Env) (s:Af) (H:Hp) (vs:List V) (Q:VK) (E:XK),ZD k (A.deeper (Js a scope s.heap.objs.size f c))->sp vs H Q E->∃t,PF (KS CX P w K mg base N a scope f c A outer s H E) body t/\t {nx:=λ_ H'=>Q .non H',rt:=Q} (start N vs) H):bO P w K mg base CX (k+1) f (Hm name a d body scope D kV doc C F c ct) ps sp:=by
 refine⟨len,λA outer s H args us vs Q E z j Y r i=>?_⟩;have hl:=len _ _ _ _ i;have G:K.In s.heap:=j.mod.kin.keeps λb o e=>(j.bs b o e).1;have p:s.heap.NoLimit:=j.mod.nolimit.keeps λb o e=>(j.bs b o e).1;have L:∀y∈ps.zip us,scope.names.lookup y.1=some .local∨(scope.names.lookup y.1=some .cell/\((Rr (s.heap.objs.size+1) scope.names []).lookup y.1).isSome=true):=λ⟨n,v⟩ R=>by
  rcases S.par n (Lb R).1 with q|q
  ·exact .inl q
  ·exact .inr ⟨q,Nw _ _ _ (.inl q)⟩
 refine codeAny_call_function z.depth (G _ _ O) rfl S.co S.gen rfl (W.codeRec_of G B) (Y _ _ _ _ ?_);refine wpAny_newFunctionEnv_cells S.kind L λenv X s1 x=>?_;subst X;refine⟨p.keeps x.toInCall.keep,codeAny_func ?_⟩;obtain⟨t,T,U⟩:=bo A outer s H vs Q E (z.deeper _) i;have I:cA (KS CX P w K mg base N a scope f c A outer s H E) [] (start N vs) H s1:=Xv S z.hd j hl r x;refine Cs (T [] s1 (start N vs) H _ I U) (λZ s' h=>?_) λe s' h=>h;have fin:∀{g:St} {H':Hp} {v:V} {u:Rc},cA (KS CX P w K mg base N a scope f c A outer s H E) [] g H' s'->bR v u->Q v H'->CE outer P w H s Q u s':=
  λ{g H' v u} J l q=>⟨v,H',J.os,J.bare,J.base,J.hok,l,q⟩
 cases Z with
 |ret u=>
  obtain⟨v,g,H',J,l,q⟩:=h;exact fin J l q
 |next=>
  obtain⟨g,H',J,q⟩:=h;exact fin (v:=V.non) (u:=Value.none) J rfl q
 |brk=>
  obtain⟨_,_,_,q⟩:=h;exact Ez q
 |cont=>
  obtain⟨_,_,_,q⟩:=h;exact Ez q
section
variable{X:Cx}{x:Rg}{p pos:Pos}{e:Rk}{es:List Rk}{t:TA}{id T:String}{r:List V->Hp->VK->Prop}
def tCB(r:List V->Hp->VK->Prop)(t:TA):TE:=λσ H Q=>t σ H λvs H1=>r vs H1 Q
theorem LY(hc:ZW X (.builtin id) r)(g:Gl X x)(f:X.mg x=none)(c:Bm x=some (.builtin id))(j:PA X (e::es) t)(d:x≠ "__name__":=by decide)(b:(x==("__debug__":Rg))=false:=by decide)(i:Ae (e::es) X.env=(false,eval e X.env)::Ae es X.env:=by rfl)(a:(Dx pos (Ae es X.env)).any (·.1)=false:=by rfl):PE X (.Call (.Name x p) (e::es) [] pos) (tCB r t):=by intro aa s σ H Q I h;refine Ej (QV I g f c ?_ d b);exact PyProof.Rows.callWith_builtin1 (ZB (j pos aa s σ H _ I h) λus s1 ⟨vs,H1,k,r1,q1⟩=>hc aa s1 σ H1 vs us Q k r1 q1) i a
theorem UQ(hc:ZW X (.type T) r)(g:Gl X x)(f:X.mg x=none)(c:Bm x=some (.type T))(j:PA X (e::es) t)(d:x≠ "__name__":=by decide)(b:(x==("__debug__":Rg))=false:=by decide)(i:Ae (e::es) X.env=(false,eval e X.env)::Ae es X.env:=by rfl)(a:(Dx pos (Ae es X.env)).any (·.1)=false:=by rfl):PE X (.Call (.Name x p) (e::es) [] pos) (tCB r t):=by intro aa s σ H Q I h;refine Ej (QV I g f c ?_ d b);exact Dz (ZB (j pos aa s σ H _ I h) λus s1 ⟨vs,H1,k,r1,q1⟩=>hc aa s1 σ H1 vs us Q k r1 q1) i a
end
end L2
namespace HT
open PySem PyProof.Rows
section
variable{prog:Bb}{w:Rl}{A:Cn}{E:Rc->Af->Prop}{s:Af}
theorem zGY{t b:Rf}{vs ws:List Rc}{Q:Rc->Af->Prop}(m:IsTup s.heap t vs.toArray)(o:IsTup s.heap b ws.toArray)(k:vs≠[])(h1:ws=[]->Q (.ref t) s)(h2:ws≠[]->Q (.ref s.heap.objs.size) {s with heap:=s.heap.push {cls:=.type "tuple",data:=.seq (vs++ws).toArray}})(hsz:vs.length+ws.length<=sizeLine):Rh (Rj prog w) A (Fk .Add (.ref t) (.ref b)) Q E s:=by
 obtain⟨⟨cls,l,data,i⟩,h,hc,n,hd⟩:=id m;obtain⟨⟨p,g,data2,c⟩,a,f,j,d⟩:=id o;simp only at hc hd f d;subst hc hd f d;have e:vs.toArray++ws.toArray=(vs++ws).toArray:=by simp
 by_cases hw:ws=[]
 ·exact Ld ⟨_,h,rfl⟩ ⟨_,a,rfl⟩ Kr Ml Hn He (Gv _ _)
   (tuple_addW1 t b vs.toArray ws.toArray n j l g i c (by simpa using k) (by simp[hw])) ⟨h,a,h1 hw⟩
 ·refine Ld ⟨_,h,rfl⟩ ⟨_,a,rfl⟩ Kr Ml Hn He (Gv _ _)
   (tuple_addW2 t b vs.toArray ws.toArray n j l g i c (by simpa using k) (by simpa using hw) (by rw[An,An];exact hsz)) ⟨h,a,?_⟩
  rw[e];exact h2 hw
noncomputable def sIx(n d:Nat):Option Int->Nat
 |none=>d
 |some v=>if v<0 then(v+(n:Int)).toNat else min v.toNat n
theorem GH(n d:Nat):sIx n d none=d:=rfl
theorem CA(n d k:Nat):sIx n d (some (k:Int))=min k n:=by show(if(k:Int)<0 then((k:Int)+(n:Int)).toNat else min (k:Int).toNat n)=min k n;rw[if_neg (by lia),Hv]
theorem rB(n d:Nat)(hd:d<=n)(o:Option Int):sIx n d o<=n:=by
 cases o with
 |none=>exact hd
 |some v=>
  show(if v<0 then(v+(n:Int)).toNat else min v.toNat n)<=n;by_cases a:v<0
  ·rw[if_pos a];lia
  ·rw[if_neg a];exact Nat.min_le_right _ _
theorem AL(v:Int)(n d:Nat):(if v<0 then max (v+(n:Int)) 0 else min v (n:Int))=((sIx n d (some v):Nat):Int):=by
 show(if v<0 then max (v+(n:Int)) 0 else min v (n:Int))=(((if v<0 then(v+(n:Int)).toNat else min v.toNat n):Nat):Int);by_cases a:v<0
 ·simp only[if_pos a];lia
 ·simp only[if_neg a];lia
theorem CZ(lo hi:Option Int)(n:Nat):Gp lo hi 1 (n:Int)=(((sIx n 0 lo:Nat):Int),((sIx n n hi:Nat):Int)):=by
 have h1:¬((1:Int)<0):=by lia
 unfold Gp;simp only[h1,if_false];refine Prod.ext ?_ ?_
 ·cases lo with
  |none=>rfl
  |some v=>exact AL v n 0
 ·cases hi with
  |none=>rfl
  |some v=>exact AL v n n
theorem D2(i j:Nat):Fh (i:Int) (j:Int) 1=j - i:=by
 unfold Fh;have h1:(1:Int)>0:=by lia
 simp only[h1,if_true,Int.ediv_one];split<;>lia
theorem MJ{v:Rc}{o:Option Int}{Q:Option Int->Af->Prop}(p:IsPart v o)(h:Q o s):Rh (Rj prog w) A (Og v) Q E s:=by
 cases p with
 |none=>exact slicePart_none h
 |int i t=>exact slicePart_int h
theorem UT{e:Rf}{d c:Rc}{lo hi:Option Int}{n:Nat}{Q:Int×Int×Nat->Af->Prop}(f:s.heap.IsSliceOf e d c .none)(pl:IsPart d lo)(pu:IsPart c hi)(h:Q (((sIx n 0 lo:Nat):Int),1,sIx n n hi - sIx n 0 lo) s):Rh (Rj prog w) A (Jo (.ref e) (pure (n:Int))) Q E s:=by obtain⟨os,a,g,b⟩:=id f;unfold Jo Pq;refine Ac (Ac (Eb a b (x:=d) rfl (Ac (Eb a b (x:=c) rfl (Ac (Eb a b (x:=.none) rfl (Am ?_)))))));refine Ac (slicePart_none ?_);show Rh _ _ (if((1:Int)==0)=true then _ else _) _ _ s;rw[if_neg (by decide)];refine Ac (MJ pl (Ac (MJ pu (Ac (Am ?_)))));show Rh _ _ (match Gp lo hi 1 (n:Int) with|(lo,hi)=>pure (lo,(1:Int),Fh lo hi 1)) _ _ s;rw[CZ lo hi n];show Rh _ _ (pure (((sIx n 0 lo:Nat):Int),(1:Int),Fh ((sIx n 0 lo:Nat):Int) ((sIx n n hi:Nat):Int) 1)) _ _ s;rw[D2];exact Am h
theorem fT(xs:Array Rc)(i k:Nat):((Bh k).filterMap λ(m:Nat)=>xs[((i:Int)+(m:Int)*1).toNat]?).toArray=((xs.toList.drop i).take k).toArray:=by
 have e:(λ(m:Nat)=>xs[((i:Int)+(m:Int)*1).toNat]?)=λm=>xs[i+m]? :=by
  funext m;have:((i:Int)+(m:Int)*1).toNat=i+m:=by lia
  rw[this]
 rw[e];have:=pick_run xs i k
 rw[List.filterMap_map] at this;have a:((λx=>xs[x]?)∘λx=>i+x)=λm=>xs[i+m]? :=rfl;rw[a] at this;rw[this]
theorem P0{t c:Rf}{items:Array Rc}{j i:Rc}{lo hi:Option Int}{Q:Rc->Af->Prop}(a:IsTup s.heap t items)(k:s.heap.IsSliceOf c j i .none)(pl:IsPart j lo)(pu:IsPart i hi)(hw:¬(sIx items.size 0 lo=0/\sIx items.size items.size hi=items.size))(h:Q (.ref s.heap.objs.size) {s with heap:=s.heap.push {cls:=.type "tuple",data:=.seq ((items.toList.drop (sIx items.size 0 lo)).take (sIx items.size items.size hi - sIx items.size 0 lo)).toArray}})(hsz:items.size<=sizeLine):Rh (Rj prog w) A (Ki (.ref t) (.ref c)) Q E s:=by
 have b:sizeOk (.seq ((items.toList.drop (sIx items.size 0 lo)).take (sIx items.size items.size hi - sIx items.size 0 lo)).toArray):=by show((items.toList.drop (sIx items.size 0 lo)).take (sIx items.size items.size hi - sIx items.size 0 lo)).toArray.size<=sizeLine;rw[An,Cw,Nx,Gr];lia
 have n:sIx items.size items.size hi<=items.size:=rB _ _ (Au _) hi;obtain⟨os,d,f,l⟩:=id k;have g:s.TypeIs (.ref c) "slice":=⟨os,d,f⟩;unfold Ki;try with_reducible refine Cb ?_
 first|refine Ac (Am ?_)|skip
 refine Ac (Jz a.typeIs (by decide) ?_);refine Ac (Dn (name:=Bj "__getitem__") a.typeIs Ee
  (Ed Ee a.typeIs entry_tuple_getitem ?_ (args_tuple_getitem _ _)))
 show Rh _ _ (Jp (.ref t)>>=_) _ _ s;refine Ac (tupleItemsOf_ a ?_);refine Ac (Jt g ?_);rw[if_pos (by decide)];refine Ac (UT k pl pu ?_);have e:¬((((sIx items.size 0 lo:Nat):Int)==0&&(1:Int)==1&&(sIx items.size items.size hi - sIx items.size 0 lo)==items.size)=true):=by intro q;rw[Ah,Ah] at q;have q1:((sIx items.size 0 lo:Nat):Int)=0:=eq_of_beq q.1.1;have q2:sIx items.size items.size hi - sIx items.size 0 lo=items.size:=eq_of_beq q.2;exact hw ⟨by lia,by lia⟩
 show Rh _ _ (if(((sIx items.size 0 lo:Nat):Int)==0&&(1:Int)==1&&(sIx items.size items.size hi - sIx items.size 0 lo)==items.size)=true then _ else _) _ _ s;rw[if_neg e,fT]
 first
  |exact Ac (m:=Fq _) (Dm (Am ⟨_,rfl,Am h⟩) b)
  |exact Ac (m:=Fq _) (Dm (Ac (Am (Am ⟨_,rfl,Am h⟩))) b)
  |exact Ac (Ac (m:=Fq _) (Dm (Am (Am ⟨_,rfl,Am h⟩)) b))
  |exact Ac (Ac (m:=Fq _) (Dm (Am ⟨_,rfl,Am h⟩) b))
end
end HT
namespace L2
open PySem PySem.Spec PyProof.Rows
abbrev TO:=St->Hp->(Option Int->Hp->Prop)->Prop
def PO(X:Cx)(e:Option Rk)(t:TO):Prop:=
 ∀(aa:List (Rf×Ro)) (s:Af) (σ:St) (H:Hp) (Q:Option Int->Hp->Prop),cA X aa σ H s->t σ H Q->
  Rh (Rj X.prog X.w) X.A (evalPart e X.env) (λu s'=>∃o H',cA X aa σ H' s'/\IsPart u o/\Q o H') X.xe s
def nC:TO:=λ_ H Q=>Q none H
def nK(t:TE):TO:=λσ H Q=>t σ H λx H1=>∃i,x=.int i/\Q (some i) H1
section
variable{X:Cx}{e:Rk}{te:TE}{lo hi:Option Rk}{tl th:TO}{pos p2:Pos}
theorem zFU:PO X none nC:=by intro aa s σ H Q I h;rw[evalPart_none];exact Am ⟨none,H,I,.none,h⟩
theorem mV(h:PE X e te):PO X (some e) (nK te):=by intro aa s σ H Q I hw;rw[evalPart_some];refine ZB (h aa s σ H _ I hw) λu s1 ⟨x,H1,a,r1,q1⟩=>?_;obtain⟨i,rfl,q⟩:=q1;obtain⟨t,rfl⟩:=r1;exact⟨some i,H1,a,.int i t,q⟩
def SlR(X:Cx)(r:V->Option Int->Option Int->Hp->VK->Prop):Prop:=
 ∀(aa:List (Rf×Ro)) (s:Af) (σ:St) (H:Hp) (x:V) (v b a:Rc) (lo hi:Option Int) (c:Rf) (Q:VK),cA X aa σ H s->bR x v->s.heap.IsSliceOf c b a .none->IsPart b lo->IsPart a hi->r x lo hi H Q->
  ∃T id,typeLookup (.type T) "__getitem__"=pure (some (.builtin id))/\s.TypeIs v T/\Rh (Rj X.prog X.w) X.A (Ki v (.ref c)) (EP X aa σ Q) X.xe s
theorem SlR.or{r r':V->Option Int->Option Int->Hp->VK->Prop}(h:SlR X r)(h':SlR X r'):SlR X (λx lo hi H Q=>r x lo hi H Q∨r' x lo hi H Q):=by
 intro aa s σ H x v b a lo hi c Q I d e pl pu q;rcases q with q|q
 ·exact h aa s σ H x v b a lo hi c Q I d e pl pu q
 ·exact h' aa s σ H x v b a lo hi c Q I d e pl pu q
def tSl(r:V->Option Int->Option Int->Hp->VK->Prop)(te:TE)(tl th:TO):TE:=λσ H Q=>te σ H λx H1=>tl σ H1 λl H2=>th σ H2 λu a=>r x l u a Q
theorem jC{r:V->Option Int->Option Int->Hp->VK->Prop}(j:SlR X r)(m:PE X e te)(hl:PO X lo tl)(g:PO X hi th):PE X (.Subscript e (.Slice lo hi none p2) pos) (tSl r te tl th):=by intro aa s σ H Q I h;refine Subscript_ (ZB (m aa s σ H _ I h) λv s1 ⟨x,H1,y,r1,q1⟩=>?_);refine wpAny_Slice (ZB (hl aa s1 σ H1 _ y q1) λd s2 ⟨l,H2,t,pl,q2⟩=>ZB (g aa s2 σ H2 _ t q2) λc a ⟨u,f,p,pu,q3⟩=>?_);rw[evalPart_none];refine Am ?_;have o:cA X aa σ f {a with heap:=a.heap.push {cls:=.type "slice",data:=.fields #[d,c,.none]}}:=p.kept (t':=a.toks) λb z q=>Ad _ q;obtain⟨T,id,n,i,k⟩:=j aa {a with heap:=a.heap.push {cls:=.type "slice",data:=.fields #[d,c,.none]}} σ f x v d c l u a.heap.objs.size Q o r1 (Ra ..) pl pu q3;show Rh (Rj X.prog X.w) X.A (subscriptTail e (.Slice lo hi none p2) v (.ref a.heap.objs.size)) (EP X aa σ Q) X.xe {a with heap:=a.heap.push {cls:=.type "slice",data:=.fields #[d,c,.none]}};exact Qg (ops:=[.ref a.heap.objs.size,v]) i n k (by with_unfolding_all rfl)
noncomputable def E9(xs:List V)(lo hi:Option Int):List V:=(xs.drop (HT.sIx xs.length 0 lo)).take (HT.sIx xs.length xs.length hi - HT.sIx xs.length 0 lo)
theorem NO(xs:List V)(lo hi:Option Int):(E9 xs lo hi).length<=xs.length:=by unfold E9;rw[Cw,Nx];lia
def rSlT(K:Al):V->Option Int->Option Int->Hp->VK->Prop:=λx lo hi H Q=>∃a xs,x=.ref a/\UV K H a xs∧
 ¬(HT.sIx xs.length 0 lo=0/\HT.sIx xs.length xs.length hi=xs.length)/\∀p,H p=none->Q (.ref p) (upd H p (.tup (E9 xs lo hi)))
theorem zIH:SlR X (rSlT X.K):=by
 intro aa s σ H x v j i lo hi k Q I e g pl pu h;obtain⟨a,xs,rfl,f,hw,q⟩:=h;cases e;obtain⟨its,r,d,hz⟩:=I.tuple f;have c:its.toArray.size=xs.length:=by rw[An];exact r.length.symm
 refine⟨"tuple",_,PyProof.Rows.slot_tuple_getitem.lookup,d.typeIs,?_⟩;refine HT.P0 d g pl pu (by rw[c];exact hw) ?_ (by rw[c];exact hz);rw[c];refine⟨.ref s.heap.objs.size,_,I.laid (t':=s.toks) (o:=.tup (E9 xs lo hi)) (λb l q=>Ad _ q) (Au _) ?_,rfl,q _ (I.hok.fresh (Au _))⟩;exact⟨Em (NO xs lo hi) hz,_,(r.drop (HT.sIx xs.length 0 lo)).take (HT.sIx xs.length xs.length hi - HT.sIx xs.length 0 lo),Jy _ _⟩
theorem bS.nil_iff{xs:List V}{us:List Rc}(r:bS xs us):us=[]↔xs=[]:=by
 cases r with
 |nil=>simp
 |cons _ _=>simp
end
noncomputable def JQ(n:Nat)(i:Int):Option Nat:=if 0<=i then(if i<n then some i.toNat else none) else if -(n:Int)<=i then some (i+n).toNat else none
noncomputable def WJ{α:Type}(xs:List α)(i:Int):Option α:=(JQ xs.length i).bind λj=>xs[j]?
theorem A7{n:Nat}{i:Int}{j:Nat}(h:JQ n i=some j):seqIndex? i n=some j/\j<n/\ -(n:Int)<=i/\i<n:=by
 unfold JQ at h;by_cases a:0<=i
 ·rw[if_pos a] at h
  by_cases h1:i<n
  ·rw[if_pos h1] at h
   have e:i.toNat=j:=Bv h;exact⟨by rw[Oq a h1,e],by lia,by lia,h1⟩
  ·rw[if_neg h1] at h;cases h
 ·rw[if_neg a] at h
  by_cases h1: -(n:Int)<=i
  ·rw[if_pos h1] at h
   have e:(i+n).toNat=j:=Bv h;exact⟨by rw[Nq (by lia) h1,e],by lia,h1,by lia⟩
  ·rw[if_neg h1] at h;cases h
theorem G5{α:Type}{xs:List α}{i:Int}{v:α}(h:WJ xs i=some v):∃j,seqIndex? i xs.length=some j/\xs[j]?=some v/\j<xs.length/\ -(xs.length:Int)<=i/\i<xs.length:=by
 unfold WJ at h;cases e:JQ xs.length i with
 |none=>rw[e] at h;cases h
 |some j=>
  rw[e] at h;obtain⟨h1,h2,b,a⟩:=A7 e;exact⟨j,h1,h,h2,b,a⟩
theorem PM{α:Type}(xs:List α)(v:α):WJ (xs++[v]) (-1)=some v:=by
 have hl:(xs++[v]).length=xs.length+1:=by simp
 have e:JQ (xs++[v]).length (-1)=some xs.length:=by unfold JQ;rw[hl,if_neg (by decide),if_pos (by lia)];congr 1;lia
 unfold WJ;rw[e];show(xs++[v])[xs.length]?=some v;simp
def G1(b:Rk):Prop:=∀o i,subscripted b false o i=operate [o,i] (Ki o i)
def IxR(X:Cx)(r:R2):Prop:=
 ∀(value a:Rk) (aa:List (Rf×Ro)) (s:Af) (σ:St) (H:Hp) (x y:V) (v u:Rc) (Q:VK),cA X aa σ H s->bR x v->bR y u->r x y H Q->
  subscripted a false v u=operate [v,u] (Ki v u)->Rh (Rj X.prog X.w) X.A (subscriptTail value a v u) (EP X aa σ Q) X.xe s
def MtR(X:Cx)(id:String)(r:V->List V->Hp->VK->Prop):Prop:=
 ∀(aa:List (Rf×Ro)) (s:Af) (σ:St) (H:Hp) (x:V) (xs:List V) (v:Rc) (us:List Rc) (Q:VK),cA X aa σ H s->bR x v->bS xs us->r x xs H Q->
  Rh (Rj X.prog X.w) X.A (call (.builtin id) (v::us)) (EP X aa σ Q) X.xe s
section
variable{X:Cx}{a b:Rk}{ta tb:TE}{pos:Pos}
theorem IxR.or{r r':R2}(h:IxR X r)(h':IxR X r'):IxR X (λx y H Q=>r x y H Q∨r' x y H Q):=by
 intro value a aa s σ H x y v u Q I c b q d;rcases q with q|q
 ·exact h value a aa s σ H x y v u Q I c b q d
 ·exact h' value a aa s σ H x y v u Q I c b q d
theorem oP{r:R2}(f:IxR X r)(i:PE X a ta)(g:PE X b tb)(e:G1 b):PE X (.Subscript a b pos) (tOp r ta tb):=by intro aa s σ H Q I h;exact Subscript_ (binT i g I h λv u s2 x y H2 j d c q=>f a b aa s2 σ H2 x y v u Q j d c q (e _ _))
def rIxL(K:Al):R2:=λx y H Q=>∃p xs i v,x=.ref p/\y=.int i/\WT K H p xs/\WJ xs i=some v/\Q v H
def rIxT(K:Al):R2:=λx y H Q=>∃p xs i v,x=.ref p/\y=.int i/\UV K H p xs/\WJ xs i=some v/\Q v H
def rIxS:R2:=λx y H Q=>∃z i c,x=.str z/\y=.int i/\z.length<=sizeLine/\WJ z.cps.toList i=some c/\Q (.str ⟨#[c]⟩) H
theorem zGO:IxR X (rIxL X.K):=by
 intro value a aa s σ H x y v u Q I k g h d;obtain⟨p,xs,i,z,rfl,rfl,l,m,q⟩:=h;cases k;obtain⟨t,rfl⟩:=g;obtain⟨its,r,pl,hz⟩:=I.list l;obtain⟨j,h1,h2,B,o,n⟩:=G5 m;obtain⟨w,f,b⟩:=r.get h2;have hl:=r.length;have A:=OR;have fin:EP X aa σ Q w s:=⟨z,H,I,b,q⟩;by_cases e:0<=i
 ·have c:i.toNat=j:=by rw[Oq e n] at h1;exact Bv h1
  exact item_listR pl.isList e (by lia) (by rw[c];simpa using f) fin d
 ·have c:(i+(its.toArray.size:Int)).toNat=j:=by rw[Nq (by lia) o] at h1;rw[An,<- hl];exact Bv h1
  exact Ku (x:=w) pl.isList.typeIs slot_list_getitem.lookup
   (wpAny_getItem_list_neg (Q:=λr s'=>r=w/\EP X aa σ Q r s') pl.isList (by lia) (by rw[An]<;>lia) (by lia) (by rw[c];simpa using f) ⟨rfl,fin⟩) d
theorem zLK:IxR X (rIxT X.K):=by
 intro value a aa s σ H x y v u Q I d c h e;obtain⟨p,xs,i,z,rfl,rfl,f,g,q⟩:=h;cases d;obtain⟨t,rfl⟩:=c;obtain⟨its,r,pl,hz⟩:=I.tuple f;obtain⟨j,h1,h2,o,n,m⟩:=G5 g;obtain⟨w,k,b⟩:=r.get h2;have hl:=r.length;have l:=OR;have fin:EP X aa σ Q w s:=⟨z,H,I,b,q⟩;exact Ku (x:=w) pl.typeIs slot_tuple_getitem.lookup
  (getItem_tuple (j:=j) (Q:=λr s'=>r=w/\EP X aa σ Q r s') pl (by lia) (by lia) (by rw[An,<-hl];exact h1) (by simpa using k) ⟨rfl,fin⟩) e
theorem nM:IxR X rIxS:=by
 intro value a aa s σ H x y v u Q I d b h e;obtain⟨z,i,c,rfl,rfl,hz,f,q⟩:=h;obtain⟨t,rfl⟩:=d;obtain⟨t',rfl⟩:=b;obtain⟨j,h1,h2,o,k,g⟩:=G5 f;have hl:z.cps.toList.length=z.length:=by simp[Str.length]
 rw[hl] at h1 k g;have n:=OR;exact Qg (typeIs_str s z t) slot_str_getitem.lookup (getItem_str (c:=c) (by have m:decide (i< -(2 ^ 63:Int))=false:=decide_eq_false (by lia);have l:decide (i≥2 ^ 63)=false:=decide_eq_false (by lia);rw[m,l,Bool.or_false]) (by rw[h1];simpa using h2) ⟨.str ⟨#[c]⟩,H,I.tok _,⟨_,rfl⟩,q⟩) e
def rIx(K:Al):R2:=λx y H Q=>rIxL K x y H Q∨rIxT K x y H Q∨rIxS x y H Q
theorem zLM:IxR X (rIx X.K):=zGO.or (zLK.or nM)
theorem DO(its:List Rc)(n j:Nat)(u:Rc):Ef (·.setIfInBounds j u) {cls:=.type "list",data:=.seq its.toArray n}={cls:=.type "list",data:=.seq (its.set j u).toArray n}:=by simp[Ef]
theorem cA.lst{aa:List (Rf×Ro)}{σ:St}{H:Hp}{s:Af}{p:Rf}{xs:List V}(I:cA X aa σ H s)(h:H p=some (.lst xs)):∃(its:List Rc) (n:Nat),bS xs its/\s.heap.get? p=some {cls:=.type "list",data:=.seq its.toArray n}/\xs.length<=sizeLine:=by obtain⟨z,its,n,r,e⟩:=I.hok p _ h;exact⟨its,n,r,e,z⟩
theorem cA.lstUpd{aa:List (Rf×Ro)}{σ:St}{H:Hp}{s:Af}{p:Rf}{xs ys:List V}{its its':List Rc}{n a:Nat}{f:Ro->Ro}(I:cA X aa σ H s)(h:H p=some (.lst xs))(d:s.heap.get? p=some {cls:=.type "list",data:=.seq its.toArray n})(c:f {cls:=.type "list",data:=.seq its.toArray n}={cls:=.type "list",data:=.seq its'.toArray a})(r:bS ys its')(hz:ys.length<=sizeLine)(t:Nat):cA X aa σ (upd H p (.lst ys)) {s with heap:=s.heap.update p f,toks:=t}:=by
 have e:(s.heap.update p f).get? p=some {cls:=.type "list",data:=.seq its'.toArray a}:=by rw[Le f d (by rw[c]<;>rfl),c]
 refine I.write (x:=p) (e:=p) (by rw[h];trivial) (.inl rfl) (λb u g q=>(De _ _ (Cq g)).trans q) ⟨_,e⟩ ?_;exact⟨hz,its',a,r,e⟩
def iI:V->V->V->Hp->(Hp->Prop)->Prop:=λo i v H Q=>∃p xs k j,o=.ref p/\i=.int k/\H p=some (.lst xs)/\JQ xs.length k=some j/\Q (upd H p (.lst (xs.set j v)))
theorem rC:PSet X iI:=by
 intro aa s σ H o i v x y u Q I l m g h;obtain⟨p,xs,k,j,rfl,rfl,b,w,q⟩:=h;cases l;obtain⟨t,rfl⟩:=m;obtain⟨its,n,r,a,hz⟩:=I.lst b;obtain⟨h1,h2,d,c⟩:=A7 w;have hl:=r.length;have z:=OR;have f:cA X aa σ (upd H p (.lst (xs.set j v))) {s with heap:=s.heap.update p (Ef (·.setIfInBounds j u))}:=
  I.lstUpd b a (DO its n j u) (r.set g j) (by rw[Ca];exact hz) s.toks
 by_cases e:0<=k
 ·have hk:k.toNat=j:=by rw[Oq e c] at h1;exact Bv h1
  exact W.ki_setAt a e (by lia) (by rw[An,<-hl];exact c) (by rw[hk];exact⟨_,f,q⟩)
 ·have hk:(k+(its.toArray.size:Int)).toNat=j:=by rw[Nq (by lia) d] at h1;rw[An,<- hl];exact Bv h1
  exact W.ki_setBack a (by lia) (by rw[An,<-hl];exact d) (by lia) (by rw[hk];exact⟨_,f,q⟩)
theorem II(lo hi:Option Int)(n:Nat):(Hw lo hi none n).1=((HT.sIx n 0 lo:Nat):Int)/\(Hw lo hi none n).2.1=((HT.sIx n n hi:Nat):Int)/\(Hw lo hi none n).2.2=1:=by
 refine⟨?_,?_,rfl⟩
 ·cases lo with
  |none=>simp[Hw,HT.sIx]
  |some i=>
   simp only[Hw,HT.sIx,Ny,show(1:Int)>0 by decide,if_true];by_cases h:i<0
   ·simp only[h,if_true]<;>lia
   ·simp only[h,if_false]<;>lia
 ·cases hi with
  |none=>simp[Hw,HT.sIx]
  |some i=>
   simp only[Hw,HT.sIx,Ny,show(1:Int)>0 by decide,if_true];by_cases h:i<0
   ·simp only[h,if_true]<;>lia
   ·simp only[h,if_false]<;>lia
theorem KW(its:List Rc)(lo hi:Option Int):slicePick its.toArray lo hi none=((its.drop (HT.sIx its.length 0 lo)).take (HT.sIx its.length its.length hi - HT.sIx its.length 0 lo)).toArray:=by obtain⟨h1,h2,a⟩:=II lo hi its.toArray.size;unfold slicePick;rw[h1,h2,a];simp only[sliceRange_one,pick_run,An]<;>rfl
def rSlL(K:Al):V->Option Int->Option Int->Hp->VK->Prop:=λx lo hi H Q=>∃a xs,x=.ref a/\WT K H a xs/\∀p,H p=none->Q (.ref p) (upd H p (.lst (E9 xs lo hi)))
theorem Yh:SlR X (rSlL X.K):=by intro aa s σ H x v j i lo hi k Q I d f pl pu h;obtain⟨a,xs,rfl,e,q⟩:=h;cases d;obtain⟨its,r,c,hz⟩:=I.list e;have g:=r.length;refine⟨"list",_,slot_list_getitem.lookup,c.isList.typeIs,?_⟩;refine wpAny_getItem_list_slice c.isList f pl pu .none (by simp) ?_ (by rw[An]<;>lia);rw[KW,<-g];refine⟨.ref s.heap.objs.size,_,I.laid (t':=s.toks) (o:=.lst (E9 xs lo hi)) (λb l q=>Ad _ q) (Au _) ?_,rfl,q _ (I.hok.fresh (Au _))⟩;exact⟨Em (NO xs lo hi) hz,_,0,(r.drop (HT.sIx xs.length 0 lo)).take (HT.sIx xs.length xs.length hi - HT.sIx xs.length 0 lo),Av _ rfl⟩
theorem G8:ZW X (.builtin "len") (λxs H Q=>∃p ys,xs=[.ref p]/\(WT X.K H p ys∨UV X.K H p ys)/\Q (.int ys.length) H):=by
 intro aa s σ H xs us Q I r h;obtain⟨p,ys,rfl,a,q⟩:=h;obtain⟨u,rfl,c⟩:=S8 r;cases c;have d:=OR;rcases a with a|a
 ·obtain⟨its,r',pl,hz⟩:=I.list a
  have b:=r'.length;exact Calls.call_len_list pl.isList (by simp only[An]<;>lia) ⟨.int ys.length,H,I.tok _,⟨s.toks+1,by rw[An,b]⟩,q⟩
 ·obtain⟨its,r',pl,hz⟩:=I.tuple a
  have b:=r'.length;exact len_tuple pl (by simp only[An]<;>lia) ⟨.int ys.length,H,I.tok _,⟨s.toks+1,by rw[An,b]⟩,q⟩
theorem G9:ZW X (.builtin "len") (λxs H Q=>∃z,xs=[.str z]/\z.length<=sizeLine/\Q (.int z.length) H):=by intro aa s σ H xs us Q I r h;obtain⟨z,rfl,hz,q⟩:=h;obtain⟨u,rfl,t,rfl⟩:=S8 r;have a:=OR;exact len_str (by lia) ⟨.int z.length,H,I.tok _,⟨_,rfl⟩,q⟩
theorem ZW.or{f:Rc}{r r':List V->Hp->VK->Prop}(h:ZW X f r)(h':ZW X f r'):ZW X f (λxs H Q=>r xs H Q∨r' xs H Q):=by
 intro aa s σ H xs us Q I rs q;rcases q with q|q
 ·exact h aa s σ H xs us Q I rs q
 ·exact h' aa s σ H xs us Q I rs q
theorem HA:ZW X (.type "list") (λxs H Q=>∃p ys,xs=[.ref p]/\(WT X.K H p ys∨UV X.K H p ys)/\∀l,H l=none->Q (.ref l) (upd H l (.lst ys))):=by
 intro aa s σ H xs us Q I r h;obtain⟨p,ys,rfl,c,q⟩:=h;obtain⟨u,rfl,f⟩:=S8 r;cases f;have fin:∀(its:List Rc),bS ys its->ys.length<=sizeLine->∀(h':Rn) (a:Nat),(∀b o',s.heap.get? b=some o'->h'.get? b=some o')->
   h'.get? s.heap.objs.size=some {cls:=.type "list",dict:=none,data:=.seq its.toArray a,slots:= #[]}->EP X aa σ Q (.ref s.heap.objs.size) {s with heap:=h'}:=λits r' hz h' a kp e=>
  ⟨.ref s.heap.objs.size,_,I.laid (t':=s.toks) kp (Au _) (show ZY X.prog X.w _ h' _ (.lst ys) from⟨hz,its,a,r',e⟩),rfl,q _ (I.hok.fresh (Au _))⟩
 rcases c with c|c
 ·obtain⟨its,r',pl,hz⟩:=I.list c
  have g:=r'.length;obtain⟨o,d,hc,n,hd⟩:=pl.isList;exact call_list_seq p (.inl rfl) d hc hd (λh' a kp e=>fin its r' hz h' a kp e) (by simp only[An]<;>lia)
 ·obtain⟨its,r',pl,hz⟩:=I.tuple c
  have g:=r'.length;obtain⟨o,d,hc,n,hd⟩:=pl;exact call_list_seq p (.inr rfl) d hc hd (λh' a kp e=>fin its r' hz h' a kp e) (by simp only[An]<;>lia)
theorem KR:ZW X (.type "tuple") (λxs H Q=>∃p ys,xs=[.ref p]/\((WT X.K H p ys/\∀l,H l=none->Q (.ref l) (upd H l (.tup ys)))∨(UV X.K H p ys/\Q (.ref p) H))):=by
 intro aa s σ H xs us Q I r h;obtain⟨p,ys,rfl,h⟩:=h;obtain⟨u,rfl,d⟩:=S8 r;cases d;rcases h with⟨a,q⟩|⟨a,q⟩
 ·obtain⟨its,r',pl,hz⟩:=I.list a
  have g:=r'.length;refine call_tuple_list pl.isList (λh' kp=>?_) (by simp only[An]<;>lia);have c:cA X aa σ H {s with heap:=h'}:=I.kept (t':=s.toks) kp;have f:cA X aa σ (upd H h'.objs.size (.tup ys)) {s with heap:=h'.push {cls:=.type "tuple",data:=.seq its.toArray}}:=
   c.laid (t':=s.toks) (λb o e=>Ad _ e) (Au _) (show ZY X.prog X.w _ _ _ (.tup ys) from⟨hz,its,r',Jy _ _⟩)
  exact⟨.ref h'.objs.size,_,f,rfl,q _ (c.hok.fresh (Au _))⟩
 ·obtain⟨its,r',pl,hz⟩:=I.tuple a
  exact call_tuple_same pl ⟨.ref p,H,I,rfl,q⟩
def tyV(K:Al)(T:String)(x:V)(H:Hp):Prop:=match x with
 |.str _=>T= "str"
 |.int _=>T= "int"
 | .ref p => (T = "list" /\ ∃ xs,WT K H p xs) ∨ (T = "tuple" /\ ∃ o,K.lookup p = some o /\ o.cls = .type "tuple" /\ o.dict = none) ∨
   (T= "dict" /\((∃kvs,H p=some (.dK kvs))∨∃kvs,H p=some (.dT kvs)))∨(T= "set" /\∃S n,H p=some (.set S n))
 |_=>False
theorem kY{aa:List (Rf×Ro)}{σ:St}{H:Hp}{s:Af}{T:String}{x:V}{v:Rc}(I:cA X aa σ H s)(r:bR x v)(ty:tyV X.K T x H):s.TypeIs v T/\∀a,v=.ref a->∃d,s.heap.get? a=some d/\d.dict=none:=by
 cases x with
 |str z=>
  obtain⟨t,rfl⟩:=r;cases (show T= "str" from ty);exact⟨typeIs_str s z t,λ_ e=>nomatch e⟩
 |int i=>
  obtain⟨t,rfl⟩:=r;cases (show T= "int" from ty);exact⟨Pz s i t,λ_ e=>nomatch e⟩
 |ref p=>
  cases r;rcases ty with⟨rfl,xs,f⟩|⟨rfl,o,hk,hc,hd⟩|⟨rfl,hk⟩|⟨rfl,S,n,hk⟩
  ·obtain⟨its,_,pl,_⟩:=I.list f
   refine⟨pl.isList.typeIs,λa e=>?_⟩;cases e;obtain⟨o,n,e,c,hd,_⟩:=pl;exact⟨o,e,hd⟩
  ·refine ⟨⟨o,I.kIn p o hk,hc⟩,λa e => ?_⟩
   cases e;exact⟨o,I.kIn _ o hk,hd⟩
  ·have z: ∃o,s.heap.get? p=some o/\o.ExactDict:=by
    rcases hk with⟨kvs,hk⟩|⟨kvs,hk⟩
    ·obtain⟨_,_,_,_,o,_,_,e,ex,_⟩:=I.hok p _ hk
     exact⟨o,e,ex⟩
    ·obtain⟨_,_,_,_,o,_,_,e,ex,_⟩:=I.hok p _ hk
     exact⟨o,e,ex⟩
   obtain⟨o,e,ex⟩:=z;refine⟨⟨o,e,ex.1⟩,λa b=>?_⟩;cases b;exact⟨o,e,ex.2.1⟩
  ·obtain⟨o,_,_,_,e,ex,_⟩:=I.hok p _ hk
   refine⟨⟨o,e,ex.1⟩,λa b=>?_⟩;cases b;exact⟨o,e,ex.2.1⟩
 |_=>exact Ez ty
def tBM(K:Al)(T:String)(r:V->List V->Hp->VK->Prop)(to:TE)(t:TA):TE:=λσ H Q=>to σ H λx H1=>tyV K T x H1/\t σ H1 λxs H2=>r x xs H2 Q
variable{o e:Rk}{es:List Rk}{to:TE}{t:TA}{name:Rg}{ag af:Pos}{T id:String}{r:V->List V->Hp->VK->Prop}
theorem Xk(pa:PlainAttrs T)(slot:Slot T name id)(a:typeOf (.builtin id)=pure (.type "method_descriptor"))(g:MtR X id r)(f:PE X o to)(i:PA X (e::es) t)(k:Ce o name X.env (eval o X.env)=eval o X.env:=by rfl)(j:((Dx af (Ae (e::es) X.env)).all (λx=> !x.1)&&(Hf af (Es [] X.env)).all (λx=>x.1.isSome)&&decide ((e::es).length+([]:List Gg).length+(if([]:List Gg).isEmpty then 0 else 1)<30))=true:=by rfl)(l:(ag.endLine==af.line)=true:=by rfl)(d:Ae (e::es) X.env=(false,eval e X.env)::Ae es X.env:=by rfl)(m:(Dx af (Ae es X.env)).any (·.1)=false:=by rfl):PE X (.Call (.Attribute o name ag) (e::es) [] af) (tBM X.K T r to t):=by intro aa s σ H Q I h;refine wpAny_Call_method_late k j l rfl (ZB (f aa s σ H _ I h) λv s1 ⟨x,H1,c,r1,ty,q1⟩=>?_);obtain⟨h1,h2⟩:=kY c r1 ty;refine⟨T,id,pa,slot,a,h1,h2,?_⟩;have b:=i af aa s1 σ H1 _ c q1;rw[d] at b⊢;refine Gc (by show(false || (Dx af (Ae es X.env)).any (·.1))=false;rw[m]<;>rfl) (Go ?_);exact ZB b λus s2 ⟨vs,H2,n,r2,q2⟩=>g aa s2 σ H2 x vs v us Q n r1 r2 q2
end
def MtM(X:Cx)(id:String)(r:V->List V->Hp->VK->Prop):Prop:=
 ∀(aa:List (Rf×Ro)) (s:Af) (σ:St) (H:Hp) (x:V) (xs:List V) (v:Rc) (us:List Rc) (Q:VK),cA X aa σ H s->bR x v->bS xs us->r x xs H Q->
  Rh (Rj X.prog X.w) X.A (call (.builtin id) (v::us)) (EP X aa σ Q) X.xe s
theorem bS.one:∀{x:V} {us:List Rc},bS [x] us->∃u,us=[u]/\bR x u
 |_,_,.cons r .nil=>⟨_,rfl,r⟩
theorem bS.eraseIdx:∀{xs:List V} {us:List Rc} (i:Nat),bS xs us->bS (xs.eraseIdx i) (us.eraseIdx i)
 |_,_,_,.nil=>.nil
 |_,_,0,.cons _ t=>t
 |_,_,i+1,.cons r t=>.cons r (bS.eraseIdx i t)
section
variable{X:Cx}{aa:List (Rf×Ro)}{σ:St}{H:Hp}{s:Af}{l b:Rf}{xs ys zs:List V}
theorem cA.lset{its its':List Rc}{n:Nat}{f:Array Rc->Array Rc}{t':Nat}(I:cA X aa σ H s)(g:H l=some (.lst xs))(e:s.heap.get? l=some {cls:=.type "list",data:=.seq its.toArray n})(c:f its.toArray=its'.toArray)(a:bS ys its')(hz:ys.length<=sizeLine):cA X aa σ (upd H l (.lst ys)) {s with heap:=s.heap.update l (Ef f),toks:=t'}:=by have q:=Ks e f;rw[c] at q;refine I.write (x:=l) (e:=l) (by rw[g];exact trivial) (.inl rfl) (λh u d b=>(De s.heap (Ef f) (Cq d)).trans b) ⟨_,q⟩ ?_;exact⟨hz,its',_,a,q⟩
theorem cA.lnew{its:List Rc}{t':Nat}(I:cA X aa σ H s)(a:bS ys its)(hz:ys.length<=sizeLine):cA X aa σ (upd H s.heap.objs.size (.lst ys)) {s with heap:=s.heap.push {cls:=.type "list",data:=.seq its.toArray},toks:=t'}:=
 I.laid (λ_ _ q=>Ad _ q) (Au _) ⟨hz,its,0,a,Av _ rfl⟩
theorem cA.fresh(I:cA X aa σ H s):H s.heap.objs.size=none:=I.hok.fresh (Au _)
theorem cA.lstM(I:cA X aa σ H s)(a:H l=some (.lst xs)):xs.length<=sizeLine/\∃(its:List Rc) (n:Nat),bS xs its/\xs.length=its.length/\s.heap.get? l=some {cls:=.type "list",data:=.seq its.toArray n}:=by obtain⟨z,its,n,r,e⟩:=I.hok l _ a;exact⟨z,its,n,r,r.length,e⟩
theorem We{n:Nat}(h:n<=sizeLine):Fs n=false:=by unfold Fs;exact decide_eq_false (by lia)
end
section
variable{X:Cx}
def BW:V->List V->Hp->VK->Prop:=λx vs H Q=>∃l xs y,x=.ref l/\vs=[y]/\H l=some (.lst xs)/\xs.length<sizeLine/\Q .non (upd H l (.lst (xs++[y])))
theorem aM:MtM X "list.append" BW:=by intro aa s σ H x vs v us Q I b c h;obtain⟨l,xs,y,rfl,rfl,a,hz,q⟩:=h;cases b;obtain⟨u,rfl,d⟩:=c.one;obtain⟨z,its,n,r,hl,e⟩:=I.lstM a;refine Gw Ju ⟨_,e,rfl⟩ Je (Il _ _) (Ka l its.toArray n u (by rw[An];lia)) ⟨e,?_⟩;refine⟨.non,_,I.lset (its':=its++[u]) a e (by simp) (r.append (.cons d .nil)) ?_,rfl,q⟩;rw[Ao,Dh];lia
end
section
variable{prog:Bb}{w:Rl}{A:Cn}{E:Rc->Af->Prop}{s:Af}
set_option maxRecDepth 100000 in
end
section
variable{κ:Type}[DecidableEq κ]
noncomputable def RD(kvs:List (κ×V))(k:κ):Option V:=(kvs.find? λa=>decide (a.1=k)).map (·.2)
noncomputable def WQ(kvs:List (κ×V))(k:κ)(v:V):List (κ×V):=
 if(kvs.any λa=>decide (a.1=k))=true then kvs.map (λa=>if a.1=k then(a.1,v) else a) else kvs++[(k,v)]
theorem QC{p:κ×V}{r:List (κ×V)}{k:κ}(e:p.1=k):RD (p::r) k=some p.2:=by simp[RD,Gh,e]
theorem SZ{p:κ×V}{r:List (κ×V)}{k:κ}(e:¬p.1=k):RD (p::r) k=RD r k:=by simp[RD,Gh,e]
theorem MM(k:κ):∀kvs:List (κ×V),(kvs.any λa=>decide (a.1=k))=(RD kvs k).isSome
 |[]=>rfl
 |p::r=>by
  rw[Gk];by_cases e:p.1=k
  ·simp only[QC e,decide_eq_true e,Bool.true_or,Mm]
  ·rw[SZ e,decide_eq_false e,Qh];exact MM k r
theorem NS(kvs:List (κ×V))(k:κ)(v:V):(WQ kvs k v).length<=kvs.length+1:=by
 unfold WQ;split
 ·rw[Aq];lia
 ·rw[Ao,Ax,Hg];lia
theorem jD{kvs:List (κ×V)}{k:κ}(v:V)(h:RD kvs k=none):WQ kvs k v=kvs++[(k,v)]:=by unfold WQ;rw[MM,h];exact if_neg (by decide)
theorem UK.isSome_eq{o:Option V}{u:Option Rc}(r:UK o u):o.isSome=u.isSome:=by
 cases o with
 |none=>cases u with
  |none=>rfl
  |some _=>exact(show False from r).elim
 |some _=>cases u with
  |none=>exact(show False from r).elim
  |some _=>rfl
theorem UK.getD{o:Option V}{u:Option Rc}{d:V}{d':Rc}(r:UK o u)(a:bR d d'):bR (o.getD d) (u.getD d'):=by
 cases o with
 |none=>cases u with
  |none=>exact a
  |some _=>exact(show False from r).elim
 |some _=>cases u with
  |none=>exact(show False from r).elim
  |some _=>exact r
theorem KV.val{kvs:List (κ×V)}{vs:List (κ×Rc)}(r:KV kvs vs)(k:κ):UK (RD kvs k) (My vs k):=by
 unfold KV at r;induction r with
 |nil=>exact True.intro
 | @cons p q ps qs h t c=>
  obtain⟨h1,h2⟩:=h;by_cases e:p.1=k
  ·have a:q.1=k:=h1.symm.trans e
   have b:My (q::qs) k=some q.2:=by simp[My,Gh,a]
   rw[QC e,b];exact h2
  ·have a : ¬ q.1 = k := λz => e (h1.trans z)
   have b:My (q::qs) k=My qs k:=by simp[My,Gh,a]
   rw[SZ e,b];exact c
theorem KV.any{kvs:List (κ×V)}{vs:List (κ×Rc)}(r:KV kvs vs)(k:κ):(kvs.any λa=>decide (a.1=k))=vs.any λa=>decide (a.1=k):=by
 unfold KV at r;induction r with
 |nil=>rfl
 |cons h t b=>rw[Gk,Gk,b,h.1]
theorem KV.repl{kvs:List (κ×V)}{vs:List (κ×Rc)}(r:KV kvs vs)(k:κ){y:V}{u:Rc}(b:bR y u):KV (kvs.map λa=>if a.1=k then(a.1,y) else a) (vs.map λa=>if a.1=k then(a.1,u) else a):=by
 unfold KV at r⊢;induction r with
 |nil=>exact .nil
 | @cons p q ps qs h t c=>
  rw[As,As];refine .cons ?_ c;obtain⟨h1,h2⟩:=h;by_cases e:p.1=k
  ·rw[if_pos e,if_pos (h1.symm.trans e)];exact⟨h1,b⟩
  ·rw[if_neg e,if_neg (λz=>e (h1.trans z))];exact⟨h1,h2⟩
theorem KV.put{kvs:List (κ×V)}{vs:List (κ×Rc)}(r:KV kvs vs)(k:κ){y:V}{u:Rc}(a:bR y u):KV (WQ kvs k y) (Qp vs k u):=by
 unfold WQ Qp;rw[r.any k];by_cases e:(vs.any λb=>decide (b.1=k))=true
 ·rw[if_pos e,if_pos e];exact r.repl k a
 ·rw[if_neg e,if_neg e];exact Qy r ⟨rfl,a⟩
theorem KV.length{kvs:List (κ×V)}{vs:List (κ×Rc)}(r:KV kvs vs):kvs.length=vs.length:=Mg r
end
theorem JR{P:Bb}{w:Rl}{k:aG}{u:Rc}(r:bR (kV k) u):(aI P w).is k u=true:=by
 cases k with
 |inl i=>obtain⟨t,e⟩:=(show∃t,u=Me i t from r);subst e;exact FS P w i t
 |inr x=>obtain⟨t,e⟩:=(show∃t,u=Mf x t from r);subst e;exact FT P w x t
theorem JP{P:Bb}{w:Rl}:∀{ks:List aG} {us:List Rc},bS (ks.map kV) us->ItemsAre (aI P w) ks us
 |[],_,r=>by rw[Cr] at r;cases r;exact .nil
 |k::ks,_,r=>by
  rw[As] at r;cases r with
  |cons h t=>exact .cons (JR h) (JP t)
abbrev KT(H:Hp):List (List aG×V)->List (List aG×Rf×Rc)->Prop:=Paired λp q=>p.1=q.1/\H q.2.1=some (.tup (p.1.map kV))/\bR p.2 q.2.2
theorem KT.val{H:Hp}{kvs:List (List aG×V)}{xs:List (List aG×Rf×Rc)}(r:KT H kvs xs)(k:List aG):UK (RD kvs k) ((atKey xs k).map (·.2)):=by
 induction r with
 |nil=>exact True.intro
 | @cons p q ps qs h t c=>
  obtain⟨h1,_,h2⟩:=h;by_cases e:p.1=k
  ·have a:q.1=k:=h1.symm.trans e
   have b:atKey (q::qs) k=some q.2:=by simp[atKey,Gh,a]
   rw[QC e,b];exact h2
  ·have a : ¬ q.1 = k := λz => e (h1.trans z)
   have b:atKey (q::qs) k=atKey qs k:=by simp[atKey,Gh,a]
   rw[SZ e,b];exact c
theorem KT.repl{H:Hp}{kvs:List (List aG×V)}{xs:List (List aG×Rf×Rc)}(r:KT H kvs xs)(k:List aG){y:V}{u:Rc}(b:bR y u):KT H (kvs.map λa=>if a.1=k then(a.1,y) else a) (xs.map (putAt k u)):=by
 induction r with
 |nil=>exact .nil
 | @cons p q ps qs h t c=>
  rw[As,As];refine .cons ?_ c;obtain⟨h1,h2,d⟩:=h;unfold putAt;by_cases e:p.1=k
  ·rw[if_pos e,if_pos (h1.symm.trans e)];exact⟨h1,h2,b⟩
  ·rw[if_neg e,if_neg (λz=>e (h1.trans z))];exact⟨h1,h2,d⟩
theorem KT.put{H:Hp}{kvs:List (List aG×V)}{xs:List (List aG×Rf×Rc)}(r:KT H kvs xs)(k:List aG){b:Rf}{y:V}{u:Rc}(d:H b=some (.tup (k.map kV)))(a:bR y u):KT H (WQ kvs k y) (storedH xs k b u):=by
 have e:(kvs.any λc=>decide (c.1=k))=(atKey xs k).isSome:=by rw[MM,(r.val k).isSome_eq,Option.isSome_map]
 unfold WQ storedH;rw[e];by_cases q:(atKey xs k).isSome=true
 ·rw[if_pos q,if_pos q];exact r.repl k a
 ·rw[if_neg q,if_neg q];exact Qy r ⟨rfl,d,a⟩
theorem KT.keeps{H H':Hp}{kvs:List (List aG×V)}{xs:List (List aG×Rf×Rc)}(r:KT H kvs xs)(a:∀b ys,H b=some (.tup ys)->H' b=some (.tup ys)):KT H' kvs xs:=
 Paired.mapP r λ_ _ z=>⟨z.1,a _ _ z.2.1,z.2.2⟩
section
variable{P:Bb}{w:Rl}{H:Hp}{h:Rn}{a:Rf}
theorem Uj{u:HO}(ok:RL P w H h)(e:Rd H a u):ZY P w H h a u:=e.ok ok
theorem JF{kvs:List (aG×V)}(ok:RL P w H h)(e:Rd H a (.dK kvs)):kvs.length<=sizeLine/\(a==Ey)=false/\∃vs,KV kvs vs/\h.DictOf (aI P w) a vs:=
 show ZY P w H h a (.dK kvs) from Uj ok e
theorem nG{kvs:List (aG×V)}(ok:RL P w H h)(e:H a=some (.dK kvs)):kvs.length<=sizeLine/\(a==Ey)=false/\∃vs,KV kvs vs/\h.DictOf (aI P w) a vs:=JF ok (Rd.of e)
theorem LQ{ks:List aG}(ok:RL P w H h)(e:H a=some (.tup (ks.map kV))):(tupleKind (aI P w)).is h ks a:=by obtain⟨_,its,r,o,h1,h2,n,b⟩:=(show ZY P w H h a (.tup (ks.map kV)) from ok a _ e);exact⟨o,its.toArray,n,h1,h2,b,by simpa using JP r⟩
theorem JH{kvs:List (List aG×V)}(ok:RL P w H h)(e:Rd H a (.dT kvs)):kvs.length<=sizeLine/\(a==Ey)=false∧ ∃xs,KT H kvs xs/\h.DictOfH (tupleKind (aI P w)) a xs:=by
 obtain⟨z,y,xs,r,o,es,j,h1,h2,i,g,f⟩:=(show ZY P w H h a (.dT kvs) from Uj ok e);refine⟨z,y,xs,r,o,es,j,h1,h2,i,g,λx b=>?_,f⟩;have all:∀{l:List (List aG×V)} {m:List (List aG×Rf×Rc)},KT H l m->∀x∈m,(tupleKind (aI P w)).is h x.1 x.2.1:=by
  intro l m q;induction q with
  |nil=>intro x b;exact nomatch b
  | @cons p q ps qs c t d=>
   intro x b;rcases Aj.mp b with e|b
   ·subst e
    exact LQ ok (by rw[<-c.1];exact c.2.1)
   ·exact d x b
 exact all r x b
theorem Wp{kvs:List (List aG×V)}(ok:RL P w H h)(e:H a=some (.dT kvs)):kvs.length<=sizeLine/\(a==Ey)=false∧ ∃xs,KT H kvs xs/\h.DictOfH (tupleKind (aI P w)) a xs:=JH ok (Rd.of e)
end
def NZ(H:Hp)(a:Rf)(y:V)(r:Option V):Prop:=
 (∃kvs k,Rd H a (.dK kvs)/\y=kV k/\r=RD kvs k)∨∃kvs k b,Rd H a (.dT kvs)/\y=.ref b/\H b=some (.tup (k.map kV))/\r=RD kvs k
def DPut(H:Hp)(a:Rf)(y v:V)(H':Hp):Prop:=
 (∃kvs k,H a=some (.dK kvs)/\y=kV k/\kvs.length<sizeLine/\H'=upd H a (.dK (WQ kvs k v)))∨
 ∃kvs k b,H a=some (.dT kvs)/\y=.ref b/\H b=some (.tup (k.map kV))/\kvs.length<sizeLine/\H'=upd H a (.dT (WQ kvs k v))
theorem NZ.k{H:Hp}{a:Rf}{kvs:List (aG×V)}{k:aG}(e:H a=some (.dK kvs)):NZ H a (kV k) (RD kvs k):=.inl ⟨kvs,k,Rd.of e,rfl,rfl⟩
theorem DPut.k{H:Hp}{a:Rf}{kvs:List (aG×V)}{k:aG}{v:V}(e:H a=some (.dK kvs))(hl:kvs.length<sizeLine):DPut H a (kV k) v (upd H a (.dK (WQ kvs k v))):=.inl ⟨kvs,k,e,rfl,hl,rfl⟩
section
variable{X:Cx}{aa:List (Rf×Ro)}{σ:St}{H:Hp}{s:Af}{a:Rf}{y v:V}{u r:Rc}{o:Option V}{A:Cn}{E:Rc->Af->Prop}
theorem cA.big(I:cA X aa σ H s):Ey<s.heap.objs.size:=by have h:Ri<s.heap.objs.size:=(I.mod.glob.keeps I.bk).lt;exact Nt (by decide) h
theorem nP{Q:Rc->Af->Prop}(n:A.units+1<cLine)(I:cA X aa σ H s)(g:NZ H a y (some v))(m:bR y u)(h:∀w' s',cA X aa σ H s'->bR v w'->Q w' s'):Rh (Rj X.prog X.w) A (Ki (.ref a) u) Q E s:=by
 rcases g with⟨kvs,k,e,i,l⟩|⟨kvs,k,b,e,i,r,l⟩
 ·subst i
  obtain⟨z,hd,vs,d,j⟩:=JF I.hok e;obtain⟨w',hw,c⟩:=UK.some_of (v:=v) (o:=My vs k) (by rw[l];exact d.val k);exact wpAny_getItem_of (JR m) j.mapOf hw (h w' _ (I.tok _) c)
 ·subst i
  cases (show u=Bi b from m);obtain⟨z,hd,xs,d,j⟩:=JH I.hok e;obtain⟨w',hw,c⟩:=UK.some_of (v:=v) (o:=(atKey xs k).map (·.2)) (by rw[l];exact d.val k);obtain⟨p,q,f⟩:=At.mp hw;refine wpAny_getItem_heap (Hh n) (LQ I.hok r) j q ?_;rw[f];exact h w' _ (I.tok _) c
theorem AN{h':Rn}{t':Nat}{c:HO}(I:cA X aa σ H s)(d:Mut (H a))(f:Fa a s.heap h')(g:∃q,h'.get? a=some q)(new:ZY X.prog X.w (upd H a c) h' a c):cA X aa σ (upd H a c) {s with heap:=h',toks:=t'}:=
 I.write (x:=a) (e:=a) d (.inl rfl) (λb q h z=>(f.2 b h).trans z) g new
theorem Sy{P:Bb}{w:Rl}{H':Hp}{h':Rn}{kvs:List (aG×V)}{vs:List (aG×Rc)}(z:kvs.length<=sizeLine)(hd:(a==Ey)=false)(b:KV kvs vs)(c:h'.DictOf (aI P w) a vs):ZY P w H' h' a (.dK kvs):=⟨z,hd,vs,b,c⟩
theorem fQ{H':Hp}{Q:Unit->Af->Prop}(C:A.units+1<cLine)(I:cA X aa σ H s)(g:DPut H a y v H')(p:bR y u)(t:bR v r)(h:∀s',cA X aa σ H' s'->Q () s'):Rh (Rj X.prog X.w) A (setItem (.ref a) u r) Q E s:=by
 rcases g with⟨kvs,k,e,m,l,n⟩|⟨kvs,k,b,e,m,B,l,n⟩
 ·subst m n
  obtain⟨z,hd,vs,d,o⟩:=nG I.hok e;have hz:vs.length<=sizeLine:=by rw[<-d.length];exact z
  have hl:(WQ kvs k v).length<=sizeLine:=by have:=NS kvs k v;lia
  refine wpAny_setItem_pairs (hsz:=hz) (JR p) o λh' f j=>h _ ?_;have D:∃q,h'.get? a=some q:=let ⟨q,_,_,i,_⟩:=f;⟨q,i⟩
  exact AN I (by rw[e];exact True.intro) j D (Sy hl hd (d.put k t) f)
 ·subst m n
  cases (show u=Bi b from p);obtain⟨z,hd,xs,d,o⟩:=Wp I.hok e;have hz:xs.length<=sizeLine:=by rw[<-Mg d];exact z
  have hl:(WQ kvs k v).length<=sizeLine:=by have:=NS kvs k v;lia
  refine wpAny_setItem_heap (hsz:=hz) (Hh C) (LQ I.hok B) o λh' f j=>h _ ?_;obtain⟨q,es,K,i,h2,J,G,_,F⟩:=f;refine AN I (by rw[e];exact True.intro) j ⟨q,i⟩ ⟨hl,hd,_,(d.put k B t).keeps λc ys x=>?_,q,es,K,i,h2,J,G,F⟩;rw[cL (WK x e (λz=>nomatch z))];exact x
end
theorem FA{X:Cx}{aa:List (Rf×Ro)}{σ:St}{H:Hp}{s:Af}{a:Rf}{y:V}{o:Option V}(I:cA X aa σ H s)(g:NZ H a y o):s.TypeIs (.ref a) "dict":=by
 rcases g with⟨kvs,k,e,_,_⟩|⟨kvs,k,b,e,_,_,_⟩
 ·obtain⟨_,_,vs,_,c⟩:=JF I.hok e
  exact c.typeIs
 ·obtain⟨_,_,xs,_,c⟩:=JH I.hok e
  exact c.typeIs
def dL(td ty tv:TE):TS:=λD σ H=>tv σ H λv H1=>td σ H1 λx H2=>ty σ H2 λy c=>∃a b,x=.ref a/\DPut c a y v b/\D.nx σ b
section
variable{X:Cx}{o i e value:Rk}{pos ay db:Pos}{td ty tv:TE}
theorem Zk(f:X.A.units+1<cLine)(k:PE X o td)(hi:PE X i ty)(e:PE X value tv)(j:Er value (some (.Subscript o i ay)) pos.line X.env=pure false):PS X (.Assign [.Subscript o i ay] value pos) (dL td ty tv):=by intro aa s σ H D I h;refine wpAny_Assign_Subscript (ZB (e aa s σ H _ I h) λr s1 ⟨v,H1,p,d,q1⟩=>ZB (k aa s1 σ H1 _ p q1) λu s2 ⟨x,H2,n,c,q2⟩=>ZB (hi aa s2 σ H2 _ n q2) λz w ⟨y,B,m,b,a,q,ex,g,q3⟩=>?_) j;subst ex;obtain rfl:u=Bi a:=c;exact fQ f m g b d λt l=>⟨σ,q,l,q3⟩
end
theorem mT{P:Bb}{w:Rl}{H:Hp}(h:Rn)(a:Ey<h.objs.size):ZY P w H (h.push {cls:=.type "dict",data:=.dict #[]}) h.objs.size (.dK []):=
 ⟨Dg _,beq_eq_false_iff_ne.mpr (Cq (Bg a)),[],.nil,Ot h⟩
def iZ:TE:=λ_ H Q=>∀p,H p=none->Q (.ref p) (upd H p (.dK []))
section
variable{X:Cx}{pos:Pos}
theorem zDC:PE X (.Dict [] [] pos) iZ:=λaa s σ H Q I h=>
 wpAny_Dict_empty ⟨.ref s.heap.objs.size,_,I.laid (a:=s.heap.objs.size) (o:=.dK []) (t':=s.toks) (λ_ _ q=>Ad _ q) (Au _) (mT s.heap I.big),rfl,h _ (I.hok.fresh (Au _))⟩
end
def LS(kvs more:List (aG×V)):List (aG×V):=more.foldl (λacc a=>WQ acc a.1 a.2) kvs
theorem KV.merge:∀{more:List (aG×V)} {rs:List (aG×Rc)} {kvs:List (aG×V)} {vs:List (aG×Rc)},KV more rs->KV kvs vs->KV (LS kvs more) (merged vs rs):=by
 intro more rs kvs vs r;unfold KV at r;induction r generalizing kvs vs with
 |nil=>intro q;exact q
 | @cons p q ps qs h t b=>
  intro a;have e:KV (WQ kvs p.1 p.2) (Qp vs q.1 q.2):=by
   have:=a.put p.1 h.2
   rw[<-h.1];exact this
  exact b e
structure M1(X:Cx)(o:Rk)(m:Rg)(ag:Pos)(e:Rk)(af:Pos):Prop where
 base:Ce o m X.env (eval o X.env)=eval o X.env
 few:((Dx af (Ae [e] X.env)).all (λx=> !x.1)&&(Hf af (Es [] X.env)).all (λx=>x.1.isSome)
  && decide (([e]:List Rk).length+([]:List Gg).length+(if([]:List Gg).isEmpty then 0 else 1)<30))=true
 line:(ag.endLine==af.line)=true
 trees:Dx af (Ae [e] X.env)=[(false,eval e X.env)]
structure M2(X:Cx)(o:Rk)(m:Rg)(ag:Pos)(e f:Rk)(af:Pos):Prop where
 base:Ce o m X.env (eval o X.env)=eval o X.env
 few:((Dx af (Ae [e,f] X.env)).all (λx=> !x.1)&&(Hf af (Es [] X.env)).all (λx=>x.1.isSome)
  && decide (([e,f]:List Rk).length+([]:List Gg).length+(if([]:List Gg).isEmpty then 0 else 1)<30))=true
 line:(ag.endLine==af.line)=true
 trees:Dx af (Ae [e,f] X.env)=[(false,eval e X.env),(false,eval f X.env)]
def IsD(H:Hp)(a:Rf):Prop:=(∃kvs,Rd H a (.dK kvs))∨∃kvs,Rd H a (.dT kvs)
theorem Uw{X:Cx}{aa:List (Rf×Ro)}{σ:St}{H:Hp}{s:Af}{a:Rf}(I:cA X aa σ H s)(d:IsD H a):s.TypeIs (.ref a) "dict" /\(∀b,Bi a=.ref b->∃c,s.heap.get? b=some c/\c.dict=none)/\(a==Ey)=false:=by
 rcases d with⟨kvs,e⟩|⟨kvs,e⟩
 ·obtain⟨_,hd,vs,_,f⟩:=JF I.hok e
  refine⟨f.typeIs,λb q=>?_,hd⟩;cases q;obtain⟨c,_,_,h1,h2,_⟩:=f;exact⟨c,h1,h2.2.1⟩
 ·obtain⟨_,hd,xs,_,f⟩:=JH I.hok e
  refine⟨f.typeIs,λb q=>?_,hd⟩;cases q;obtain⟨c,_,_,h1,h2,_⟩:=f;exact⟨c,h1,h2.2.1⟩
section
variable{X:Cx}{aa:List (Rf×Ro)}{σ:St}{H:Hp}{s:Af}{a:Rf}{y d:V}{u r:Rc}{o:Option V}{A:Cn}{E:Rc->Af->Prop}
theorem rF{Q:Rc->Af->Prop}(j:A.units+1<cLine)(I:cA X aa σ H s)(g:NZ H a y o)(i:bR y u)(h:∀w' s',cA X aa σ H s'->bR (o.getD .non) w'->Q w' s'):Rh (Rj X.prog X.w) A (call (.builtin "dict.get") [.ref a,u]) Q E s:=by
 rcases g with⟨kvs,k,e,f,l⟩|⟨kvs,k,b,e,f,m,l⟩
 ·subst f
  obtain⟨z,hd,vs,c,d⟩:=JF I.hok e;refine Lf Du d.typeIs Ew (Hi _ _) (meets_dict_get (aI X.prog X.w) a (JR i) hd) ⟨_,d.mapOf,h _ _ (I.tok _) ?_⟩;rw[l];exact(c.val k).getD rfl
 ·subst f
  cases (show u=Bi b from i);obtain⟨z,hd,xs,c,d⟩:=JH I.hok e;refine Lf Du d.typeIs Ew (Hi _ _) (meetsH_dict_get (tupleKind (aI X.prog X.w)) a b hd) ⟨Hh j,k,xs,LQ I.hok m,d,h _ _ (I.tok _) ?_⟩;rw[l];exact(c.val k).getD rfl
theorem eU{Q:Rc->Af->Prop}(n:A.units+1<cLine)(I:cA X aa σ H s)(g:NZ H a y o)(j:bR y u)(m:bR d r)(h:∀w' s',cA X aa σ H s'->bR (o.getD d) w'->Q w' s'):Rh (Rj X.prog X.w) A (call (.builtin "dict.get") [.ref a,u,r]) Q E s:=by
 rcases g with⟨kvs,k,e,i,l⟩|⟨kvs,k,b,e,i,p,l⟩
 ·subst i
  obtain⟨z,hd,vs,c,f⟩:=JF I.hok e;refine Lf Du f.typeIs Ew (Kj _ _ _) (meets_dict_get_default (aI X.prog X.w) a (JR j) hd r) ⟨_,f.mapOf,h _ _ (I.tok _) ?_⟩;rw[l];exact(c.val k).getD m
 ·subst i
  cases (show u=Bi b from j);obtain⟨z,hd,xs,c,f⟩:=JH I.hok e;refine Lf Du f.typeIs Ew (Kj _ _ _) (meetsH_dict_get_default (tupleKind (aI X.prog X.w)) a b hd r) ⟨Hh n,k,xs,LQ I.hok p,f,h _ _ (I.tok _) ?_⟩;rw[l];exact(c.val k).getD m
end
def nZ(td ty tx:TE):TE:=λσ H Q=>td σ H λx H1=>∃a,x=.ref a/\IsD H1 a/\ty σ H1 λy H2=>tx σ H2 λz b=>∃o,NZ b a y o/\Q (o.getD z) b
section
variable{X:Cx}{o e f:Rk}{ag af:Pos}{td ty tx:TE}
theorem fF(l:X.A.units+1<cLine)(n:PE X o td)(q:PE X e ty)(p:PE X f tx)(m:M2 X o "get" ag e f af):PE X (.Call (.Attribute o "get" ag) [e,f] [] af) (nZ td ty tx):=by
 intro aa s σ H Q I h;refine Mz m.base m.few m.line Kk Du Lg (ZB (n aa s σ H _ I h) λu s1 ⟨x,H1,c,k,a,ex,d,q1⟩=>?_);subst ex;obtain rfl:u=Bi a:=k;obtain⟨t1,i,_⟩:=Uw c d;refine⟨t1,i,?_⟩;rw[m.trees];refine Gc rfl (Go (Gd (ZB (q aa s1 σ H1 _ c q1) λE s2 ⟨y,H2,v,j,q2⟩=>
  Gd (ZB (p aa s2 σ H2 _ v q2) λF C ⟨z,w,t,rz,D,g,q3⟩=>Hu ?_))))
 exact eU l t g j rz λw' B r b=>⟨_,w,r,b,q3⟩
end
end L2
namespace Att
open PySem PySem.W PySem.Calls PyProof.Rows
theorem NF{P:Mc}{h:Rn}:∀(ns:List Int) (vs:List Rc),WellAll P h vs (ns.map WData.int)->Qi vs ns:=by
 intro ns;induction ns with
 |nil=>
  intro vs w;rw[Cr] at w;cases w;exact .nil
 |cons n ns c=>
  intro vs w;rw[As] at w;cases w with
  |cons a b=>
   cases a;exact .cons _ _ (c _ b)
theorem nI{l:OpenLaw}{n:Nat}(s:l.most=some n){P:Mc}{h:Rn}{args:List WData}{b:List Rc}(c:l.row.toRowW.claim.pre args=true)(g:WellAll P h b args):∃a vs ns,b=[Bi a]/\args=[WData.list (ns.map WData.int)]/\h.get? a=some {cls:=.type "list",data:=.seq vs.toArray}/\Qi vs ns/\ns.length<=n:=by
 have i:WShape.hasAll [] args [.list .int]=true:=(pre_splitW c).1;have hc:l.pre.holds [] {args:=args}=true:=(pre_splitW c).2;obtain⟨d,r,rfl,h1,h2⟩:=hasAllW_cons i;obtain rfl:=hasAllW_nil h2;obtain⟨xs,rfl,t⟩:=hasW_list h1;obtain⟨ns,rfl⟩:=items_int t;have u:ns.length<=n:=by
  unfold OpenLaw.pre at hc;have f:(WTm.not (.lt (.lit (.int (n:Int))) (.len (.arg 0)))).holds [] {args:=[.list (ns.map .int)]}=true:=by have f:=(holds_andW hc).1;rw[s] at f;exact f
  have e:=condW_of f (w_not (w_lt w_lit (w_len_list (w_arg rfl))));rw[Aq] at e;refine Nat.le_of_not_lt λq=>?_;have m:(n:Int)<((ns.length:Nat):Int):=by lia
  first
   |(rw[decide_eq_true m] at e;exact absurd e (by decide))
   |(simp at e;lia)
 cases g with
 |cons k j=>
  cases j;cases k with
  |list p o=>exact⟨_,_,ns,rfl,rfl,p,NF ns _ o,u⟩
theorem Zc(l:OpenLaw)(args:List WData):l.row.toRowW.claim.post args (.bool true) args=true:=
 postW_of (r:=l.row.toRowW) (X:=(true==true))
  (show Rb [] (.bool true) .bool=true by first|rfl|decide|simp[Rb,WShape.arms,WShape.armsAll])
  (show(WTm.eq .res (.lit (.bool true))).value [] {args:=args,res:=some (.bool true),after:=args}=some (.bool (true==true)) from w_eq_bool (w_res rfl) w_lit) rfl
theorem EY{l:OpenLaw}{n:Nat}{q:Bb}{loose:List Rg}{XP:(Rg->Option Rc)->Rn->Prop}{YP:Rl->Rn->Prop}{d:DefRec}(A:l.most=some n)(p:d.params.defaults=[])(call:∀(w:Rl) (s₀ b:Af) (mg j:Rg->Option Rc) (fa:Rf) (o:Ro) (i h doc:Rc) (a:Rf) (vs:List Rc) (ns:List Int),Ground q loose [] XP w s₀ mg j b.heap->YP w b.heap->b.heap.get? fa=some o->o.data=.func (docDef d.name d.params d.body d.scope i h doc)->b.heap.CodeRec h d.name->mg d.name=some (.ref fa)->b.heap.get? a=some {cls:=.type "list",data:=.seq vs.toArray}->Qi vs ns->ns.length<=n->b.gens= #[]->Kh (Rj l.prog w) Lw (.call (.ref fa) ⟨[.ref a],[]⟩) (λr s'=>r=.ok (.ret (.bool true))/\OldK b.heap s'.heap/\s'.os=b.os/\Kx s'.gens) b):WalkO q loose XP YP l.row.toRowW d [] (λf vs=>Qa f vs):=by intro w s₀ b mg j G Y fa o i h doc H kV z hd s v m D args t as e u x k C;obtain rfl:H=.none:=Dflts.none v p;obtain rfl:kV=.none:=Dflts.noKw v;obtain⟨a,vs,ns,rfl,rfl,g,c,I⟩:=nI A e k;refine enter_call (La (call w s₀ b mg j fa o i h doc a vs ns G Y z (fd_plain hd) s m g c I D) λr s' y=>?_);obtain⟨rfl,h2,F,E⟩:=y;exact⟨.inl ⟨.bool true,.bool true,[],rfl,λ_=>rfl,.bool true,Zc l _,λ_=>⟨Na,λ_ B=>(nomatch B)⟩⟩,h2,F,E⟩
end Att
namespace L2
open PySem PySem.Spec PyProof.Rows
theorem KH:∀{vs:List Rc} {ns:List Int},Qi vs ns->bS (ns.map V.int) vs
 |_,_,.nil=>.nil
 |_,_,.cons n t h=>.cons ⟨t,rfl⟩ (KH h)
def Only(H:Hp):Prop:=∀b,H b=none∨∃o xs,H b=some (.frz o (.lst xs))
theorem eL{P:Bb}{w:Rl}{K:Al}{mg C:Rg->Option Rc}{CX:CXT}{k:Nat}{fa a:Rf}{fd:Ds}{x:Rg}{sp:Sp}{c:Af}{vs:List Rc}{ns:List Int}(R:K.In c.heap)(l:c.heap.Ns Ri mg)(f:c.heap.Ns builtinsNs C)(E:∀x:Rg,x≠ "__name__" ->C x=Bm x)(T:c.heap.NoLimit)(hg:c.gens= #[])(A:c.heap.get? a=some {cls:=.type "list",data:=.seq vs.toArray})(hi:Qi vs ns)(hl:ns.length<=sizeLine)(hr:ZD k Lw)(F:∀base:Rn,K.In base->base.Ns Ri mg->bO P w K mg base CX k fa fd [x] sp)(X:∀(s:Af) (u:Rc),Op s fd ⟨[u],[]⟩ [(x,u)])(D:∀H:Hp,Only H->WT K H a (ns.map V.int)->sp [.ref a] H (λv _=>v=.bl true) λ_ _ _=>False)(G:∀H e s',CX [] H c (λ_ _ _=>False) e s'->False):Kh (Rj P w) Lw (.call (.ref fa) ⟨[.ref a],[]⟩) (λr s'=>r=.ok (.ret (.bool true))/\OldK c.heap s'.heap/\s'.os=c.os/\Kx s'.gens) c:=by
 have J:=KH hi;have W:=hi.length;have L: ∀H:Hp,Only H->WT K H a (ns.map V.int)->RL P w H c.heap->(∀b,H b≠none->b=a)->(H a≠none->K.lookup a=none)->
   Kh (Rj P w) Lw (.call (.ref fa) ⟨[.ref a],[]⟩) (λr s'=>r=.ok (.ret (.bool true))/\OldK c.heap s'.heap/\s'.os=c.os/\Kx s'.gens) c:=by
  intro H M hS j N hK;have O:∀{b:Rf} {o:Ro},c.heap.get? b=some o->H b=none->(HL c.heap H).get? b=some o:=λe n=>mS e n;have B:∀{b:Rf} {o:Ro} {es:Array Kw} {t:Nat},c.heap.get? b=some o->o.data=.dict es t->H b=none:=λ{b o es t} e d=>by
   cases q:H b with
   |none=>rfl
   |some u=>
    have I:b=a:=N b (by rw[q];simp);subst I;rw[A] at e;cases e;have d':Data.seq vs.toArray _=Data.dict es t:=d;cases d'
  have g:∀{b:Rf} {m:Rg->Option Rc},c.heap.Ns b m->(HL c.heap H).Ns b m:=λ{b m} ⟨o,es,t,e,d,r⟩=>⟨o,es,t,O e (B e d),d,r⟩;have p:K.In (HL c.heap H):=λb o e=>O (R b o e) (by
   cases q:H b with
   |none=>rfl
   |some u=>
    have I:b=a:=N b (by rw[q];simp);subst I;rw[hK (by rw[q];simp)] at e;cases e)
  have hM:Mod K mg (HL c.heap H):=⟨p,g l,⟨C,g f,E⟩,let ⟨mc,h1,h2⟩:=T;⟨mc,g h1,h2⟩⟩;have e0:CS P w K mg (HL c.heap H) Lw [] c H:=⟨rfl,hM,λb o e=>iG e,Nat.le_of_eq (Zr _ _),trivial,λb f=>absurd (show b∈([]:List Rf) from f) (by simp),j,.of_eq hg⟩;refine La ((F _ p (g l)).run Lw [] c H ⟨[.ref a],[]⟩ [.ref a] [.ref a] _ _ hr e0 (X c (.ref a)) (.cons rfl .nil) (D H M hS)) λr s' h=>?_;cases r with
  |error e=>exact(G H e s' h).elim
  |ok fl=>
   cases fl with
   |next=>exact Ez h
   |brk=>exact Ez h
   |cont=>exact Ez h
   |ret u=>
    obtain⟨v,H',os,y,un,U,r',q⟩:=h;have Y:v=.bl true:=q;subst Y;obtain rfl:u=Lk true:=r';refine⟨rfl,OldK.of_keep λb o e=>?_,os,y⟩;cases q:H b with
    |none=>exact un.keep b o e q (by intro z;exact absurd (show b∈([]:List Rf) from z) (by simp)) (by simp)
    |some u=>
     rcases M b with z|⟨Z,xs,z⟩
     ·rw[q] at z;cases z
     ·have S:=un.frzs b Z _ z
      obtain⟨Q,_⟩:=j b _ z;obtain⟨e2,_⟩:=U b _ S;rw[e] at Q;cases Q;exact e2
 cases hk:K.lookup a with
 |some o=>
  have e:=R a o hk;rw[A] at e;cases e;refine L (λ_=>none) (λ_=>.inl rfl) (.inr ⟨_,vs.toArray,_,hk,rfl,rfl,rfl,by rw[An,W];exact hl,by simpa using J⟩) (λb u z=>by have i:(none:Option HO)=some u:=z;cases i) (λb z=>absurd rfl z) λz=>absurd rfl z
 |none=>
  refine L (λb=>if b=a then some (.frz {cls:=.type "list",data:=.seq vs.toArray} (.lst (ns.map V.int))) else none) (λb=>?_) (.inl (.inr ⟨{cls:=.type "list",data:=.seq vs.toArray},if_pos rfl⟩)) (λb u z=>?_) (λb z=>?_) λ_=>hk
  ·by_cases f:b=a
   ·exact .inr ⟨_,_,if_pos f⟩
   ·exact .inl (if_neg f)
  ·by_cases f:b=a
   ·have i:=(if_pos f).symm.trans z
    cases i;subst f;exact⟨A,by rw[Aq];exact hl,vs,_,J,A⟩
   ·have i:=(if_neg f).symm.trans z
    cases i
  ·by_cases f:b=a
   ·exact f
   ·exact absurd (if_neg f) z
theorem dW{l:Qq}{n k:Nat}{q:Bb}{loose:List Rg}{XP:(Rg->Option Rc)->Rn->Prop}{YP:Rl->Rn->Prop}{d:DefRec}{K:Mc->Al}{CX:Rl->CXT}{sp:Rl->Sp}{x:Rg}(C:l.most=some n)(p:n<=sizeLine)(t:d.params.defaults=[])(B:ZD k Lw)(J:∀(w:Rl) (h:Rn),YP w h->(K w.params).In h)(F:∀(w:Rl) (mg:Rg->Option Rc) (fa:Rf) (h:Rn),(K w.params).In h->h.Ns Ri mg->mg d.name=some (.ref fa)->∃fd:Ds,(∀(s:Af) (u:Rc),Op s fd ⟨[u],[]⟩ [(x,u)])∧ ∀base:Rn,(K w.params).In base->base.Ns Ri mg->bO l.prog w (K w.params) mg base (CX w) k fa fd [x] (sp w))(m:∀(w:Rl) (H:Hp) (a:Rf) (ns:List Int),ns.length<=n->Only H->WT (K w.params) H a (ns.map V.int)->sp w [.ref a] H (λv _=>v=.bl true) λ_ _ _=>False)(y:∀(w:Rl) (H:Hp) (s:Af) (e:Rc) (s':Af),CX w [] H s (λ_ _ _=>False) e s'->False):W.WalkO q loose XP YP l.row.toRowW d [] (λf vs=>Qa f vs):=by refine Att.EY C t λw s₀ i mg P fa o O R doc a vs ns G Y Q hd E r j c z D=>?_;have A:=J w _ Y;obtain⟨fd,I,N⟩:=F w mg fa _ A G.T.g r;exact eL A G.T.g G.T.b G.T.builtins G.T.nolimit D j c (Em z p) B N I (λH M L=>m w H a ns z M L) λH e s'=>y w H i e s'
theorem zBD{l:Qq}{n k:Nat}{q:Bb}{loose:List Rg}{XP:(Rg->Option Rc)->Rn->Prop}{YP:Rl->Rn->Prop}{d:DefRec}{K:Mc->Al}{CX:CXT}{sp:Al->Sp}{x:Rg}(m:l.most=some n)(c:n<=sizeLine)(g:d.params.defaults=[])(j:ZD k Lw)(o:∀(w:Rl) (h:Rn),YP w h->(K w.params).In h)(F:∀(w:Rl) (mg:Rg->Option Rc) (fa:Rf) (h:Rn),(K w.params).In h->h.Ns Ri mg->mg d.name=some (.ref fa)->∃fd:Ds,(∀(s:Af) (u:Rc),Op s fd ⟨[u],[]⟩ [(x,u)])∧ ∀base:Rn,(K w.params).In base->base.Ns Ri mg->bO l.prog w (K w.params) mg base CX k fa fd [x] (sp (K w.params)))(b:∀(K:Al) (H:Hp) (a:Rf) (ns:List Int),ns.length<=n->Only H->WT K H a (ns.map V.int)->sp K [.ref a] H (λv _=>v=.bl true) λ_ _ _=>False)(i:∀(H:Hp) (s:Af) (e:Rc) (s':Af),CX [] H s (λ_ _ _=>False) e s'->False):W.WalkO q loose XP YP l.row.toRowW d [] (λf vs=>Qa f vs):=
 dW (K:=K) (CX:=λ_=>CX) (sp:=λw=>sp (K w.params)) m c g j o F (λw H a ns h1 h2 p=>b (K w.params) H a ns h1 h2 p) λ_ H s e s'=>i H s e s'
noncomputable def Z0(s:Rq):Arguments:=match s with
 |.FunctionDef _ a _ _ _ _ _ _ _ _=>a
 |_=>{posonlyargs:=[],args:=[],vararg:=none,kwonlyargs:=[],kw_defaults:=[],kwarg:=none,defaults:=[]}
def aU(s:Rq):List Rq:=match s with
 |.FunctionDef _ _ b _ _ _ _ _ _ _=>b
 |_=>[]
noncomputable def cV(s:Rq):Rt:=match s with
 |.FunctionDef _ _ _ _ _ _ a _ _ _=>a
 |_=>{kind:=.function,names:=[],isGenerator:=false,isCoroutine:=false}
abbrev CX0:CXT:=λ_ _ _ _ _ _=>False
abbrev E0:XK:=λ_ _ _=>False
theorem F7{X:Cx}:N9 CX0 X E0:=λ_ _ _ _ _ _ _ h=>h.elim
structure YH(K:Al)(x qual:Rg)(st:Rq)(f:Rf)(fd:Ds):Prop where
 ex:∃(oc:Rc) (od:Option Rf) (kV doc pm:Rc) (an:Option Rf) (cdv ct:Rc) (osl:Array (Option Rc)),
  fd=Hm x qual (Z0 st) (aU st) (cV st) .none kV doc pm an cdv ct/\K.lookup f=some ⟨oc,od,.func fd,osl⟩/\Iq K cdv qual=true
 kp:Eu K (.ref f)=true
section
variable{P:Bb}{w:Rl}{K:Al}{mg:Rg->Option Rc}{base:Rn}
theorem YH.ok{x a:Rg}{st:Rq}{f:Rf}{fd:Ds}{N ps:List Rg}{k:Nat}{sp:Sp}(F:YH K x a st f fd)(S:cM N ps (cV st))(len:∀vs H Q E,sp vs H Q E->vs.length=ps.length)(j:∀(b:Rc) (A:Cn) (outer:List Env) (s:Af) (H:Hp) (vs:List V) (Q:VK) (E:XK),ZD k (A.deeper (Js a (cV st) s.heap.objs.size f b))->sp vs H Q E->∃t,PF (KS CX0 P w K mg base N a (cV st) f b A outer s H E).nox (aU st) t/\t {nx:=λ_ H'=>Q .non H',rt:=Q} (start N vs) H):bO P w K mg base CX0 (k+1) f fd ps sp:=by obtain⟨m,od,kV,doc,l,n,b,ct,e,rfl,g,d⟩:=F.ex;refine Tx g d S len λA outer s H vs Q E i c=>?_;obtain⟨t,h,q⟩:=j b A outer s H vs Q E i c;exact⟨t,h.nox,q⟩
theorem YH.binds{x a:Rg}{st:Rq}{f:Rf}{fd:Ds}{ps:List Rg}(F:YH K x a st f fd)(h:∀(kV doc c:Rc) (d:Option Rf) (b ct:Rc) (us:List Rc),us.length=ps.length->bindArgs (Hm x a (Z0 st) (aU st) (cV st) .none kV doc c d b ct) ⟨us,[]⟩=pure (ps.zip us)):WI K fd ps []:=by obtain⟨i,od,kV,doc,c,d,b,ct,e,rfl,j,g⟩:=F.ex;exact .all (h kV doc c d b ct)
theorem HH{x a:Rg}{st:Rq}{f:Rf}{h:Rc}{od g:Option Rf}{d:Array (Option Rc)}{kV doc e b ct:Rc}(l:K.lookup f=some ⟨h,od,.func (Hm x a (Z0 st) (aU st) (cV st) .none kV doc e g b ct),d⟩)(c:Iq K b a=true)(k:Eu K (.ref f)=true):YH K x a st f (Hm x a (Z0 st) (aU st) (cV st) .none kV doc e g b ct):=⟨⟨h,od,kV,doc,e,g,b,ct,d,rfl,l,c⟩,k⟩
end
theorem Tt{A:Cn}{k:Nat}(a:ZD k A):A.units+1<cLine:=Nat.lt_of_le_of_lt (Nat.add_le_add_left (by decide:1<=64) _) a.units
section
variable{X:Cx}
theorem pv(i:Nat){x:Rg}{pos:Pos}(c:X.N[i]?=some x:=by rfl)(b:Vis X.env.scope x:=by first|exact Gx rfl|exact Fx (Gx rfl)|exact Fx (Fx rfl))(hd:(x==("__debug__":Rg))=false:=by decide)(a:(x==("__classdict__":Rg))=false:=by decide):PE X (.Name x pos) (XT i):=D0 c b hd a
end
theorem HN{A B:Prop}(h:B):if false=true then A else B:=by rw[if_neg Dr];exact h
theorem HP{A B:Prop}(h:A):if true=true then A else B:=by rw[if_pos rfl];exact h
def aH(H H':Hp):Prop:=∀b o,H b=some o->H' b=some o
theorem aH.refl(H:Hp):aH H H:=λ_ _ h=>h
theorem aH.trans{H H1 H2:Hp}(a:aH H H1)(b:aH H1 H2):aH H H2:=λc o h=>b c o (a c o h)
theorem aH.seq{K:Al}{H H':Hp}{a:Rf}{xs:List V}(e:aH H H')(h:WT K H a xs):WT K H' a xs:=by
 rcases h with((h|⟨y,C,dx,f,g,p,q,zs,ys,h,h2,z⟩)|⟨o,h⟩)|h
 ·exact .inl (.inl (.inl (e _ _ h)))
 ·exact .inl (.inl (.inr ⟨y,C,dx,f,g,p,q,zs,ys,e _ _ h,e _ _ h2,z⟩))
 ·exact .inl (.inr ⟨o,e _ _ h⟩)
 ·exact .inr h
theorem HB{env:Env}{f:Rg×Rs->List (Rg×Rf)->Rv (ForInStep (List (Rg×Rf)))}(g:∀n k r,f (n,k) r=if(k==Br)=true then(cellOf env n>>=λc=>pure (Eh ((n,c)::r))) else pure (Eh r)):∀(names:List (Rg×Rs)) (cs:List (Rg×Rf)),(∀y∈names,y.2=.free->∃c,env.cells.lookup y.1=some c)->∃cl,forIn names cs f=(pure cl:Rv (List (Rg×Rf)))/\(∀x c,cl.lookup x=some c->cs.lookup x=some c∨env.cells.lookup x=some c)∧(∀x c,cs.lookup x=some c->∃d,cl.lookup x=some d)/\∀x,(x,Br)∈names->∃c,cl.lookup x=some c
 |[],cs,_=>⟨cs,rfl,λ_ _ e=>.inl e,λ_ c e=>⟨c,e⟩,λ_ h=>nomatch h⟩
 | (n,k) :: r,cs,h => by
  have m:∀y∈r,y.2=.free->∃c,env.cells.lookup y.1=some c:=λy o=>h y (Ar _ o);by_cases hk:k=.free
  ·subst hk
   obtain⟨c,hc⟩:=h (n,.free) Ay rfl;have hc:env.cells.lookup n=some c:=hc;obtain⟨cl,l,j,b,i⟩:=HB g r ((n,c)::cs) m;refine⟨cl,?_,λx d e=>?_,λx d e=>?_,λx a=>?_⟩
   ·rw [Jf,g,if_pos (show (Br == Br) = true by decide)]
    have s:cellOf env n=pure c:=by unfold cellOf;rw[hc]
    rw[s,pure_bind,pure_bind];exact l
   ·rcases j x d e with q|q
    ·by_cases a:x=n
     ·subst a
      rw[Dv] at q;cases q;exact .inr hc
     ·rw[Bt,beq_eq_false_iff_ne.mpr a] at q
      exact .inl q
    ·exact .inr q
   ·by_cases a:x=n
    ·subst a
     exact b x c (Dv ..)
    ·refine b x d ?_
     rw[Bt,beq_eq_false_iff_ne.mpr a];exact e
   ·rcases Aj.mp a with q|q
    ·cases q
     exact b n c (Dv ..)
    ·exact i x q
  ·obtain⟨cl,l,j,b,i⟩:=HB g r cs m
   refine⟨cl,?_,j,b,λx a=>?_⟩
   ·have p : ¬ (k == Br) = true := by simpa using hk
    rw[Jf,g,if_neg p,pure_bind];exact l
   ·rcases Aj.mp a with q|q
    ·cases q
     exact absurd rfl hk
    ·exact i x q
theorem AM{env:Env}{scope:Rt}(h:∀y∈scope.names,y.2=.free->∃c,env.cells.lookup y.1=some c):∃cl,closureFor scope env=pure cl/\(∀x c,cl.lookup x=some c->env.cells.lookup x=some c)/\∀x,(x,Br)∈scope.names->∃c,cl.lookup x=some c:=by
 simp only[closureFor];obtain⟨cl,a,d,_,b⟩:=HB (env:=env) (f:=λx r=>match x with
  |(name,kind)=>if(kind==Br)=true then(cellOf env name>>=λc=>pure (Eh ((name,c)::r))) else pure (Eh r)) (λ_ _ _=>rfl) scope.names [] h
 refine⟨cl,?_,λx c e=>?_,b⟩
 ·first
   |exact a
   |(refine Eq.trans (congrArg (λm=>m>>=pure) a) ?_;exact pure_bind _ _)
 ·rcases d x c e with q|q
  ·cases q
  ·exact q
def X8(ix:List Nat)(σ:St):St:=ix.map λi=>(σ[i]?).join
def PTs(Y:Cx)(a:List Rk)(b:TT):Prop:=
 ∀(aa:List (Rf×Ro)) (s:Af) (σ:St) (H:Hp) (Q:Bool->Hp->Prop),cA Y aa σ H s->b σ H Q->
  Rh (Rj Y.prog Y.w) Y.A (forIn a true λc r=>if r=true then do let ok<-isTrue c Y.env (eval c Y.env);pure (Eh ok) else pure (Eh r)) (TP Y aa σ Q) Y.xe s
def tYes:TT:=λ_ H Q=>Q true H
theorem jH{Y:Cx}:PTs Y [] tYes:=λ_ _ _ H _ I h=>wpAny_tests_nil ⟨H,I,h⟩
theorem dO{Y:Cx}{c:Rk}{a:TT}(h:PT Y c a):PTs Y [c] a:=λaa s σ H Q I hw=>wpAny_tests_one (h aa s σ H Q I hw)
structure Blk(Y:Cx)(tg:Rk)(ifs:List Rk)(elt:Rk)(g:TG)(tt:TT)(te:TE):Prop where
 tg:PG Y tg g
 ts:PTs Y ifs tt
 el:PE Y elt te
theorem kC{prog:Bb}{w:Rl}{A:Cn}{s:Af}{l t iter:Rk}{j:List Rk}{scope:Rt}{pos:Pos}{it acc:Rc}{env:Env}{R:Result->Af->Prop}(I:Nat->Af->Prop)(turn:∀n s,I n s->Rh (Rj prog w) A (pyNext it) (λr b=>match r with
   |none=>R (.ok .next) b
   | some v => Rh (Rj prog w) A (Jd t it v) (λ_ s₀ => Rh (Rj prog w) A (assign t env v) (λ_ f =>
     Rh (Rj prog w) A (forIn j true λc r=>if r=true then do let ok<-isTrue c env (eval c env);pure (Eh ok) else pure (Eh r)) (λok a=>if ok=true then Rh (Rj prog w) A (eval l env) (λx e=>
      Rh (Rj prog w) A (call (.builtin "list.append") [acc,x]) (λ_ d=>∃m,m<n/\I m d) (λ_ _=>False) e) (λ_ _=>False) a
      else∃m,m<n/\I m a) (λ_ _=>False) f)
     (λ_ _=>False) s₀) (λ_ _=>False) b) (λ_ _=>False) s)
  (n:Nat) (h:I n s):Kh (Rj prog w) A (.compLoop (.ListComp l [⟨t,iter,j,0⟩] scope pos) 0 it acc env) R s:=by
 refine codeAny_loop rfl I (λn s y=>?_) n h;show Rh _ A ((compTurn (.ListComp l [⟨t,iter,j,0⟩] scope pos) 0 it acc env).onRaise (λx=>do noteFrame x env;theTreesLotGoes x)) _ _ s;refine wpAny_noted ?_;rw[compTurn_list];refine Ac (Gj (Ac (Cs (turn n s y) (λr b i=>?_) λ_ _ h'=>h'.elim)));cases r with
 |none=>exact Am i
 |some v=>
  refine Ac (Cs i (λ_ s₀ k=>?_) λ_ _ h'=>h'.elim);refine Ac (Cs k (λ_ f q=>?_) λ_ _ h'=>h'.elim);refine Ac (Cs q (λu a g=>?_) λ_ _ h'=>h'.elim);cases u with
  |false=>exact Am ⟨rfl,g⟩
  |true=>exact Ac (Ac (Cs g (λx e p=>Ac (Cs p (λ_ d o=>Am (Am ⟨rfl,o⟩)) λ_ _ h'=>h'.elim)) λ_ _ h'=>h'.elim))
section
variable{X:Cx}{aa:List (Rf×Ro)}{σ:St}{H H':Hp}{s s1 s':Af}{h'':Rn}
theorem cA.offNew{a:St}{H1:Hp}(d:cA X aa σ H1 s1)(i:cA X aa a H' s')(h:H' s1.heap.objs.size=none)(f:∀b o,b≠s1.heap.objs.size->s'.heap.get? b=some o->h''.get? b=some o):cA X aa a H' {s' with heap:=h''}:=
 i.turned (t':=s'.toks) (it:=s1.heap.objs.size) f h (Gu d.lt) (.inr d.sz)
  (λx c e z => by
   obtain⟨v,q⟩:=d.cell x c e;have:=q.lt
   rw[z] at this;exact Co _ this)
  λp g z=>by
   have:=Ap (d.pin p g).1
   rw[z] at this;exact Co _ this
end
def Tf(D:Rf)(ix:List Nat)(nl:Nat)(J:It)(g:TG)(h:TT)(te:TE)(σ:St)(H0:Hp)(Q:Hp->Prop):Prop:=
 ∃W:Nat->Nat->List V->Hp->Prop,(∃m,W 0 m [] (upd H0 D (.lst [])))/\∀i m acc H1,W i m acc H1->
  (J.stop i H1/\Q H1)∨
  (J.go i H1/\ ∃N:List V->Hp->Prop,(∀d H',N d H'-> ∃c,c<m/\W (i+1) c d H')∧
   ∀x H2,J.yld i H1 x H2->g x (X8 ix σ++Bn nl none) H2 λa j=>a.take ix.length=X8 ix σ∧
    h a j λb f=>if b=true then te a f λv e=>e D=some (.lst acc)/\acc.length<sizeLine/\N (acc++[v]) (upd e D (.lst (acc++[v]))) else N acc f)
theorem P8{env:Env}{x:Rg}:∀{l:List (Rg×Rs)},l.lookup x=some .free->(l.map λ(n,k)=>if(k==Br&&env.scope.kind== .function&&env.kindOf n==some .cell) then(n,Cf) else(n,k)).lookup x=some .cell∨(l.map λ(n,k)=>if(k==Br&&env.scope.kind== .function&&env.kindOf n==some .cell) then(n,Cf) else(n,k)).lookup x=some .free
 |[],h=>by cases h
 | (n,k) :: r,h => by
  show Fg x ((if(k==Br&&env.scope.kind== .function&&env.kindOf n==some .cell)=true then(n,Cf) else(n,k))::_)=some .cell∨Fg x ((if(k==Br&&env.scope.kind== .function&&env.kindOf n==some .cell)=true then(n,Cf) else(n,k))::_)=some .free;by_cases c:x=n
  ·subst c
   rw[Dv] at h;cases h;by_cases hc:(Br==Br&&env.scope.kind== .function&&env.kindOf x==some .cell)=true
   ·left
    rw[if_pos hc,Dv]
   ·right
    rw[if_neg hc,Dv]
  ·have a:(x==n)=false:=beq_eq_false_iff_ne.mpr c
   simp only[Bt,a] at h;have b:=P8 (env:=env) h;by_cases hc:(k==Br&&env.scope.kind== .function&&env.kindOf n==some .cell)=true
   ·rw[if_pos hc]
    simp only[Bt,a];exact b
   ·rw[if_neg hc]
    simp only[Bt,a];exact b
def CF(ix:List Nat)(nl:Nat)(a:TI)(g:TG)(b:TT)(te:TE):TE:=λσ H Q=>a σ H λJ H0=>∀D,H0 D=none->Tf D ix nl J g b te σ H0 λH'=>Q (.ref D) H'
mutual
inductive Dp(K:Al)(H:Hp):V->Lo->Prop
 |non:Dp K H .non .none
 |bl (b:Bool):Dp K H (.bl b) (.bool b)
 |int (i:Int):Dp K H (.int i) (.int i)
 |str (x:Rg):Dp K H (.str x) (.str x)
 |lst {a:Rf} {xs:List V} {ds:List Lo}:WT K H a xs->K0 K H xs ds->Dp K H (.ref a) (.list ds)
 |tup {a:Rf} {xs:List V} {ds:List Lo}:UV K H a xs->K0 K H xs ds->Dp K H (.ref a) (.tuple ds)
inductive K0(K:Al)(H:Hp):List V->List Lo->Prop
 |nil:K0 K H [] []
 |cons {v:V} {vs:List V} {d:Lo} {ds:List Lo}:Dp K H v d->K0 K H vs ds->K0 K H (v::vs) (d::ds)
end
section
variable{X:Cx}{aa:List (Rf×Ro)}{σ:St}{H:Hp}{s:Af}
mutual
theorem cA.reads(I:cA X aa σ H s):∀{v:V} {d:Lo} {u:Rc},Dp X.K H v d->bR v u->∃as,Reads s.heap u d as
 |_,_,_,.non,r=>by cases r;exact⟨_,.none⟩
 |_,_,_,.bl b,r=>by cases r;exact⟨_,.bool b⟩
 |_,_,_,.int i,r=>by obtain⟨t,rfl⟩:=r;exact⟨_,.int i t⟩
 |_,_,_,.str x,r=>by obtain⟨t,rfl⟩:=r;exact⟨_,.str x t⟩
 |_,_,_,.lst q all,r=>by
  cases r;obtain⟨its,a,⟨o,n,e,c,_,d⟩,_⟩:=I.list q;obtain⟨as,h⟩:=cA.readsAll I all a;exact⟨_,.list e c d (by simpa using h)⟩
 |_,_,_,.tup q all,r=>by
  cases r;obtain⟨its,a,⟨o,e,c,n,d⟩,_⟩:=I.tuple q;obtain⟨as,h⟩:=cA.readsAll I all a;exact⟨_,.tuple e c d (by simpa using h)⟩
theorem cA.readsAll(I:cA X aa σ H s):∀{vs:List V} {ds:List Lo} {us:List Rc},K0 X.K H vs ds->bS vs us->∃as,ReadsAll s.heap us ds as
 |_,_,_,.nil,r=>by cases r;exact⟨_,.nil⟩
 | _,_,_,.cons h t,r => by
  cases r with
  |cons r1 r2=>
   obtain⟨as,h1⟩:=cA.reads I h r1;obtain⟨bs,h2⟩:=cA.readsAll I t r2;exact⟨_,.cons h1 h2⟩
end
end
def rEqD(K:Al):R2:=λx y H Q=>∃d e,Dp K H x d/\Dp K H y e/\Ei d=true/\Ei e=true/\Q (.bl (Iw d e)) H
def rNeD(K:Al):R2:=λx y H Q=>∃d e,Dp K H x d/\Dp K H y e/\Ei d=true/\Ei e=true/\Q (.bl (!PyData.eqv d e)) H
section
variable{X:Cx}
theorem iB(g:X.A.units+64<cLine):WB X (Cu .Eq) (rEqD X.K):=by intro aa s σ H x y v u Q I f c h;obtain⟨d,e,hd,i,b,a,q⟩:=h;obtain⟨as,h1⟩:=I.reads hd f;obtain⟨bs,h2⟩:=I.reads i c;exact eq_dataH h1 h2 b a g (HG I q rfl)
theorem Wa(g:X.A.units+64<cLine):WB X (Cu .NotEq) (rNeD X.K):=by intro aa s σ H x y v u Q I f c h;obtain⟨d,e,hd,i,b,a,q⟩:=h;obtain⟨as,h1⟩:=I.reads hd f;obtain⟨bs,h2⟩:=I.reads i c;exact ne_dataH h1 h2 b a g (HG I q rfl)
def rngP(p:Rf)(a b c:Int):Rn->Prop:=λh=>∃t u v,IsRange h p a b c t u v
inductive IS:List Kw->List (Rg×V)->Prop
 |nil:IS [] []
 |cons {e:Kw} {es:List Kw} {x:Rg} {t:Rx} {v:V} {D:List (Rg×V)}:e.key=.str x t->bR v e.val->IS es D->IS (e::es) ((x,v)::D)
def KTab(K:Al)(a:Rf)(D:List (Rg×V)):Prop:=
 (a==Ey)=false/\∃o es b,K.lookup a=some o/\o.ExactDict/\o.data=.dict es b/\IS es.toList D
theorem IS.rows{es:List Kw}{D:List (Rg×V)}(h:IS es D):KTD.Rows bR es D:=by
 induction h with
 |nil=>exact .nil
 |cons h1 h2 _ a=>exact .cons h1 h2 a
theorem FM{A:Cn}{E:Rc->Af->Prop}{s:Af}{K:Al}{prog:Bb}{w:Rl}{a:Rf}{D:List (Rg×V)}{k:Rg}{tk:Rx}{Q:Option Rc->Af->Prop}(n:K.In s.heap)(T:KTab K a D)(h1:∀d v,Fi k D=some d->bR d v->Q (some v) {s with toks:=s.toks+1})(h2:Fi k D=none->Q none {s with toks:=s.toks+1}):Rh (Rj prog w) A (dictGet a (.str k tk)) Q E s:=by
 obtain⟨_,o,es,p,g,hc,hd,c⟩:=T;have g:=n _ _ g;have c:=c.rows;unfold dictGet;try with_reducible refine Cb ?_
 refine Ac (wpAny_pyHash_str (Ac (KTD.kt_dictFind_strs (s:={s with toks:=s.toks+1}) g hd (by obtain⟨l⟩:=es;simpa using c.exact) ?_)));have f:Q (findBy (λk v=>v.isStr k) es k) {s with toks:=s.toks+1}:=by
  have m:findBy (λk v=>v.isStr k) es k=(es.toList.find? λe=>e.key.isStr k).map (·.val):=by obtain⟨l⟩:=es;simp[findBy]
  rw[m];cases b:Fi k D with
  |some d=>obtain⟨v,j,h⟩:=c.find_some b;rw[j];exact h1 d v b h
  |none=>rw[c.find_none b];exact h2 b
 rw[findBy_of_findIdx?] at f;cases hi:es.findIdx? λe=>e.key.isStr k with
 |none=>rw[hi] at f;exact Am f
 |some i=>rw[hi] at f;exact Ac (wpAny_dictEntries (s:={s with toks:=s.toks+1}) g hd (Am f))
theorem eF:IxR X (λx y H Q=>∃a k D v,x=.ref a/\y=.str k/\KTab X.K a D/\Fi k D=some v/\Q v H):=by
 intro value c aa s σ H x y v u Q I j i h m;obtain⟨a,k,D,d,rfl,rfl,T,hk,q⟩:=h;cases j;obtain⟨t,rfl⟩:=i;have b:s.TypeIs (.ref a) "dict":=by obtain⟨_,o,es,p,n,hc,_⟩:=T;exact⟨o,I.kIn _ _ n,hc.1⟩
 have main:Rh (Rj X.prog X.w) X.A (Ki (.ref a) (.str k t)) (EP X aa σ Q) X.xe s:=by
  unfold Ki;try with_reducible refine Cb ?_
  refine Ac (Jz b (by decide) ?_);refine Ac (Dn (name:=Bj "__getitem__") b Jx
   (Ed Jx b PySem.F.entry_dict_getitem ?_ (PySem.F.args_dict_getitem_2 _ _)))
  show Rh _ _ (dictGet a (.str k t)>>=_) _ _ s;exact Ac (FM I.kIn T (λd' g f l=>Am ⟨g,rfl,Am (by rw[hk] at f;cases f;exact⟨d,H,I.tok _,l,q⟩)⟩) λe=>by rw[hk] at e;cases e)
 exact Qg b PySem.F.slot_dict_getitem.lookup main m
end
section
variable{prog:Bb}{w:Rl}{A:Cn}{E:Rc->Af->Prop}{s:Af}
theorem JG{it t:Rf}{items:Array Rc}(g:t≠it):∀(n i:Nat) (s:Af) (Q:List Rc->Af->Prop),s.heap.IsListIter it t i->s.heap.IsList t items->i+n<=items.size->(∀h',h'.IsListIter it t (i+n)->Fa it s.heap h'->Q ((items.toList.drop i).take n) {s with heap:=h'})->Rh (Rj prog w) A (draw (.ref it) n) Q E s
 |0,i,s,Q,e,_,_,j=>by show Rh _ _ (pure []) Q E s;exact Am (by simpa using j s.heap e (Heap.SameBut.refl ..))
 |n+1,i,s,Q,e,l,m,j=>by
  have h:i<items.size:=by lia
  show Rh _ _ (pyNext (.ref it)>>=_) Q E s;refine Ac (Kt e l (x:=items[i]) (by simp[h]) λk c a=>?_);refine Ac (Cb (JG g n (i+1) _ _ c (l.extBut a.extBut g) (by lia) λf b d=>Am ?_));have hd:items.toList.drop i=items[i]::items.toList.drop (i+1):=by simp[Fj,h]
  have:=j f (by rw[show i+(n+1)=i+1+n by lia];exact b) (a.trans d)
  rw[hd,List.take_succ_cons] at this;exact this
theorem O9{t:Rf}{items:Array Rc}{Q:List Rc->Af->Prop}(p:A.handled=none)(k:s.heap.IsList t items)(q:∀h',Jg s.heap.objs.size s.heap h'->Q items.toList {s with heap:=h'}):Rh (Rj prog w) A (Jb (.ref t) items.size none) Q E s:=by
 have j:t≠s.heap.objs.size:=by obtain⟨o,l,_⟩:=k;exact Bg (Ap l)
 unfold Jb;refine Ac ?_
 ·unfold notIterableAtAll
  refine Ac (wpAny_specialOf k.typeIs PySem.F.slot_list_iter.lookup ?_);refine Am ?_;simp only[Fd,if_false];refine Ac (Cb (Fo k ?_));have i:(s.heap.push {cls:=.type "list_iterator",data:=.fields #[.ref t,.int 0 0]}).IsList t items:=by obtain⟨o,l,r⟩:=k;exact⟨o,Ad _ l,r⟩
  refine Ac (Cb (JG j items.size 0 _ _ ⟨_,Av _ rfl,rfl,rfl⟩ i (by lia) λh c a=>?_));have n:List.take items.size (List.drop 0 items.toList)=items.toList:=by rw[Lp];exact Cg (by simp)
  rw[n];rw[if_neg (by simp)];have d:h.IsList t items:=i.extBut a.extBut j;refine Ac (Cb (Ky p c d (by simp) λg f=>?_));simp only[Option.isSome_none,Fd,if_false];refine Am (q g λb o m e=>f b o m (a.extBut b o m (Ad _ e)))
theorem PL{env:Env}{a:List Rk}{x1}{pos:Pos}{t:Rf}{items:Array Rc}{Q:Unit->Af->Prop}(e:A.handled=none)(c:s.heap.IsList t items)(d:(Rm a env).length=items.size)(b:(Rm a env).findIdx? (·.1)=none)(h:∀h',Jg s.heap.objs.size s.heap h'->Rh (Rj prog w) A (Ru ((Rm a env).map (·.2)) items.toList) Q E {s with heap:=h'}):Rh (Rj prog w) A (assign (.Tuple a x1 pos) env (.ref t)) Q E s:=by rw[assign_Tuple];refine Ac (Gj ?_);unfold unpack;rw[d,b];exact Ac (Cb (O9 e c h))
end
section
variable{X:Cx}{pos:Pos}
def gLst(K:Al)(n:Nat)(t:TGs):TG:=λv σ H Q=>∃a xs,v=.ref a/\WT K H a xs/\xs.length=n/\t xs σ H Q
theorem Wc{es:List Rk}{k:Nat}{t:TGs}{n:Nat}(hc:X.calm=true)(h:AF X es t)(j:(Rm es X.env).length=n:=by rfl)(c:(Rm es X.env).findIdx? (·.1)=none:=by rfl):PG X (.Tuple es k pos) (gLst X.K n t):=by intro aa s σ H v u Q I r hw;obtain⟨a,xs,l,i,hl,hw⟩:=hw;subst l;cases r;obtain⟨its,d,g,hz⟩:=I.list i;refine PL (I.ok.hd hc) g.isList (by simp[j,<-hl,d.length]) c λh' f=>?_;have m:cA X aa σ H {s with heap:=h'}:=I.kept (t':=s.toks) λb o e=>f b o (Bg (Ap e)) e;exact h aa _ σ H xs _ Q m (by simpa using d) hw
def FnAt(X:Cx)(f:Rf)(sp:Sp):Prop:=∃(k:Nat) (fd:Ds) (ps:List Rg),bO X.prog X.w X.K X.mg X.base CX0 k f fd ps sp/\ZD k X.A/\Eu X.K (.ref f)=true/\WI X.K fd ps []
def pO(X:Cx)(a:TE)(t:TA):TE:=λσ H Q=>a σ H λx H1=>∃f sp,x=.ref f/\FnAt X f sp/\t σ H1 λvs H2=>sp vs H2 Q E0
theorem Ym{x:Rg}{p pos:Pos}{e:Rk}{es:List Rk}{b:TE}{t:TA}(i:PE X (.Name x p) b)(m:PA X (e::es) t)(j:Ae (e::es) X.env=(false,eval e X.env)::Ae es X.env:=by rfl)(a:(Dx pos (Ae es X.env)).any (·.1)=false:=by rfl):PE X (.Call (.Name x p) (e::es) [] pos) (pO X b t):=by intro aa s σ H Q I h;refine Ej (ZB (i aa s σ H _ I h) λu s1 ⟨x,H1,n,d,f,sp,ex,F,q⟩=>?_);subst ex;obtain rfl:u=Bi f:=d;obtain⟨k,fd,ps,F,g,hk,l⟩:=F;refine Np (h₀:=X.base) I.ok.mod.kin hk (ZB (m pos aa s1 σ H1 _ n q) λus s2 ⟨vs,H2,c,r,q2⟩=>⟨c.kIn,?_⟩) j a;refine D8 (dvs:=[]) (ds:=[]) F g l .nil F7 c r ?_;rw[Bp];exact q2
end
section
variable{X:Cx}{K:Al}
theorem kL(h:X.K=K):ZW X (.type "list") (λxs H Q=>∃p ys,xs=[.ref p]/\(WT K H p ys∨UV K H p ys)/\∀l,H l=none->Q (.ref l) (upd H l (.lst ys))):=by subst h;exact HA
theorem jR(h:X.K=K):ZW X (.type "tuple") (λxs H Q=>∃p ys,xs=[.ref p]/\((WT K H p ys/\∀l,H l=none->Q (.ref l) (upd H l (.tup ys)))∨(UV K H p ys/\Q (.ref p) H))):=by subst h;exact KR
theorem kEqD(h:X.K=K)(a:X.A.units+64<cLine):WB X (Cu .Eq) (rEqD K):=by subst h;exact iB a
theorem SO(h:X.K=K)(a:X.A.units+64<cLine):WB X (Cu .NotEq) (rNeD K):=by subst h;exact Wa a
theorem Ub(h:X.K=K){es:List Rk}{k:Nat}{t:TGs}{n:Nat}{pos:Pos}(hc:X.calm=true)(c:AF X es t)(b:(Rm es X.env).length=n:=by rfl)(a:(Rm es X.env).findIdx? (·.1)=none:=by rfl):PG X (.Tuple es k pos) (gTup K n t):=by subst h;exact mE hc c b a
theorem hW(h:X.K=K){es:List Rk}{k:Nat}{t:TGs}{n:Nat}{pos:Pos}(hc:X.calm=true)(c:AF X es t)(b:(Rm es X.env).length=n:=by rfl)(a:(Rm es X.env).findIdx? (·.1)=none:=by rfl):PG X (.Tuple es k pos) (gLst K n t):=by subst h;exact Wc hc c b a
theorem Tp(h:X.K=K){tg l:Rk}{tl:TE}(hl:PE X l tl):PI X tg l (Ux K tl):=by subst h;exact Xn hl
theorem Ug(h:X.K=K){tg l:Rk}{tl:TE}(hl:PE X l tl):PI X tg l (iTup K tl):=by subst h;exact mJ hl
theorem kBm(h:X.K=K){o e:Rk}{es:List Rk}{to:TE}{t:TA}{name:Rg}{ag af:Pos}{T id:String}{r:V->List V->Hp->VK->Prop}(pa:PlainAttrs T)(slot:Slot T name id)(a:typeOf (.builtin id)=pure (.type "method_descriptor"))(d:MtR X id r)(c:PE X o to)(f:PA X (e::es) t)(i:Ce o name X.env (eval o X.env)=eval o X.env:=by rfl)(g:((Dx af (Ae (e::es) X.env)).all (λx=> !x.1)&&(Hf af (Es [] X.env)).all (λx=>x.1.isSome)&&decide ((e::es).length+([]:List Gg).length+(if([]:List Gg).isEmpty then 0 else 1)<30))=true:=by rfl)(j:(ag.endLine==af.line)=true:=by rfl)(b:Ae (e::es) X.env=(false,eval e X.env)::Ae es X.env:=by rfl)(k:(Dx af (Ae es X.env)).any (·.1)=false:=by rfl):PE X (.Call (.Attribute o name ag) (e::es) [] af) (tBM K T r to t):=by subst h;exact Xk pa slot a d c f i g j b k
end
theorem fK:Bm "len"=some (.builtin "len"):=by decide+kernel
theorem C3:Bm "min"=some (.builtin "min"):=by decide+kernel
theorem C2:Bm "max"=some (.builtin "max"):=by decide+kernel
theorem dQ:Bm "sorted"=some (.builtin "sorted"):=by decide+kernel
theorem KP:Bm "isinstance"=some (.builtin "isinstance"):=by decide+kernel
theorem RN:Bm "list"=some (.type "list"):=by decide+kernel
theorem ZK:Bm "tuple"=some (.type "tuple"):=by decide+kernel
theorem kG:Bm "range"=some (.type "range"):=by decide+kernel
theorem hG:Bm "bool"=some (.type "bool"):=by decide+kernel
theorem iL:Bm "int"=some (.type "int"):=by decide+kernel
theorem Uy:Bm "str"=some (.type "str"):=by decide+kernel
structure Def(P:Bb)(w:Rl)(K:Al)(mg:Rg->Option Rc)(base:Rn)(x:Rg)(k:Nat)(ps:List Rg)(sp:Sp)(f:Rf):Prop where
 at_:mg x=some (.ref f)
 ok:∃fd,bO P w K mg base CX0 k f fd ps sp/\WI K fd ps []
 kp:Eu K (.ref f)=true
section
variable{X:Cx}{x:Rg}{k j:Nat}{ps:List Rg}{sp:Sp}{f:Rf}{p pos:Pos}{e:Rk}{es:List Rk}{t:TA}
theorem Zu(D:Def X.prog X.w X.K X.mg X.base x k ps sp f)(c:ZD j X.A)(hk:k<=j)(d:Gl X x)(h:PA X (e::es) t)(b:(x==("__debug__":Rg))=false:=by decide)(g:Ae (e::es) X.env=(false,eval e X.env)::Ae es X.env:=by rfl)(a:(Dx pos (Ae es X.env)).any (·.1)=false:=by rfl):PE X (.Call (.Name x p) (e::es) [] pos) (Sf sp [] E0 t):=by obtain⟨fd,F,B⟩:=D.ok;exact BN F (c.mono hk) d D.at_ D.kp B .nil F7 h b g a
theorem Def.fnAt(D:Def X.prog X.w X.K X.mg X.base x k ps sp f)(a:ZD j X.A)(hk:k<=j):FnAt X f sp:=by obtain⟨fd,F,B⟩:=D.ok;exact⟨k,fd,ps,F,a.mono hk,D.kp,B⟩
end
theorem cS{H:Hp}{p:Rf}{o:HO}(a:H p=none):aH H (upd H p o):=λb o' e=>by rw[cL (aP e a)];exact e
theorem GK(ns:List Int):Ei (.list (ns.map Nb))=true:=by
 have h1:Ga (.list (ns.map Nb))=true:=by simp only[Ga,canLayAll_ints]
 have h2:Ii (.list (ns.map Nb))<=64:=by simp only[Ii,depthAll_ints];decide
 unfold Ei;rw[h1,decide_eq_true h2];rfl
inductive c6 where
 |non|bl (b:Bool)|int (i:Int)|str (x:Rg)|ty (n:String)|fn (x:Rg)|tup (ds:List c6)|lst (ds:List c6)|dct (ks:List aG) (ds:List c6)|exn (x:Rg)|exr (x n:Rg) (d:c6)|flt (x f g:Rg) (k:Nat) (ds:List c6)
def FzL(K:Al)(H:Hp)(a:Rf)(xs:List V):Prop:=
 (∃o,H a=some (.frz o (.lst xs)))∨
  ∃(o:Ro) (its:Array Rc) (n:Nat),K.lookup a=some o/\o.cls=.type "list" /\o.dict=none/\o.data=.seq its n/\its.size<=sizeLine/\bS xs its.toList
theorem FzL.sq{K:Al}{H:Hp}{a:Rf}{xs:List V}(h:FzL K H a xs):WT K H a xs:=by
 rcases h with⟨o,h⟩|h
 ·exact .inl (.inr ⟨o,h⟩)
 ·exact .inr h
def FzM(K:Al)(H:Hp)(M:Rf->Prop)(a:Rf)(xs:List V):Prop:=FzL K H a xs∨∃x C dx f g p q us ws,H a=some (.own x)/\H x=some (.flt C dx f g p q us ws)/\¬M x/\((a=p/\xs=us)∨(a=q/\xs=ws))
theorem FzM.sq{K:Al}{H:Hp}{M:Rf->Prop}{a:Rf}{xs:List V}(h:FzM K H M a xs):WT K H a xs:=by
 rcases h with h|⟨x,C,dx,f,g,p,q,us,ws,h1,h2,_,z⟩
 ·exact h.sq
 ·refine .inl (.inl (.inr ⟨x,C,dx,f,g,p,q,us,ws,h1,h2,?_⟩))
  rcases z with⟨z,rfl⟩|⟨z,rfl⟩
  ·exact .inl ⟨z,rfl⟩
  ·exact .inr ⟨z,rfl⟩
def R9(K:Al)(H:Hp)(a:Rf)(x f g:Rg)(xs ys:List V):Prop:=∃C dx p q,H a=some (.flt C dx f g p q xs ys)/\(H p=some (.own a)/\H q=some (.own a))/\Ge K Ri x=some (some (.ref C))
def eA(h:Rn)(a C:Rf):Prop:=∃o vs,h.get? a=some o/\o.cls=.ref C/\o.data=.fields vs
def pQ(h:Rn)(a C D:Rf):Prop:=∃o vs,h.get? a=some o/\o.cls=.ref C/\o.data=.fields vs/\o.dict=some D
mutual
inductive bB(K:Al)(N:Rf->Prop)(H:Hp):(Rf->Prop)->V->c6->Prop
 |non {M:Rf->Prop}:bB K N H M .non .non
 |bl {M:Rf->Prop} (b:Bool):bB K N H M (.bl b) (.bl b)
 |int {M:Rf->Prop} (i:Int):bB K N H M (.int i) (.int i)
 |str {M:Rf->Prop} (x:Rg):bB K N H M (.str x) (.str x)
 |ty {M:Rf->Prop} (n:String):bB K N H M (.ty n) (.ty n)
 |fn {M:Rf->Prop} {a:Rf} {x:Rg}:Ge K Ri x=some (some (.ref a))->bB K N H M (.ref a) (.fn x)
 |tup {M:Rf->Prop} {a:Rf} {xs:List V} {ds:List c6}:UV K H a xs->b6 K N H xs ds->bB K N H M (.ref a) (.tup ds)
 |lst {M:Rf->Prop} {a:Rf} {xs:List V} {ds:List c6}:H a=some (.lst xs)->¬M a->b6 K N H xs ds->bB K N H M (.ref a) (.lst ds)
 |fzm {M:Rf->Prop} {a:Rf} {xs:List V} {ds:List c6}:FzM K H M a xs->b6 K N H xs ds->bB K N H M (.ref a) (.lst ds)
 |dct {M:Rf->Prop} {a:Rf} {kvs:List (aG×V)} {ds:List c6}:H a=some (.dK kvs)->¬M a->b6 K N H (kvs.map Ec) ds->bB K N H M (.ref a) (.dct (kvs.map Db) ds)
 |ktb {M:Rf->Prop} {a:Rf} {D:List (Rg×V)} {ds:List c6}:KTab K a D->b6 K N H (D.map Ec) ds->bB K N H M (.ref a) (.dct (D.map λp=>.inr p.1) ds)
 |exn {M:Rf->Prop} {a C:Rf} {x:Rg} {φ:Rn->Prop}:Ge K Ri x=some (some (.ref C))->H a=some (.ext φ)->(∀h,φ h->eA h a C)->bB K N H M (.ref a) (.exn x)
 |exr {M:Rf->Prop} {a C D:Rf} {x n:Rg} {φ:Rn->Prop} {v:V} {d:c6}:Ge K Ri x=some (some (.ref C))->H a=some (.ext φ)->(∀h,φ h->pQ h a C D)->H D=some (.xd [(n,v)])->bB K N H N v d->bB K N H M (.ref a) (.exr x n d)
 |flt {M:Rf->Prop} {a:Rf} {x f g:Rg} {xs ys:List V} {ds:List c6}:R9 K H a x f g xs ys->¬M a->b6 K N H (xs++ys) ds->bB K N H M (.ref a) (.flt x f g xs.length ds)
inductive b6(K:Al)(N:Rf->Prop)(H:Hp):List V->List c6->Prop
 |nil:b6 K N H [] []
 |cons {v:V} {vs:List V} {d:c6} {ds:List c6}:bB K N H N v d->b6 K N H vs ds->b6 K N H (v::vs) (d::ds)
end
theorem bB.fzl{K:Al}{N:Rf->Prop}{H:Hp}{M:Rf->Prop}{a:Rf}{xs:List V}{ds:List c6}(q:FzL K H a xs)(r:b6 K N H xs ds):bB K N H M (.ref a) (.lst ds):=.fzm (.inl q) r
def Hard:HO->Prop
 |.tup _=>True
 |.frz _ _=>True
 |.ext _=>True
 |.xd _=>True
 |.own _=>True
 |_=>False
structure Fr(P:Rf->Prop)(H H':Hp):Prop where
 kp:∀b o,H b=some o->(P b->Hard o)->H' b=some o
 ft:∀b C dx f g p q xs ys,H b=some (.flt C dx f g p q xs ys)->∃us ws,H' b=some (.flt C dx f g p q us ws)
instance frCoe {P:Rf->Prop}{H H':Hp}:CoeFun (Fr P H H') (λ_=>∀b o,H b=some o->(P b->Hard o)->H' b=some o):=⟨Fr.kp⟩
def KN(H:Hp)(a:Rf)(o:HO):Prop:=∀C dx f g p q xs ys,H a=some (.flt C dx f g p q xs ys)->∃us ws,o=.flt C dx f g p q us ws
theorem KN.upd{H:Hp}{a:Rf}{o:HO}(h:KN H a o)(b:Rf)(C dx:Rf)(f g:Rg)(p q:Rf)(xs ys:List V)(e:H b=some (.flt C dx f g p q xs ys)):∃us ws,upd H a o b=some (.flt C dx f g p q us ws):=by
 by_cases c:b=a
 ·subst c
  obtain⟨us,ws,rfl⟩:=h _ _ _ _ _ _ _ _ e;exact⟨us,ws,cN⟩
 ·exact⟨xs,ys,by rw[cL c];exact e⟩
theorem KN.of{H:Hp}{a:Rf}{o b:HO}(h:H a=some b)(n:∀C dx f g p q xs ys,b≠ .flt C dx f g p q xs ys:=by exact λ_ _ _ _ _ _ _ _ z=>nomatch z):KN H a o:=λC dx f g p q xs ys e=>by rw[h] at e;exact absurd (Bv e) (n _ _ _ _ _ _ _ _)
theorem Fr.refl(P:Rf->Prop)(H:Hp):Fr P H H:=⟨λ_ _ h _=>h,λ_ _ _ _ _ _ _ xs ys h=>⟨xs,ys,h⟩⟩
theorem Fr.trans{P:Rf->Prop}{H H1 H2:Hp}(a:Fr P H H1)(b:Fr P H1 H2):Fr P H H2:=⟨λc o h n=>b c o (a c o h n) n,λ_ _ _ _ _ _ _ _ _ h=>let ⟨_,_,e⟩:=a.ft _ _ _ _ _ _ _ _ _ h;b.ft _ _ _ _ _ _ _ _ _ e⟩
theorem Fr.mono{P d:Rf->Prop}{H H':Hp}(a:Fr P H H')(h:∀b,P b->d b):Fr d H H':=⟨λc o e n=>a c o e λz=>n (h c z),a.ft⟩
theorem aH.fr{P:Rf->Prop}{H H':Hp}(a:aH H H'):Fr P H H':=⟨λc o h _=>a c o h,λ_ _ _ _ _ _ _ xs ys h=>⟨xs,ys,a _ _ h⟩⟩
section
variable{K:Al}{N N' M M' P:Rf->Prop}{H H':Hp}
theorem Fr.tup(f:Fr P H H'){a:Rf}{xs:List V}(h:UV K H a xs):UV K H' a xs:=by
 rcases h with((h|⟨_,_,_,_,_,_,_,_,_,_,_,z⟩)|⟨o,h⟩)|h
 ·exact .inl (.inl (.inl (f _ _ h λ_=>trivial)))
 ·rcases z with⟨_,z⟩|⟨_,z⟩<;>cases z
 ·exact .inl (.inr ⟨o,f _ _ h λ_=>trivial⟩)
 ·exact .inr h
theorem Fr.fzl(f:Fr P H H'){a:Rf}{xs:List V}(h:FzL K H a xs):FzL K H' a xs:=by
 rcases h with⟨o,h⟩|h
 ·exact .inl ⟨o,f _ _ h λ_=>trivial⟩
 ·exact .inr h
theorem Fr.fzm(f:Fr P H H'){M:Rf->Prop}{a:Rf}{xs:List V}(h:FzM K H M a xs)(b:∀a,P a->M a):FzM K H' M a xs:=by
 rcases h with h|⟨x,C,dx,c,g,p,q,us,ws,h1,h2,n,z⟩
 ·exact .inl (f.fzl h)
 ·exact .inr ⟨x,C,dx,c,g,p,q,us,ws,f _ _ h1 λ_=>trivial,f _ _ h2 λz=>absurd (b _ z) n,n,z⟩
theorem R9.fr{a:Rf}{x n m:Rg}{xs ys:List V}(h:R9 K H a x n m xs ys)(f:Fr P H H')(d:¬P a):R9 K H' a x n m xs ys:=let ⟨C,dx,p,q,e,⟨c,b⟩,z⟩:=h;⟨C,dx,p,q,f _ _ e λw=>absurd w d,⟨f _ _ c λ_=>trivial,f _ _ b λ_=>trivial⟩,z⟩
theorem R9.same{a:Rf}{x n m:Rg}{xs ys:List V}(h:R9 K H a x n m xs ys)(f:aH H H'):R9 K H' a x n m xs ys:=let ⟨C,dx,p,q,e,⟨c,b⟩,z⟩:=h;⟨C,dx,p,q,f _ _ e,⟨f _ _ c,f _ _ b⟩,z⟩
theorem R9.there{a:Rf}{x n m:Rg}{xs ys:List V}(h:R9 K H a x n m xs ys):∃o,H a=some o/\¬Hard o:=let ⟨_,_,_,_,e,_⟩:=h;⟨_,e,λz=>z⟩
theorem bB.fr(f:Fr P H H')(e:∀a,P a->N a){M:Rf->Prop}{v:V}{d:c6}(c:∀a,P a->M a)(h:bB K N H M v d):bB K N H' M v d:=
 bB.rec (motive_1:=λM v d _=>(∀a,P a->M a)->bB K N H' M v d) (motive_2:=λvs ds _=>b6 K N H' vs ds) (λ_=>.non) (λb _=>.bl b) (λi _=>.int i) (λx _=>.str x) (λn _=>.ty n) (λq _=>.fn q) (λq _ r _=>.tup (f.tup q) r)
  (λq n _ r c=>.lst (f _ _ q λz=>absurd (c _ z) n) n r) (λq _ r c=>.fzm (f.fzm q c) r) (λq n _ r c=>.dct (f _ _ q λz=>absurd (c _ z) n) n r) (λq _ r _=>.ktb q r) (λp q r _=>.exn p (f _ _ q λ_=>trivial) r)
  (λp q r s _ t _=>.exr p (f _ _ q λ_=>trivial) r (f _ _ s λ_=>trivial) (t e)) (λq n _ r c=>.flt (q.fr f λz=>n (c _ z)) n r) .nil (λ_ _ a b=>.cons (a e) b) h c
theorem b6.map{c:Al}{N':Rf->Prop}{H':Hp}(g:∀{v d},bB K N H N v d->bB c N' H' N' v d):∀{vs:List V} {ds:List c6},b6 K N H vs ds->b6 c N' H' vs ds:=by
 intro vs;induction vs with
 |nil=>intro ds h;cases h;exact .nil
 |cons v vs e=>intro ds h;cases h with|cons a b=>exact .cons (g a) (e b)
theorem b6.fr(f:Fr P H H')(b:∀a,P a->N a){vs:List V}{ds:List c6}(h:b6 K N H vs ds):b6 K N H' vs ds:=h.map λr=>r.fr f b b
theorem bB.mono(e:∀a,N' a->N a){M M':Rf->Prop}{v:V}{d:c6}(c:∀a,M' a->M a)(h:bB K N H M v d):bB K N' H M' v d:=
 bB.rec (motive_1:=λM v d _=>∀M',(∀a,M' a->M a)->bB K N' H M' v d) (motive_2:=λvs ds _=>b6 K N' H vs ds) (λ_ _=>.non) (λb _ _=>.bl b) (λi _ _=>.int i) (λx _ _=>.str x) (λn _ _=>.ty n) (λq _ _=>.fn q) (λq _ r _ _=>.tup q r)
  (λq n _ r _ c=>.lst q (λz=>n (c _ z)) r) (λq _ r _ c=>.fzm (q.imp id λ⟨x,C,dx,f,g,p,q,us,ws,h1,h2,n,z⟩=>⟨x,C,dx,f,g,p,q,us,ws,h1,h2,λw=>n (c _ w),z⟩) r) (λq n _ r _ c=>.dct q (λz=>n (c _ z)) r) (λq _ r _ _=>.ktb q r) (λp q r _ _=>.exn p q r) (λp q r s _ t _ _=>.exr p q r s (t _ e)) (λq n _ r _ c=>.flt q (λz=>n (c _ z)) r) .nil (λ_ _ a b=>.cons (a _ e) b) h M' c
theorem b6.mono(b:∀a,N' a->N a){vs:List V}{ds:List c6}(h:b6 K N H vs ds):b6 K N' H vs ds:=h.map λr=>r.mono b b
theorem bB.same(f:aH H H'){v:V}{d:c6}(h:bB K N H M v d):bB K N H' M v d:=h.fr f.fr (λ_ z=>z.elim) (P:=λ_=>False) λ_ z=>z.elim
theorem b6.same(f:aH H H'){vs:List V}{ds:List c6}(h:b6 K N H vs ds):b6 K N H' vs ds:=h.fr f.fr (P:=λ_=>False) λ_ z=>z.elim
theorem b6.length:∀{vs:List V} {ds:List c6},b6 K N H vs ds->vs.length=ds.length
 |_,_,.nil=>rfl
 |_,_,.cons _ t=>congrArg (· +1) (b6.length t)
theorem b6.append:∀{vs ws:List V} {ds es:List c6},b6 K N H vs ds->b6 K N H ws es->b6 K N H (vs++ws) (ds++es)
 |_,_,_,_,.nil,s=>s
 |_,_,_,_,.cons h t,s=>.cons h (b6.append t s)
theorem b6.get:∀{vs:List V} {ds:List c6} {i:Nat} {d:c6},b6 K N H vs ds->ds[i]?=some d->∃v,vs[i]?=some v/\bB K N H N v d
 |_,_,_,_,.nil,e=>by simp at e
 |_,_,0,_,.cons r _,e=>by simp at e;subst e;exact⟨_,rfl,r⟩
 |_,_,i+1,x,.cons _ t,e=>by obtain⟨u,h1,h2⟩:=b6.get (i:=i) (d:=x) t (by simpa using e);exact⟨u,by simpa using h1,h2⟩
theorem b6.take:∀{vs:List V} {ds:List c6} (n:Nat),b6 K N H vs ds->b6 K N H (vs.take n) (ds.take n)
 |_,_,0,_=>.nil
 |_,_,_+1,.nil=>.nil
 |_,_,n+1,.cons r t=>.cons r (b6.take n t)
theorem b6.drop:∀{vs:List V} {ds:List c6} (n:Nat),b6 K N H vs ds->b6 K N H (vs.drop n) (ds.drop n)
 |_,_,0,r=>r
 |_,_,_+1,.nil=>.nil
 |_,_,n+1,.cons _ t=>b6.drop n t
theorem b6.set{v:V}{d:c6}(h:bB K N H N v d):∀{vs:List V} {ds:List c6} (i:Nat),b6 K N H vs ds->b6 K N H (vs.set i v) (ds.set i d)
 |_,_,_,.nil=>.nil
 |_,_,0,.cons _ t=>.cons h t
 |_,_,i+1,.cons q t=>.cons q (b6.set h i t)
theorem b6.snoc{vs:List V}{ds:List c6}{v:V}{d:c6}(r:b6 K N H vs ds)(h:bB K N H N v d):b6 K N H (vs++[v]) (ds++[d]):=r.append (.cons h .nil)
end
mutual
def c6.isD:c6->Bool
 |.non=>true
 |.bl _=>true
 |.int _=>true
 |.str _=>true
 |.ty _=>false
 |.fn _=>false
 |.tup ds=>FI ds
 |.lst ds=>FI ds
 |.dct _ _=>false
 |.exn _=>false
 |.exr _ _ _=>false
 |.flt _ _ _ _ _=>false
def FI:List c6->Bool
 |[]=>true
 |d::ds=>d.isD&&FI ds
end
mutual
def c6.pd:c6->Lo
 |.non=>.none
 |.bl b=>.bool b
 |.int i=>.int i
 |.str x=>.str x
 |.ty _=>.none
 |.fn _=>.none
 |.tup ds=>.tuple (pds ds)
 |.lst ds=>.list (pds ds)
 |.dct _ _=>.none
 |.exn _=>.none
 |.exr _ _ _=>.none
 |.flt _ _ _ _ _=>.none
def pds:List c6->List Lo
 |[]=>[]
 |d::ds=>d.pd::pds ds
end
mutual
def c6.hard:c6->Bool
 |.tup ds=>TU ds
 |.lst _=>false
 |.dct _ _=>false
 |.exr _ _ _=>false
 |.flt _ _ _ _ _=>false
 |_=>true
def TU:List c6->Bool
 |[]=>true
 |d::ds=>d.hard&&TU ds
end
section
variable{K:Al}{N:Rf->Prop}{H:Hp}
theorem bB.dp{M:Rf->Prop}{v:V}{d:c6}(h:bB K N H M v d)(e:d.isD=true):Dp K H v d.pd:=
 bB.rec (motive_1:=λM v d _=>d.isD=true->Dp K H v d.pd) (motive_2:=λvs ds _=>FI ds=true->K0 K H vs (pds ds)) (λ_=>.non) (λb _=>.bl b) (λi _=>.int i) (λx _=>.str x) (λ_ h=>nomatch h) (λ_ h=>nomatch h) (λq _ r h=>.tup q (r h))
  (λq _ _ r h=>.lst (WT.of q) (r h)) (λq _ r h=>.lst q.sq (r h)) (λ_ _ _ _ h=>nomatch h) (λ_ _ _ h=>nomatch h) (λ_ _ _ h=>nomatch h) (λ_ _ _ _ _ _ h=>nomatch h) (λ_ _ _ _ h=>nomatch h) (λ_=>.nil) (λ_ _ a b e=>.cons (a (Dq.mp e).1) (b (Dq.mp e).2)) h e
theorem bB.hard{N':Rf->Prop}{M M':Rf->Prop}{v:V}{d:c6}(h:bB K N H M v d)(e:d.hard=true):bB K N' H M' v d:=
 bB.rec (motive_1:=λM v d _=>∀M',d.hard=true->bB K N' H M' v d) (motive_2:=λvs ds _=>TU ds=true->b6 K N' H vs ds) (λ_ _=>.non) (λb _ _=>.bl b) (λi _ _=>.int i) (λx _ _=>.str x) (λn _ _=>.ty n) (λq _ _=>.fn q) (λq _ r _ h=>.tup q (r h))
  (λ_ _ _ _ _ h=>nomatch h) (λ_ _ _ _ h=>nomatch h) (λ_ _ _ _ _ h=>nomatch h) (λ_ _ _ _ h=>nomatch h) (λp q r _ _=>.exn p q r) (λ_ _ _ _ _ _ _ h=>nomatch h) (λ_ _ _ _ _ h=>nomatch h) (λ_=>.nil) (λ_ _ a b e=>.cons (a _ (Dq.mp e).1) (b (Dq.mp e).2)) h M' e
theorem b6.hard{N':Rf->Prop}:∀{vs:List V} {ds:List c6},b6 K N H vs ds->TU ds=true->b6 K N' H vs ds:=by
 intro vs;induction vs with
 |nil=>intro ds h _;cases h;exact .nil
 |cons v vs c=>intro ds h e;cases h with|cons a b=>exact .cons (a.hard (Dq.mp e).1) (c b (Dq.mp e).2)
end
inductive Sl where
 |no|va (d:c6)|ow (d:c6)
abbrev Ev:=List Sl
structure Bs where
 Z:Rf->Prop
 P:Rf->Prop
 H0:Hp
 mu:Nat->Option Rf
 kp:List (V×c6)
def Nn(B:Bs)(O:Nat->Option Rf):Rf->Prop:=λa=>B.Z a∨∃i,O i=some a
def OA(O:Nat->Option Rf):Rf->Prop:=λa=>∃i,O i=some a
inductive NL(K:Al)(N:Rf->Prop)(H:Hp)(a:Rf):c6->Prop
 |lst {xs:List V} {ds:List c6}:H a=some (.lst xs)->b6 K N H xs ds->NL K N H a (.lst ds)
 |dct {kvs:List (aG×V)} {ds:List c6}:H a=some (.dK kvs)->b6 K N H (kvs.map Ec) ds->NL K N H a (.dct (kvs.map Db) ds)
 |flt {x f g:Rg} {xs ys:List V} {ds:List c6}:R9 K H a x f g xs ys->b6 K N H (xs++ys) ds->NL K N H a (.flt x f g xs.length ds)
theorem NL.fr{K:Al}{N P:Rf->Prop}{H H':Hp}{a:Rf}{d:c6}(f:Fr P H H')(c:∀a,P a->N a)(b:¬P a):NL K N H a d->NL K N H' a d
 |.lst q r=>.lst (f _ _ q λz=>absurd z b) (r.fr f c)
 |.dct q r=>.dct (f _ _ q λz=>absurd z b) (r.fr f c)
 |.flt q r=>.flt (q.fr f b) (r.fr f c)
theorem NL.mono{K:Al}{N N':Rf->Prop}{H:Hp}{a:Rf}{d:c6}(h:∀b,N' b->N b):NL K N H a d->NL K N' H a d
 |.lst q r=>.lst q (r.mono h)
 |.dct q r=>.dct q (r.mono h)
 |.flt q r=>.flt q (r.mono h)
theorem NL.soft{K:Al}{N:Rf->Prop}{H:Hp}{a:Rf}{d:c6}(h:NL K N H a d):∃o,H a=some o/\¬Hard o:=by
 cases h with
 |lst q _=>exact⟨_,q,λz=>z⟩
 |dct q _=>exact⟨_,q,λz=>z⟩
 |flt q _=>exact q.there
theorem NL.rep{K:Al}{N M:Rf->Prop}{H:Hp}{a:Rf}{d:c6}(h:NL K N H a d)(b:¬M a):bB K N H M (.ref a) d:=by
 cases h with
 |lst q r=>exact .lst q b r
 |dct q r=>exact .dct q b r
 |flt q r=>exact .flt q b r
structure Z6(K:Al)(ml:List Nat)(B:Bs)(O:Nat->Option Rf)(H:Hp)(σ:St)(δ:Ev):Prop where
 len:σ.length=δ.length
 va:∀(i:Nat) (d:c6),δ[i]?=some (Sl.va d)->∃v,σ[i]?=some (some v)/\bB K (Nn B O) H (Nn B O) v d
 ow:∀(i:Nat) (d:c6),δ[i]?=some (Sl.ow d)->∃a,O i=some a/\σ[i]?=some (some (.ref a))/\NL K (Nn B O) H a d
 dom:∀(i:Nat) a,O i=some a->∃d,δ[i]?=some (Sl.ow d)
 inj:∀i j a,O i=some a->O j=some a->i=j
 old:∀i a,O i=some a->¬B.Z a/\(B.P a∨B.H0 a=none)
 zin:∀a,B.Z a->∃o,H a=some o
 frm:Fr B.P B.H0 H
 par:(∀i a,B.mu i=some a->i∈ml)/\∀i∈ml,O i=B.mu i
 pin:∀a,B.P a->∃o,H a=some o
 kep:∀p∈B.kp,bB K (Nn B O) H (Nn B O) p.1 p.2
section
variable{K:Al}{ml:List Nat}{B:Bs}{O:Nat->Option Rf}{H H':Hp}{σ:St}{δ δ':Ev}
theorem Z6.nin(S:Z6 K ml B O H σ δ){a:Rf}(h:Nn B O a):∃o,H a=some o:=by
 rcases h with h|⟨i,h⟩
 ·exact S.zin a h
 ·obtain⟨d,e⟩:=S.dom i a h
  obtain⟨c,b,_,w⟩:=S.ow i d e;rw[h] at b;cases b;obtain⟨o,q,_⟩:=w.soft;exact⟨o,q⟩
theorem Z6.new(S:Z6 K ml B O H σ δ){a:Rf}(h:H a=none):¬Nn B O a:=λz=>by obtain⟨o,q⟩:=S.nin z;rw[h] at q;cases q
theorem Z6.same(S:Z6 K ml B O H σ δ)(f:aH H H'):Z6 K ml B O H' σ δ where
 len:=S.len
 va:=λi d e=>let ⟨v,a,b⟩:=S.va i d e;⟨v,a,b.same f⟩
 ow:=λi d e=>let ⟨a,b,c,w⟩:=S.ow i d e;⟨a,b,c,w.fr (P:=λ_=>False) f.fr (λ_ z=>z.elim) λz=>z⟩
 dom:=S.dom
 inj:=S.inj
 old:=S.old
 zin:=λa h=>let ⟨o,q⟩:=S.zin a h;⟨o,f _ _ q⟩
 frm:=S.frm.trans f.fr
 par:=S.par
 pin:=λa h=>let ⟨o,q⟩:=S.pin a h;⟨o,f _ _ q⟩
 kep:=λp h=>(S.kep p h).same f
theorem Z6.fresh(S:Z6 K ml B O H σ δ){a:Rf}(h:H a=none):B.H0 a=none:=by
 cases q:B.H0 a with
 |none=>rfl
 |some o=>
  by_cases b:B.P a
  ·obtain⟨o',e⟩:=S.pin a b
   rw[h] at e;cases e
  ·have := S.frm a o q λz => absurd z b
   rw[h] at this;cases this
def Bs.add(B:Bs)(p:Rf):Bs:={B with Z:=λa=>B.Z a∨a=p}
theorem QX{p:Rf}:∀a,Nn B O a->Nn (B.add p) O a:=λa h=>by
 rcases h with h|h
 ·exact .inl (.inl h)
 ·exact .inr h
theorem bB.away{p:Rf}(k:H p=none)(N N':Rf->Prop)(j:∀a,N' a->N a∨a=p){M M':Rf->Prop}{v:V}{d:c6}(c:∀a,M' a->M a∨a=p)(h:bB K N H M v d):bB K N' H M' v d:=
 have no:∀{a:Rf} {o:HO} {M M':Rf->Prop},H a=some o->¬M a->(∀a,M' a->M a∨a=p)->¬M' a:=λq n c z=>(c _ z).elim n λe=>by rw[e,k] at q;cases q
 bB.rec (motive_1:=λM v d _=>∀M',(∀a,M' a->M a∨a=p)->bB K N' H M' v d) (motive_2:=λvs ds _=>b6 K N' H vs ds) (λ_ _=>.non) (λb _ _=>.bl b) (λi _ _=>.int i) (λx _ _=>.str x) (λn _ _=>.ty n) (λq _ _=>.fn q) (λq _ r _ _=>.tup q r)
  (λq n _ r _ c=>.lst q (no q n c) r) (λq _ r _ c=>.fzm (q.imp id λ⟨x,C,dx,f,g,p,q,us,ws,h1,h2,n,z⟩=>⟨x,C,dx,f,g,p,q,us,ws,h1,h2,no h2 n c,z⟩) r) (λq n _ r _ c=>.dct q (no q n c) r) (λq _ r _ _=>.ktb q r) (λp q r _ _=>.exn p q r) (λp q r s _ t _ _=>.exr p q r s (t _ j)) (λq n _ r _ c=>.flt q (let ⟨_,e,_⟩:=q.there;no e n c) r) .nil (λ_ _ a b=>.cons (a _ j) b) h M' c
theorem b6.away{p:Rf}(c:H p=none)(N N':Rf->Prop)(b:∀a,N' a->N a∨a=p){vs:List V}{ds:List c6}(h:b6 K N H vs ds):b6 K N' H vs ds:=h.map λr=>r.away c N N' b b
theorem WH{p:Rf}:∀a,Nn (B.add p) O a->Nn B O a∨a=p:=λa h=>by
 rcases h with(h|h)|h
 ·exact .inl (.inl h)
 ·exact .inr h
 ·exact .inl (.inr h)
theorem Z6.laid(S:Z6 K ml B O H σ δ){p:Rf}{o:HO}(f:H p=none):Z6 K ml (B.add p) O (upd H p o) σ δ where
 len:=S.len
 va:=λi d e=>let ⟨v,a,b⟩:=S.va i d e;⟨v,a,(b.away f _ _ WH WH).same (cS f)⟩
 ow:=λi d e=>by
  obtain⟨a,b,c,w⟩:=S.ow i d e;refine⟨a,b,c,?_⟩;have g:∀o,H a=some o->upd H p o=upd H p o:=λ_ _=>rfl;cases w with
  |lst q r=>exact .lst (cS f _ _ q) ((r.away f _ _ WH).same (cS f))
  |dct q r=>exact .dct (cS f _ _ q) ((r.away f _ _ WH).same (cS f))
  |flt q r=>exact .flt (q.same (cS f)) ((r.away f _ _ WH).same (cS f))
 dom:=S.dom
 inj:=S.inj
 old:=λi a h=>by
  refine⟨λz=>?_,(S.old i a h).2⟩;rcases z with z|z
  ·exact(S.old i a h).1 z
  ·obtain⟨o,q⟩:=S.nin (.inr ⟨i,h⟩)
   rw[z,f] at q;cases q
 zin:=λa h=>by
  rcases h with h|h
  ·obtain⟨o,q⟩:=S.zin a h
   exact⟨o,cS f _ _ q⟩
  ·exact⟨_,by rw[h];exact cN⟩
 frm:=S.frm.trans (cS f).fr
 par:=S.par
 pin:=λa h=>let ⟨o,q⟩:=S.pin a h;⟨o,cS f _ _ q⟩
 kep:=λp h=>((S.kep p h).away f _ _ WH WH).same (cS f)
theorem NV{i:Nat}{o:Option Rf}:∀a,Nn B (λj=>if j=i then none else O j) a->Nn B O a:=λa h=>by
 rcases h with h|⟨j,h⟩
 ·exact .inl h
 ·refine .inr ⟨j,?_⟩
  by_cases b:j=i
  ·simp[b] at h
  ·simpa[b] using h
theorem R7{α:Type}{l:List α}{i j:Nat}{x y:α}(h:(l.set i x)[j]?=some y):(j=i/\y=x/\i<l.length)∨(j≠i/\l[j]?=some y):=by
 by_cases a:j=i
 ·subst a
  rw[List.getElem?_set_self'] at h;obtain⟨z,q,h⟩:=At.mp h;cases h;exact .inl ⟨rfl,rfl,(Ag.mp q).1⟩
 ·rw[Bw (Cq a)] at h
  exact .inr ⟨a,h⟩
theorem Z6.setVa(S:Z6 K ml B O H σ δ){i:Nat}{v:V}{d:c6}(m:i∉ml)(h:bB K (Nn B O) H (Nn B O) v d):Z6 K ml B (λj=>if j=i then none else O j) H (σ.set i (some v)) (δ.set i (.va d)) where
 len:=by rw[Ca,Ca,S.len]
 va:=λj e q=>by
  rcases R7 q with⟨rfl,z,hl⟩|⟨b,q⟩
  ·cases z
   exact⟨v,by rw[Dd (by rw[S.len];exact hl)],h.mono (NV (o:=none)) (NV (o:=none))⟩
  ·obtain⟨u,c,r⟩:=S.va j e q
   exact⟨u,by rw[Bw (Cq b)];exact c,r.mono (NV (o:=none)) (NV (o:=none))⟩
 ow:=λj e q=>by
  rcases R7 q with⟨rfl,z,hl⟩|⟨b,q⟩
  ·cases z
  ·obtain⟨a,c,f,w⟩:=S.ow j e q
   exact⟨a,by simpa[b] using c,by rw[Bw (Cq b)];exact f,w.mono (NV (o:=none))⟩
 dom:=λj a e=>by
  by_cases b:j=i
  ·simp[b] at e
  ·obtain ⟨d,q⟩ := S.dom j a (by simpa [b] using e)
   exact⟨d,by rw[Bw (Cq b)];exact q⟩
 inj:=λj k a c f=>by
  by_cases b:j=i
  ·simp[b] at c
  ·by_cases hk:k=i
   ·simp[hk] at f
   ·exact S.inj j k a (by simpa[b] using c) (by simpa[hk] using f)
 old:=λj a e=>by
  by_cases b:j=i
  ·simp[b] at e
  ·exact S.old j a (by simpa[b] using e)
 zin:=S.zin
 frm:=S.frm
 par:=⟨S.par.1,λj b=>by have g:j≠i:=λz=>m (z▸b);have h2:O j=B.mu j:=S.par.2 j b;simpa[g] using h2⟩
 pin:=S.pin
 kep:=λp l=>(S.kep p l).mono (NV (o:=none)) (NV (o:=none))
theorem OV{i:Nat}{p:Rf}:∀a,Nn B (λj=>if j=i then some p else O j) a->Nn (B.add p) O a:=λa h=>by
 rcases h with h|⟨j,h⟩
 ·exact .inl (.inl h)
 ·by_cases b:j=i
  ·simp[b] at h
   exact .inl (.inr h.symm)
  ·exact .inr ⟨j,by simpa[b] using h⟩
theorem Z6.setOw{p:Rf}(S:Z6 K ml (B.add p) O H σ δ){i:Nat}{d:c6}(m:i∉ml)(hl:i<δ.length)(hz:¬B.Z p)(n:B.H0 p=none)(h:NL K (Nn (B.add p) O) H p d):
  Z6 K ml B (λj=>if j=i then some p else O j) H (σ.set i (some (.ref p))) (δ.set i (.ow d)) where
 len:=by rw[Ca,Ca,S.len]
 va:=λj e q=>by
  rcases R7 q with⟨rfl,z,_⟩|⟨b,q⟩
  ·cases z
  ·obtain⟨u,c,r⟩:=S.va j e q
   exact⟨u,by rw[Bw (Cq b)];exact c,r.mono OV OV⟩
 ow:=λj e q=>by
  rcases R7 q with⟨rfl,z,hl⟩|⟨b,q⟩
  ·cases z
   exact⟨p,by simp,by rw[Dd (by rw[S.len];exact hl)],h.mono OV⟩
  ·obtain⟨a,c,f,w⟩:=S.ow j e q
   exact⟨a,by simpa[b] using c,by rw[Bw (Cq b)];exact f,w.mono OV⟩
 dom:=λj a e=>by
  by_cases b:j=i
  ·subst b
   exact⟨d,by rw[Dd hl]⟩
  ·obtain ⟨d,q⟩ := S.dom j a (by simpa [b] using e)
   exact⟨d,by rw[Bw (Cq b)];exact q⟩
 inj:=λj k a c f=>by
  by_cases b:j=i
  ·by_cases hk:k=i
   ·rw[b,hk]
   ·simp[b] at c
    simp[hk] at f;exact absurd (.inr c.symm) (S.old k a f).1
  ·by_cases hk:k=i
   ·simp[hk] at f
    simp[b] at c;exact absurd (.inr f.symm) (S.old j a c).1
   ·exact S.inj j k a (by simpa[b] using c) (by simpa[hk] using f)
 old:=λj a e=>by
  by_cases b:j=i
  ·simp[b] at e
   subst e;exact⟨hz,.inr n⟩
  ·have := S.old j a (by simpa [b] using e)
   exact⟨λz=>this.1 (.inl z),this.2⟩
 zin:=λa h=>S.zin a (.inl h)
 frm:=S.frm
 par:=⟨S.par.1,λj b=>by have g:j≠i:=λz=>m (z▸b);have h2:O j=B.mu j:=S.par.2 j b;simpa[g] using h2⟩
 pin:=S.pin
 kep:=λp l=>(S.kep p l).mono OV OV
theorem Z6.wrote(S:Z6 K ml B O H σ δ){i:Nat}{a:Rf}{d:c6}{o:HO}(e:O i=some a)(F:¬Hard o)(l:KN H a o)(h:NL K (Nn B O) (upd H a o) a d):Z6 K ml B O (upd H a o) σ (δ.set i (.ow d)):=by
 have A:Fr (λb=>b=a) H (upd H a o):=⟨λb u q n=>by
  by_cases f:b=a
  ·subst f
   obtain⟨d',x⟩:=S.dom i b e;obtain⟨t,c,_,w⟩:=S.ow i d' x;rw[e] at c;cases c;obtain⟨D,q1,y⟩:=w.soft;rw[q] at q1;cases q1;exact absurd (n rfl) y
  ·rw[cL f]
   exact q,l.upd⟩
 have m:∀b,b=a->Nn B O b:=λb z=>.inr ⟨i,z▸e⟩;have k:∀b,(∃u,H b=some u)->∃u,upd H a o b=some u:=λb q0=>by
  obtain⟨u,q⟩:=q0;by_cases f:b=a
  ·exact⟨o,by rw[f];exact cN⟩
  ·exact⟨u,by rw[cL f];exact q⟩
 refine⟨by rw[Ca,S.len],λj d' q=>?_,λj d' q=>?_,λj b q=>?_,S.inj,S.old,λb h=>k b (S.zin b h),?_,S.par,λb h=>k b (S.pin b h),λp E=>(S.kep p E).fr A m m⟩
 ·rcases R7 q with⟨_,z,_⟩|⟨g,q⟩
  ·cases z
  ·obtain⟨v,c,r⟩:=S.va j d' q
   exact⟨v,c,r.fr A m m⟩
 ·rcases R7 q with⟨rfl,z,hl⟩|⟨g,q⟩
  ·cases z
   obtain⟨s,q0⟩:=S.dom j a e;obtain⟨t,c,C,_⟩:=S.ow j s q0;rw[e] at c;cases c;exact⟨a,e,C,h⟩
  ·obtain⟨t,c,C,w⟩:=S.ow j d' q
   exact⟨t,c,C,w.fr A m λz=>g (S.inj j i a (z▸c) e)⟩
 ·by_cases g:j=i
  ·subst g
   obtain⟨s,q0⟩:=S.dom j b q;exact⟨d,by rw[Dd (Ag.mp q0).1]⟩
  ·obtain⟨s,q0⟩:=S.dom j b q
   exact⟨s,by rw[Bw (Cq g)];exact q0⟩
 ·refine ⟨λb u q n => ?_,λb _ _ _ _ _ _ _ _ h => let ⟨_,_,e⟩ := S.frm.ft _ _ _ _ _ _ _ _ _ h;l.upd _ _ _ _ _ _ _ _ _ e⟩
  have h1:=S.frm b u q n;by_cases f:b=a
  ·subst f
   rcases(S.old i b e).2 with z|z
   ·obtain⟨d',x⟩:=S.dom i b e
    obtain⟨t,c,_,w⟩:=S.ow i d' x;rw[e] at c;cases c;obtain⟨D,q1,y⟩:=w.soft;rw[h1] at q1;cases q1;exact absurd (n z) y
   ·rw[q] at z
    cases z
  ·rw[cL f]
   exact h1
theorem Z6.keepV(S:Z6 K ml B O H σ δ){ps:List (V×c6)}(h:∀p∈ps,bB K (Nn B O) H (Nn B O) p.1 p.2):Z6 K ml {B with kp:=ps++B.kp} O H σ δ:=
 ⟨S.len,S.va,S.ow,S.dom,S.inj,S.old,S.zin,S.frm,S.par,S.pin,λp a=>(Bz.mp a).elim (h p) (S.kep p)⟩
theorem Z6.unkeep{ps:List (V×c6)}(S:Z6 K ml {B with kp:=ps++B.kp} O H σ δ):Z6 K ml B O H σ δ:=
 ⟨S.len,S.va,S.ow,S.dom,S.inj,S.old,S.zin,S.frm,S.par,S.pin,λp a=>S.kep p (Bu _ a)⟩
end
def rz(B:Bs):Rf->Prop:=λa=>B.Z a∨∃i,B.mu i=some a
def av(B:Bs)(O:Nat->Option Rf)(b:Bool):Rf->Prop:=if b then Nn B O else λa=>Nn B O a/\rz B a
def at_(B:Bs)(O:Nat->Option Rf)(b:Bool):Rf->Prop:=if b then Nn B O else λ_=>False
theorem Vs{B:Bs}{O:Nat->Option Rf}{b:Bool}:∀a,at_ B O b a->av B O b a:=λa h=>by
 cases b with
 |true=>exact h
 |false=>exact h.elim
theorem Yv{B:Bs}{O:Nat->Option Rf}{b c:Bool}(h:b=true->c=true):∀a,at_ B O b a->at_ B O c a:=λa z=>by
 cases b with
 |true=>rw[h rfl];exact z
 |false=>exact z.elim
theorem Z6.rzn{K:Al}{ml:List Nat}{B:Bs}{O:Nat->Option Rf}{H:Hp}{σ:St}{δ:Ev}(S:Z6 K ml B O H σ δ):∀a,rz B a->Nn B O a:=λa h=>by
 rcases h with h|⟨i,h⟩
 ·exact .inl h
 ·exact .inr ⟨i,(S.par.2 i (S.par.1 i a h)).trans h⟩
theorem Z6.rza{K:Al}{ml:List Nat}{B:Bs}{O:Nat->Option Rf}{H:Hp}{σ:St}{δ:Ev}(S:Z6 K ml B O H σ δ){b:Bool}:∀a,rz B a->av B O b a:=λa h=>by
 cases b with
 |true=>exact S.rzn a h
 |false=>exact⟨S.rzn a h,h⟩
theorem T1{B:Bs}{O:Nat->Option Rf}{b c:Bool}(h:b=true->c=true):∀a,av B O b a->av B O c a:=λa z=>by
 cases b with
 |true=>rw[h rfl];exact z
 |false=>cases c with
  |true=>exact z.1
  |false=>exact z
structure Res(K:Al)(ml:List Nat)(B:Bs)(O:Nat->Option Rf)(H:Hp)(σ:St)(pu bt bi:Bool)(H':Hp)(δ':Ev)(v:V)(d:c6):Prop where
 sta:Z6 K ml B O H' σ δ'
 frm:Fr (OA O) H H'
 pur:pu=true->aH H H'
 rep:bB K (av B O bi) H' (at_ B O bt) v d
abbrev VF:=Ev->Option (c6×Ev)
def TV(K:Al)(ml:List Nat)(pu bt bi:Bool)(f:VF):TE:=λσ H Q=>∃B O δ d δ',Z6 K ml B O H σ δ/\f δ=some (d,δ')/\∀v H',Res K ml B O H σ pu bt bi H' δ' v d->Q v H'
theorem PE.imp{X:Cx}{e:Rk}{t u:TE}(h:PE X e t)(k:∀σ H Q,u σ H Q->t σ H Q):PE X e u:=λaa s σ H Q I w=>h aa s σ H Q I (k σ H Q w)
theorem PT.imp{X:Cx}{e:Rk}{t u:TT}(h:PT X e t)(k:∀σ H Q,u σ H Q->t σ H Q):PT X e u:=λaa s σ H Q I w=>h aa s σ H Q I (k σ H Q w)
theorem PW.imp{X:Cx}{e:Rk}{t u:TT}(h:PW X e t)(k:∀σ H Q,u σ H Q->t σ H Q):PW X e u:=λa aa s σ H Q I w=>h a aa s σ H Q I (k σ H Q w)
theorem PA.imp{X:Cx}{e:List Rk}{t u:TA}(h:PA X e t)(k:∀σ H Q,u σ H Q->t σ H Q):PA X e u:=λpos aa s σ H Q I w=>h pos aa s σ H Q I (k σ H Q w)
theorem PS.imp{X:Cx}{e:Rq}{t u:TS}(h:PS X e t)(k:∀D σ H,u D σ H->t D σ H):PS X e u:=λaa s σ H D I w=>h aa s σ H D I (k D σ H w)
theorem PF.imp{X:Cx}{e:List Rq}{t u:TS}(h:PF X e t)(k:∀D σ H,u D σ H->t D σ H):PF X e u:=λaa s σ H D I w=>h aa s σ H D I (k D σ H w)
section
variable{X:Cx}{K:Al}{ml:List Nat}{e a b c:Rk}{pa ta ia pb tb ib pc tc ic:Bool}{fa fb fc:VF}{r:R2}{o:c6->c6->Option c6}{B:Bs}{O:Nat->Option Rf}{H H1 H':Hp}{σ:St}{δ δ':Ev}{v:V}{d:c6}
def fC(d:c6):VF:=λδ=>some (d,δ)
theorem Res.refl{pu bt bi:Bool}(S:Z6 K ml B O H σ δ)(h:bB K (av B O bi) H (at_ B O bt) v d):Res K ml B O H σ pu bt bi H δ v d:=⟨S,Fr.refl _ _,λ_=>aH.refl _,h⟩
theorem AA(h:PE X e (tC v))(b:∀N H M,bB K N H M v d):PE X e (TV K ml true true true (fC d)):=h.imp λσ H Q a=>by obtain⟨B,O,δ,d',δ',S,q,k⟩:=a;cases q;exact k v H (Res.refl S (b _ _ _))
theorem c5{i j pos}:PE X (.Constant (.int i) j pos) (TV K ml true true true (fC (.int i))):=AA oV λ_ _ _=>.int i
theorem YA{i j pos}:PE X (.Constant (.bool i) j pos) (TV K ml true true true (fC (.bl i))):=AA gS λ_ _ _=>.bl i
theorem bF{j pos}:PE X (.Constant .none j pos) (TV K ml true true true (fC .non)):=AA kU λ_ _ _=>.non
theorem cP{i j pos}:PE X (.Constant (.str i) j pos) (TV K ml true true true (fC (.str i))):=AA lA λ_ _ _=>.str i
noncomputable def fV(i:Nat):VF:=λδ=>match δ[i]? with
 |some (.va d)=>some (d,δ)
 |_=>none
noncomputable def fO(i:Nat):VF:=λδ=>match δ[i]? with
 |some (.va d)=>some (d,δ)
 |some (.ow d)=>some (d,δ)
 |_=>none
theorem Ww{i:Nat}(h:PE X e (XT i)):PE X e (TV K ml true true true (fV i)):=h.imp λσ H Q a=>by
 obtain⟨B,O,δ,d',δ',S,q,k⟩:=a;unfold fV at q;split at q
 ·rename_i d hd
  cases q;obtain⟨v,b,r⟩:=S.va i _ hd;exact⟨v,b,k v H (Res.refl S r)⟩
 ·cases q
theorem lO{i:Nat}(h:PE X e (XT i)):PE X e (TV K ml true false true (fO i)):=h.imp λσ H Q b=>by
 obtain⟨B,O,δ,d',δ',S,q,k⟩:=b;unfold fO at q;split at q
 ·rename_i d hd
  cases q;obtain⟨v,c,r⟩:=S.va i _ hd;exact⟨v,c,k v H (Res.refl S (r.mono (λ_ z=>z) λa z=>z.elim))⟩
 ·rename_i d hd
  cases q;obtain⟨a,c,f,w⟩:=S.ow i _ hd;exact⟨.ref a,f,k _ H (Res.refl S (w.rep λz=>z))⟩
 ·cases q
theorem Res.live{H2:Hp}{c:V}{e:c6}(R2:Res K ml B O H1 σ pb tb ib H2 δ' c e)(b:(pb || (ta&&ia))=true)(h:bB K (av B O ia) H1 (at_ B O ta) v d):bB K (av B O ia) H2 (at_ B O ta) v d:=by
 cases pb with
 |true=>exact h.same (R2.pur rfl)
 |false=>
  have b:(ta&&ia)=true:=by simpa using b
  obtain⟨h1,h2⟩:=(Ah _ _).mp b;subst h1 h2;exact h.fr R2.frm (λa z=>.inr z) λa z=>.inr z
noncomputable def f2(o:c6->c6->Option c6)(fa fb:VF):VF:=λδ=>(fa δ).bind λp=>(fb p.2).bind λq=>(o p.1 q.1).map λc=>(c,q.2)
theorem OF{δ2:Ev}(h:f2 o fa fb δ=some (d,δ2)):∃x δ1 y,fa δ=some (x,δ1)/\fb δ1=some (y,δ2)/\o x y=some d:=by
 unfold f2 at h;cases h1:fa δ with
 |none=>rw[h1] at h;cases h
 |some p=>
  rw[h1] at h;cases h2:fb p.2 with
  |none=>simp[h2] at h
  |some q=>
   simp only[Ak,h2] at h;obtain⟨c,a,h⟩:=At.mp h;cases h;exact⟨p.1,p.2,q.1,rfl,h2,a⟩
def N8(K:Al)(r:R2)(o:c6->c6->Option c6):Prop:=∀(H:Hp) (N N' M M':Rf->Prop) (x y:V) (d e c:c6) (Q:VK),bB K N H M x d->bB K N' H M' y e->o d e=some c->(∀v,(∀H' N M,bB K N H' M v c)->Q v H)->r x y H Q
def OpC(K:Al)(r:R2)(o:c6->c6->Option c6):Prop:=∀(H:Hp) (N M M':Rf->Prop) (x y:V) (d e c:c6) (Q:VK),bB K N H M x d->bB K N H M' y e->o d e=some c->
 (∀v H',aH H H'->(∀M,(∀a,M a->∃o,H a=some o)->bB K N H' M v c)->Q v H')->r x y H Q
def OpI(K:Al)(r:R2)(o:c6->c6->Option c6):Prop:=∀(H:Hp) (N N' M M':Rf->Prop) (x y:V) (d e c:c6) (Q:VK),bB K N H M x d->bB K N' H M' y e->o d e=some c->(∀v,bB K N H N v c->Q v H)->r x y H Q
theorem ER(j:N8 K r o)(i:(pb || (ta&&ia))=true){Q:VK}(h:TV K ml (pa&&pb) true true (f2 o fa fb) σ H Q):tOp r (TV K ml pa ta ia fa) (TV K ml pb tb ib fb) σ H Q:=by
 obtain⟨B,O,δ,d,δ2,S,q,k⟩:=h;obtain⟨x,δ1,y,h1,h2,l⟩:=OF q;refine⟨B,O,δ,x,δ1,S,h1,λf H1 a=>⟨B,O,δ1,y,δ2,a.sta,h2,λe H2 R2=>?_⟩⟩;exact j H2 _ _ _ _ f e x y d Q (R2.live i a.rep) R2.rep l λv g=>k v H2 ⟨R2.sta,a.frm.trans R2.frm,λz=>by obtain⟨c,b⟩:=(Ah _ _).mp z;exact(a.pur c).trans (R2.pur b),g _ _ _⟩
theorem qG(m:OpC K r o)(l:(pb || (ta&&ia))=true){Q:VK}(h:TV K ml (pa&&pb) true (ia&&ib) (f2 o fa fb) σ H Q):tOp r (TV K ml pa ta ia fa) (TV K ml pb tb ib fb) σ H Q:=by obtain⟨B,O,δ,d,δ2,S,q,k⟩:=h;obtain⟨x,δ1,y,h1,h2,n⟩:=OF q;refine⟨B,O,δ,x,δ1,S,h1,λi H1 b=>⟨B,O,δ1,y,δ2,b.sta,h2,λg H2 R2=>?_⟩⟩;have s:∀a,av B O (ia&&ib) a->av B O ia a:=T1 λz=>((Ah _ _).mp z).1;have p:∀a,av B O (ia&&ib) a->av B O ib a:=T1 λz=>((Ah _ _).mp z).2;refine m H2 (av B O (ia&&ib)) _ _ i g x y d Q ((R2.live l b.rep).mono s λ_ z=>z) (R2.rep.mono p λ_ z=>z) n λv t c j=>k v t ⟨R2.sta.same c,(b.frm.trans R2.frm).trans c.fr,λz=>?_,j _ λa z=>R2.sta.nin z⟩;obtain⟨f,e⟩:=(Ah _ _).mp z;exact((b.pur f).trans (R2.pur e)).trans c
theorem jA(j:OpI K r o)(i:(pb || (ta&&ia))=true){Q:VK}(h:TV K ml (pa&&pb) ia ia (f2 o fa fb) σ H Q):tOp r (TV K ml pa ta ia fa) (TV K ml pb tb ib fb) σ H Q:=by
 obtain⟨B,O,δ,d,δ2,S,q,k⟩:=h;obtain⟨x,δ1,y,h1,h2,l⟩:=OF q;refine⟨B,O,δ,x,δ1,S,h1,λf H1 a=>⟨B,O,δ1,y,δ2,a.sta,h2,λe H2 R2=>?_⟩⟩;exact j H2 _ _ _ _ f e x y d Q (R2.live i a.rep) R2.rep l λv g=>k v H2 ⟨R2.sta,a.frm.trans R2.frm,λz=>by obtain⟨c,b⟩:=(Ah _ _).mp z;exact(a.pur c).trans (R2.pur b),g.mono (λ_ z=>z) Vs⟩
theorem Y1{op:Operator}{pos:Pos}(e:WB X (Fk op) r)(c:N8 K r o)(g:PE X a (TV K ml pa ta ia fa))(f:PE X b (TV K ml pb tb ib fb))(d:(pb || (ta&&ia))=true:=by rfl):PE X (.BinOp a op b pos) (TV K ml (pa&&pb) true true (f2 o fa fb)):=
 (Us e g f).imp λ_ _ _ h=>ER c d h
theorem bG{op:Operator}{pos:Pos}(e:WB X (Fk op) r)(c:OpC K r o)(g:PE X a (TV K ml pa ta ia fa))(f:PE X b (TV K ml pb tb ib fb))(d:(pb || (ta&&ia))=true:=by rfl):PE X (.BinOp a op b pos) (TV K ml (pa&&pb) true (ia&&ib) (f2 o fa fb)):=
 (Us e g f).imp λ_ _ _ h=>qG c d h
theorem X6{op:CmpOp}{pos:Pos}(e:WB X (Cu op) r)(c:N8 K r o)(i:PE X a (TV K ml pa ta ia fa))(g:PE X b (TV K ml pb tb ib fb))(f:Hd op b=false)(d:(pb || (ta&&ia))=true:=by rfl):PE X (.Compare a [op] [b] pos) (TV K ml (pa&&pb) true true (f2 o fa fb)):=
 (gM e i g f).imp λ_ _ _ h=>ER c d h
theorem jO{pos:Pos}(f:IxR X r)(d:OpI K r o)(i:PE X a (TV K ml pa ta ia fa))(g:PE X b (TV K ml pb tb ib fb))(c:G1 b)(e:(pb || (ta&&ia))=true:=by rfl):PE X (.Subscript a b pos) (TV K ml (pa&&pb) ia ia (f2 o fa fb)):=
 (oP f i g c).imp λ_ _ _ h=>jA d e h
noncomputable def oI(C:Int->Int->Bool)(g:Int->Int->c6):c6->c6->Option c6
 |.int i,.int j=>if C i j=true then some (g i j) else none
 |_,_=>none
theorem Vg{C:Int->Int->Bool}{g:Int->Int->c6}{d e c:c6}(h:oI C g d e=some c):∃i j,d=.int i/\e=.int j/\C i j=true/\c=g i j:=by
 unfold oI at h;split at h
 ·split at h
  ·rename_i hc
   cases h;exact⟨_,_,rfl,rfl,hc,rfl⟩
  ·cases h
 ·cases h
theorem BL{C:Int->Int->Prop}{a:Int->Int->Bool}{g:Int->Int->V}{g':Int->Int->c6}(m:∀i j,a i j=true->C i j)(l:∀i j N H M,bB K N H M (g i j) (g' i j)):N8 K (rI C g) (oI a g'):=by intro H N N' M M' x y d e c Q f b h k;obtain⟨i,j,rfl,rfl,hc,rfl⟩:=Vg h;cases f;cases b;exact⟨_,_,rfl,rfl,m _ _ hc,k _ λ_ _ _=>l ..⟩
theorem LX{g:Int->Int->V}{g':Int->Int->c6}(f:∀i j N H M,bB K N H M (g i j) (g' i j)):N8 K (D3 g) (oI (λ_ _=>true) g'):=by intro H N N' M M' x y d e c Q b a h k;obtain⟨i,j,rfl,rfl,hc,rfl⟩:=Vg h;cases b;cases a;exact⟨_,_,rfl,rfl,k _ λ_ _ _=>f ..⟩
noncomputable def cMul(i j:Int):Bool:=(decide (-18446744073709551616<i)&&decide (i<18446744073709551616)) || (decide (-18446744073709551616<j)&&decide (j<18446744073709551616))
noncomputable def cDiv(i j:Int):Bool:=decide (0<j)&&decide (j<1073741824)
noncomputable def cPow(i j:Int):Bool:=decide (0<=j)&&decide (j<=1000000)&&decide (i.natAbs<18446744073709551616)
noncomputable abbrev OW:=oI (λ_ _=>true) λi j=>.int (i - j)
noncomputable abbrev oMul:=oI cMul λi j=>.int (i*j)
noncomputable abbrev FZ:=oI cDiv λi j=>.int (i/j)
noncomputable abbrev NG:=oI (λ_ j=>decide (0<j)) λi j=>.int (i % j)
noncomputable abbrev oPow:=oI cPow λi j=>.int (i ^ j.toNat)
noncomputable abbrev oLt:=oI (λ_ _=>true) λi j=>.bl (decide (i<j))
noncomputable abbrev oLe:=oI (λ_ _=>true) λi j=>.bl (decide (i<=j))
noncomputable abbrev oGt:=oI (λ_ _=>true) λi j=>.bl (decide (j<i))
noncomputable abbrev oGe:=oI (λ_ _=>true) λi j=>.bl (decide (j<=i))
theorem Q6:N8 K (D3 λi j=>.int (i - j)) OW:=LX λi j _ _ _=>.int _
theorem eS:N8 K (rI CMul λi j=>.int (i*j)) oMul:=BL (λi j h=>by
 have p:(2:Int) ^ 64=18446744073709551616:=by decide
 unfold CMul;rw[p];simpa[cMul] using h) λi j _ _ _=>.int _
theorem EB:N8 K (rI CDiv λi j=>.int (i/j)) FZ:=BL (λi j h=>by show 0<j/\j<1073741824;simpa[cDiv] using h) λi j _ _ _=>.int _
theorem SW:N8 K (rI (λ_ j=>0<j) λi j=>.int (i % j)) NG:=BL (λi j h=>by simpa using h) λi j _ _ _=>.int _
theorem dD:N8 K (rI CPow λi j=>.int (i ^ j.toNat)) oPow:=BL (λi j h=>by
 have p:(2:Nat) ^ 64=18446744073709551616:=by decide
 unfold CPow;rw[p];simpa[cPow,and_assoc] using h) λi j _ _ _=>.int _
theorem s_lt:N8 K (D3 λi j=>.bl (decide (i<j))) oLt:=LX λi j _ _ _=>.bl _
theorem s_le:N8 K (D3 λi j=>.bl (decide (i<=j))) oLe:=LX λi j _ _ _=>.bl _
theorem s_gt:N8 K (D3 λi j=>.bl (decide (j<i))) oGt:=LX λi j _ _ _=>.bl _
theorem s_ge:N8 K (D3 λi j=>.bl (decide (j<=i))) oGe:=LX λi j _ _ _=>.bl _
noncomputable def J0(d:c6):Bool:=d.isD&&Ei d.pd
def eqD(d e:c6):Bool:=Iw d.pd e.pd
noncomputable def XF(d e:c6):Option c6:=if(J0 d&&J0 e)=true then some (.bl (eqD d e)) else none
noncomputable def QF(d e:c6):Option c6:=if(J0 d&&J0 e)=true then some (.bl (!eqD d e)) else none
theorem s_eq:N8 K (rEqD K) XF:=by
 intro H N N' M M' x y d e c Q f b h k;unfold XF at h;split at h
 ·rename_i a
  cases h;simp only[J0,Ah] at a;exact⟨d.pd,e.pd,f.dp a.1.1,b.dp a.2.1,a.1.2,a.2.2,k _ λ_ _ _=>.bl _⟩
 ·cases h
theorem SX:N8 K (rNeD K) QF:=by
 intro H N N' M M' x y d e c Q f b h k;unfold QF at h;split at h
 ·rename_i a
  cases h;simp only[J0,Ah] at a;exact⟨d.pd,e.pd,f.dp a.1.1,b.dp a.2.1,a.1.2,a.2.2,k _ λ_ _ _=>.bl _⟩
 ·cases h
noncomputable def isN:c6->Bool
 |.non=>true
 |_=>false
noncomputable def RA:c6->c6->Option c6
 |d,.non=>some (.bl (isN d))
 |_,_=>none
noncomputable def SU:c6->c6->Option c6
 |d,.non=>some (.bl (!isN d))
 |_,_=>none
theorem B6{N M:Rf->Prop}(h:bB K N H M v d):decide (v=V.non)=isN d:=by
 cases h<;>simp[isN]
theorem P9:N8 K (λx y H Q=>y=.non/\Q (.bl (decide (x=.non))) H) RA:=by
  intro H N N' M M' x y d e c Q b a h k;cases a<;>first
    | (cases h
       refine⟨rfl,?_⟩;rw[B6 b];exact k _ λ_ _ _=>.bl _)
    |(simp[RA] at h)
theorem ID:N8 K (λx y H Q=>y=.non/\Q (.bl (!decide (x=.non))) H) SU:=by
  intro H N N' M M' x y d e c Q b a h k;cases a<;>first
    | (cases h
       refine⟨rfl,?_⟩;rw[B6 b];exact k _ λ_ _ _=>.bl _)
    |(simp[SU] at h)
noncomputable def WR:c6->Option (List c6)
 |.tup ds=>some ds
 |.lst ds=>some ds
 |_=>none
theorem bB.seq{N M:Rf->Prop}{ds:List c6}(h:bB K N H M v d)(e:WR d=some ds):∃a xs,v=.ref a/\(WT K H a xs∨UV K H a xs)/\b6 K N H xs ds:=by
 cases h<;>first
  |(cases e;rename_i q r;exact⟨_,_,rfl,.inr q,r⟩)
  |(cases e;rename_i q n r;exact⟨_,_,rfl,.inl (WT.of q),r⟩)
  |(cases e;rename_i q r;exact⟨_,_,rfl,.inl q.sq,r⟩)
  |cases e
theorem fZ{N:Rf->Prop}{xs:List V}{ds:List c6}{i:Int}(r:b6 K N H xs ds)(h:WJ ds i=some d):∃v,WJ xs i=some v/\bB K N H N v d:=by
 unfold WJ at h⊢;rw[r.length];cases hi:JQ ds.length i with
 |none=>rw[hi] at h;cases h
 |some j=>
  rw[hi] at h;exact r.get h
end
section
variable{X:Cx}{K:Al}{ml:List Nat}{e a b c:Rk}{es:List Rk}{pa ta ia pb tb ib pc tc ic pu bt bi ps bs:Bool}{fa fb fc:VF}{r r':R2}{o o':c6->c6->Option c6}{B:Bs}{O:Nat->Option Rf}{H H1 H':Hp}{σ:St}{δ δ':Ev}{v:V}{d:c6}{p:Rf}{pos:Pos}
theorem Z6.unadd(S:Z6 K ml (B.add p) O H σ δ):Z6 K ml B O H σ δ where
 len:=S.len
 va:=λi d e=>let ⟨v,a,b⟩:=S.va i d e;⟨v,a,b.mono QX QX⟩
 ow:=λi d e=>let ⟨a,b,c,w⟩:=S.ow i d e;⟨a,b,c,w.mono QX⟩
 dom:=S.dom
 inj:=S.inj
 old:=λi a h=>⟨λz=>(S.old i a h).1 (.inl z),(S.old i a h).2⟩
 zin:=λa h=>S.zin a (.inl h)
 frm:=S.frm
 par:=S.par
 pin:=S.pin
 kep:=λp h=>(S.kep p h).mono QX QX
structure ResN(K:Al)(ml:List Nat)(B:Bs)(O:Nat->Option Rf)(H:Hp)(σ:St)(pu:Bool)(H':Hp)(δ':Ev)(p:Rf)(d:c6):Prop where
 sta:Z6 K ml (B.add p) O H' σ δ'
 frm:Fr (OA O) H H'
 pur:pu=true->aH H H'
 own:NL K (Nn (B.add p) O) H' p d
 nz:¬Nn B O p
 h0:B.H0 p=none
def TN(K:Al)(ml:List Nat)(pu:Bool)(f:VF):TE:=λσ H Q=>∃B O δ d δ',Z6 K ml B O H σ δ/\f δ=some (d,δ')/\∀p H',ResN K ml B O H σ pu H' δ' p d->Q (.ref p) H'
theorem bP{f:VF}(h:PE X e (TN K ml pu f)):PE X e (TV K ml pu true true f):=h.imp λσ H Q ⟨B,O,δ,d,δ',S,q,k⟩=>
 ⟨B,O,δ,d,δ',S,q,λp H' R=>k _ H' ⟨R.sta.unadd,R.frm,R.pur,(R.own.mono QX).rep R.nz⟩⟩
theorem mkN{xs:List V}{ds:List c6}(S:Z6 K ml B O H1 σ δ')(f:Fr (OA O) H H1)(s:pu=true->aH H H1)(a:H1 p=none)(r:b6 K (Nn B O) H1 xs ds):ResN K ml B O H σ pu (upd H1 p (.lst xs)) δ' p (.lst ds):=
 ⟨S.laid a,f.trans (cS a).fr,λz=>(s z).trans (cS a),.lst cN ((r.away a _ _ WH).same (cS a)),S.new a,S.fresh a⟩
theorem mkD(S:Z6 K ml B O H1 σ δ')(f:Fr (OA O) H H1)(s:pu=true->aH H H1)(a:H1 p=none):ResN K ml B O H σ pu (upd H1 p (.dK [])) δ' p (.dct [] []):=
 ⟨S.laid a,f.trans (cS a).fr,λz=>(s z).trans (cS a),.dct (kvs:=[]) cN .nil,S.new a,S.fresh a⟩
theorem jQ:PE X (.Dict [] [] pos) (TN K ml true (fC (.dct [] []))):=zDC.imp λσ H Q a=>by obtain⟨B,O,δ,d,δ',S,q,k⟩:=a;cases q;exact λp b=>k p _ (mkD S (Fr.refl _ _) (λ_=>aH.refl _) b)
abbrev PJ:=Ev->Option (List c6×Ev)
structure ResA(K:Al)(ml:List Nat)(B:Bs)(O:Nat->Option Rf)(H:Hp)(σ:St)(pu b:Bool)(H':Hp)(δ':Ev)(vs:List V)(ds:List c6):Prop where
 sta:Z6 K ml B O H' σ δ'
 frm:Fr (OA O) H H'
 pur:pu=true->aH H H'
 rep:b6 K (av B O b) H' vs ds
def EW(K:Al)(ml:List Nat)(pu b:Bool)(f:PJ):TA:=λσ H Q=>∃B O δ d δ',Z6 K ml B O H σ δ/\f δ=some (d,δ')/\∀vs H',ResA K ml B O H σ pu b H' δ' vs d->Q vs H'
def cC:PJ:=λδ=>some ([],δ)
noncomputable def cZ(fa:VF)(fs:PJ):PJ:=λδ=>(fa δ).bind λp=>(fs p.2).map λq=>(p.1::q.1,q.2)
theorem OG{fs:PJ}{ds:List c6}(h:cZ fa fs δ=some (ds,δ')):∃x δ1 xs,fa δ=some (x,δ1)/\fs δ1=some (xs,δ')/\ds=x::xs:=by
 unfold cZ at h;cases h1:fa δ with
 |none=>rw[h1] at h;cases h
 |some p=>
  rw[h1] at h;cases h2:fs p.2 with
  |none=>simp[h2] at h
  |some q=>
   simp only[Ak,h2] at h;cases h;exact⟨p.1,p.2,q.1,rfl,h2,rfl⟩
theorem cT:PA X [] (EW K ml true true cC):=ZE.imp λσ H Q a=>by obtain⟨B,O,δ,d,δ',S,q,k⟩:=a;cases q;exact k [] H ⟨S,Fr.refl _ _,λ_=>aH.refl _,.nil⟩
theorem c7{fs:PJ}(o:PE X a (TV K ml pa ta ia fa))(n:PA X es (EW K ml ps bs fs))(e:Ae (a::es) X.env=(false,eval a X.env)::Ae es X.env:=by rfl)(hl:(ps || (ta&&ia))=true:=by rfl)(m:ta=true:=by rfl):
  PA X (a::es) (EW K ml (pa&&ps) (ta&&ia&&bs) (cZ fa fs)):=(bC o n e).imp λσ H Q f=>by
 obtain⟨B,O,δ,d,δ2,S,q,k⟩:=f;obtain⟨x,δ1,xs,h1,h2,rfl⟩:=OG q;refine⟨B,O,δ,x,δ1,S,h1,λl H1 b=>⟨B,O,δ1,xs,δ2,b.sta,h2,λvs H2 R2=>k _ H2 ⟨R2.sta,b.frm.trans R2.frm,λz=>?_,?_⟩⟩⟩
 ·obtain⟨j,i⟩:=(Ah _ _).mp z
  exact(b.pur j).trans (R2.pur i)
 ·have g : ∀ c,((ta && ia && bs) = true -> c = true) -> ∀ a,av B O (ta && ia && bs) a -> av B O c a := λc h => T1 h
  have s:=g ta λz=>by simp only[Ah] at z;exact z.1.1
  have r:=g ia λz=>by simp only[Ah] at z;exact z.1.2
  have p:=g bs λz=>by simp only[Ah] at z;exact z.2
  refine .cons ?_ (R2.rep.mono p);have h:bB K (av B O ia) H2 (at_ B O ta) l x:=by
   cases ps with
   |true=>exact b.rep.same (R2.pur rfl)
   |false=>
    have e:(ta&&ia)=true:=by simpa using hl
    obtain⟨h1,h2⟩:=(Ah _ _).mp e;subst h1 h2;exact b.rep.fr R2.frm (λa z=>.inr z) λa z=>.inr z
  subst m;exact h.mono r s
theorem Z6.lone(S:Z6 K ml B O H σ δ){i:Nat}{x:c6}(e:i∉ml)(h:fO i δ=some (x,δ')):δ'=δ/\∃v,σ[i]?=some (some v)/\bB K (av B O false) H (av B O false) v x:=by
 unfold fO at h;split at h
 ·rename_i d hd
  cases h;obtain⟨v,b,r⟩:=S.va i _ hd;exact⟨rfl,v,b,r.mono (λa z=>z.1) λa z=>z.1⟩
 ·rename_i d hd
  cases h;obtain⟨a,b,f,w⟩:=S.ow i _ hd;refine⟨rfl,.ref a,f,(w.mono λa z=>z.1).rep λz=>?_⟩;rcases z.2 with z|⟨j,z⟩
  ·exact(S.old i a b).1 z
  ·have c:=S.par.1 j a z
   have:i=j:=S.inj i j a b ((S.par.2 j c).trans z)
   exact e (this▸c)
 ·cases h
theorem QB{i:Nat}{fs:PJ}(h:PE X a (XT i))(f:PA X es (EW K ml ps bs fs))(e:Ae (a::es) X.env=(false,eval a X.env)::Ae es X.env:=by rfl)(hl:ps=true:=by rfl)(g:i∉ml:=by decide):
  PA X (a::es) (EW K ml ps false (cZ (fO i) fs)):=(bC h f e).imp λσ H Q c=>by
 obtain⟨B,O,δ,d,δ2,S,q,k⟩:=c;obtain⟨x,δ1,xs,h1,h2,rfl⟩:=OG q;obtain⟨rfl,v,j,r⟩:=S.lone g h1;exact⟨v,j,B,O,δ1,xs,δ2,S,h2,λvs H2 R2=>k _ H2 ⟨R2.sta,R2.frm,R2.pur,.cons (r.same (R2.pur hl)) (R2.rep.mono (T1 (b:=false) λz=>nomatch z))⟩⟩
noncomputable def bE(fs:PJ):VF:=λδ=>(fs δ).bind λp=>if p.1.length<=16777216 then some (.tup p.1,p.2) else none
noncomputable def YT(fs:PJ):VF:=λδ=>(fs δ).bind λp=>if p.1.length<=16777216 then some (.lst p.1,p.2) else none
theorem FF{fs:PJ}{g:List c6->c6}(h:((fs δ).bind λp=>if p.1.length<=16777216 then some (g p.1,p.2) else none)=some (d,δ')):∃ds,fs δ=some (ds,δ')/\ds.length<=16777216/\d=g ds:=by
 cases h1:fs δ with
 |none=>rw[h1] at h;cases h
 |some p=>
  rw[h1] at h;have h:(if p.1.length<=16777216 then some (g p.1,p.2) else none)=some (d,δ'):=h;split at h
  ·cases h
   exact⟨p.1,rfl,by assumption,rfl⟩
  ·cases h
theorem cG{x1}{fs:PJ}(h:PA X es (EW K ml pu bs fs)):PE X (.Tuple es x1 pos) (TV K ml pu true bs (bE fs)):=(Sz h).imp λσ H Q b=>by obtain⟨B,O,δ,d,δ',S,q,k⟩:=b;obtain⟨ds,h1,hl,rfl⟩:=FF (g:=c6.tup) q;refine⟨B,O,δ,ds,δ',S,h1,λvs H1 R=>⟨by rw[R.rep.length,Cm];exact hl,λp a=>k _ _ ⟨R.sta.same (cS a),R.frm.trans (cS a).fr,λz=>(R.pur z).trans (cS a),.tup (UV.of cN) (R.rep.same (cS a))⟩⟩⟩
theorem aZ{fs:PJ}(h:PA X es (EW K ml pu true fs)):PE X (.List es pos) (TN K ml pu (YT fs)):=(DY h).imp λσ H Q a=>by obtain⟨B,O,δ,d,δ',S,q,k⟩:=a;obtain⟨ds,h1,hl,rfl⟩:=FF (g:=c6.lst) q;exact⟨B,O,δ,ds,δ',S,h1,λvs H1 R=>⟨by rw[R.rep.length,Cm];exact hl,λp b=>k p _ (mkN R.sta R.frm R.pur b R.rep)⟩⟩
abbrev VB:=Ev->Option (Bool×Ev)
structure ResB(K:Al)(ml:List Nat)(B:Bs)(O:Nat->Option Rf)(H:Hp)(σ:St)(pu:Bool)(H':Hp)(δ':Ev):Prop where
 sta:Z6 K ml B O H' σ δ'
 frm:Fr (OA O) H H'
 pur:pu=true->aH H H'
def TB(K:Al)(ml:List Nat)(pu:Bool)(f:VB):TT:=λσ H Q=>∃B O δ k δ',Z6 K ml B O H σ δ/\f δ=some (k,δ')/\∀H',ResB K ml B O H σ pu H' δ'->Q k H'
noncomputable def fB(f:VF):VB:=λδ=>(f δ).bind λp=>match p.1 with
 |.bl k=>some (k,p.2)
 |_=>none
theorem mW{f:VF}{k:Bool}(h:fB f δ=some (k,δ')):f δ=some (.bl k,δ'):=by
 unfold fB at h;cases h1:f δ with
 |none=>rw[h1] at h;cases h
 |some p=>
  obtain⟨x,δ1⟩:=p;rw[h1] at h;cases x<;>first
   |(cases h;rfl)
   |cases h
theorem IK{f:VF}{t:TE}(a:∀σ H Q,TV K ml pu bt bi f σ H Q->t σ H Q){Q:Bool->Hp->Prop}(h:TB K ml pu (fB f) σ H Q):t σ H λx H'=>∃k,x=.bl k/\Q k H':=by obtain⟨B,O,δ,k,δ',S,q,w⟩:=h;refine a σ H _ ⟨B,O,δ,.bl k,δ',S,mW q,λv H' R=>⟨k,?_,w H' ⟨R.sta,R.frm,R.pur⟩⟩⟩;cases R.rep;rfl
theorem bY{op:CmpOp}(e:WB X (Cu op) r)(c:N8 K r o)(i:PE X a (TV K ml pa ta ia fa))(g:PE X b (TV K ml pb tb ib fb))(f:Hd op b=false)(d:(pb || (ta&&ia))=true:=by rfl):PT X (.Compare a [op] [b] pos) (TB K ml (pa&&pb) (fB (f2 o fa fb))):=
 (qD e i g f).imp λ_ _ _ h=>IK (λ_ _ _=>ER c d) h
theorem ZU{f:VF}(h:PE X e (TV K ml pu bt bi f))(b:∀a,isTrue e X.env a=(do let v<-a;Mv e.pos;Jw [v] (truthy v)):=by intro _;rfl):PT X e (TB K ml pu (fB f)):=
 (jL h b).imp λ_ _ _ h=>IK (λ_ _ _ z=>z) h
noncomputable def ND(x y:VB):VB:=λδ=>(x δ).bind λp=>if p.1=true then y p.2 else some (false,p.2)
noncomputable def ET(x y:VB):VB:=λδ=>(x δ).bind λp=>if p.1=true then some (true,p.2) else y p.2
noncomputable def UY(x:VB):VB:=λδ=>(x δ).map λp=>(!p.1,p.2)
theorem ResB.refl(S:Z6 K ml B O H σ δ):ResB K ml B O H σ pu H δ:=⟨S,Fr.refl _ _,λ_=>aH.refl _⟩
theorem Zs{x y:VB}{Q:Bool->Hp->Prop}(h:TB K ml (pa&&pb) (ND x y) σ H Q):tAnd (TB K ml pa x) (TB K ml pb y) σ H Q:=by
 obtain⟨B,O,δ,k,δ',S,q,w⟩:=h;unfold ND at q;obtain⟨⟨kk,δ1⟩,h1,q⟩:=Aa.mp q;refine⟨B,O,δ,kk,δ1,S,h1,λH1 a=>?_⟩;cases kk with
 |true=>
  have q:y δ1=some (k,δ'):=q;exact HP ⟨B,O,δ1,k,δ',a.sta,q,λH2 R2=>w H2 ⟨R2.sta,a.frm.trans R2.frm,λz=>by obtain⟨c,b⟩:=(Ah _ _).mp z;exact(a.pur c).trans (R2.pur b)⟩⟩
 |false=>
  have q:some (false,δ1)=some (k,δ'):=q;cases q;exact HN (w H1 ⟨a.sta,a.frm,λz=>a.pur ((Ah _ _).mp z).1⟩)
theorem rD{x y:VB}{Q:Bool->Hp->Prop}(h:TB K ml (pa&&pb) (ET x y) σ H Q):tOr (TB K ml pa x) (TB K ml pb y) σ H Q:=by
 obtain⟨B,O,δ,k,δ',S,q,w⟩:=h;unfold ET at q;obtain⟨⟨kk,δ1⟩,h1,q⟩:=Aa.mp q;refine⟨B,O,δ,kk,δ1,S,h1,λH1 a=>?_⟩;cases kk with
 |false=>
  have q:y δ1=some (k,δ'):=q;exact HN ⟨B,O,δ1,k,δ',a.sta,q,λH2 R2=>w H2 ⟨R2.sta,a.frm.trans R2.frm,λz=>by obtain⟨c,b⟩:=(Ah _ _).mp z;exact(a.pur c).trans (R2.pur b)⟩⟩
 |true=>
  have q:some (true,δ1)=some (k,δ'):=q;cases q;exact HP (w H1 ⟨a.sta,a.frm,λz=>a.pur ((Ah _ _).mp z).1⟩)
theorem YX{x:VB}(h:PT X a (TB K ml pu x)):PT X (.UnaryOp .Not a pos) (TB K ml pu (UY x)):=(Xo h).imp λσ H Q b=>by obtain⟨B,O,δ,k,δ',S,q,w⟩:=b;unfold UY at q;obtain⟨p,h1,q⟩:=At.mp q;cases q;exact⟨B,O,δ,p.1,p.2,S,h1,w⟩
theorem M9{x:VB}(h:PT X a (TB K ml pu x)):PW X (.BoolOp .And [a] pos) (TB K ml pu x):=eN h
theorem WS{x:VB}(h:PT X a (TB K ml pu x)):PW X (.BoolOp .Or [a] pos) (TB K ml pu x):=oC h
theorem IN{x y:VB}(d:PT X a (TB K ml pa x))(c:PW X (.BoolOp .And (b::es) pos) (TB K ml pb y)):PW X (.BoolOp .And (a::b::es) pos) (TB K ml (pa&&pb) (ND x y)):=(pI d c).imp λ_ _ _ h=>Zs h
theorem T0{x y:VB}(d:PT X a (TB K ml pa x))(c:PW X (.BoolOp .Or (b::es) pos) (TB K ml pb y)):PW X (.BoolOp .Or (a::b::es) pos) (TB K ml (pa&&pb) (ET x y)):=(Xg d c).imp λ_ _ _ h=>rD h
theorem RE{x:VB}(h:PW X e (TB K ml pu x)):PT X e (TB K ml pu x):=h.pt
noncomputable def PV(x y:VF):VF:=λδ=>(x δ).bind λp=>match p.1 with
 |.bl true=>y p.2
 |.bl false=>some (.bl false,p.2)
 |_=>none
theorem UF{op}{f:VF}(h:PE X a (TV K ml pu bt bi f)):PE X (.BoolOp op [a] pos) (TV K ml pu bt bi f):=Vz h
theorem V5(l:PE X a (TV K ml pa ta ia fa))(j:PE X (.BoolOp .And (b::es) pos) (TV K ml pb tb ib fb)):PE X (.BoolOp .And (a::b::es) pos) (TV K ml (pa&&pb) tb ib (PV fa fb)):=(eJ l j).imp λσ H Q e=>by
 obtain⟨B,O,δ,d,δ',S,q,k⟩:=e;unfold PV at q;obtain⟨⟨x,δ1⟩,h1,q⟩:=Aa.mp q;refine⟨B,O,δ,x,δ1,S,h1,λi H1 c=>?_⟩;cases x with
 |bl kk=>
  have m:i=.bl kk:=by cases c.rep;rfl
  refine⟨kk,m,?_⟩;cases kk with
  |true=>
   exact HP ⟨B,O,δ1,d,δ',c.sta,q,λh H2 R2=>k h H2 ⟨R2.sta,c.frm.trans R2.frm,λz=>by obtain⟨g,f⟩:=(Ah _ _).mp z;exact(c.pur g).trans (R2.pur f),R2.rep⟩⟩
  |false=>
   cases q;exact HN (k _ H1 ⟨c.sta,c.frm,λz=>c.pur ((Ah _ _).mp z).1,.bl _⟩)
 |_=>cases q
noncomputable def JK(t:VB)(x y:VF):VF:=λδ=>(t δ).bind λp=>if p.1=true then x p.2 else y p.2
theorem WY{t:VB}(l:PT X c (TB K ml pc t))(n:PE X a (TV K ml pa ta ia fa))(m:PE X b (TV K ml pb tb ib fb)):PE X (.IfExp c a b pos) (TV K ml (pc&&pa&&pb) (ta&&tb) (ia&&ib) (JK t fa fb)):=(Ye l n m).imp λσ H Q g=>by
 obtain⟨B,O,δ,d,δ',S,q,k⟩:=g;unfold JK at q;obtain⟨⟨kk,δ1⟩,h1,q⟩:=Aa.mp q;refine⟨B,O,δ,kk,δ1,S,h1,λH1 e=>?_⟩;have j:∀c,((ta&&tb)=true->c=true)->∀a,at_ B O (ta&&tb) a->at_ B O c a:=λc h=>Yv h;have i:∀c,((ia&&ib)=true->c=true)->∀a,av B O (ia&&ib) a->av B O c a:=λc h=>T1 h;cases kk with
 |true=>
  exact HP ⟨B,O,δ1,d,δ',e.sta,q,λf H2 R2=>k f H2 ⟨R2.sta,e.frm.trans R2.frm,λz=>by simp only[Ah] at z;exact(e.pur z.1.1).trans (R2.pur z.1.2),R2.rep.mono (i _ λz=>((Ah _ _).mp z).1) (j _ λz=>((Ah _ _).mp z).1)⟩⟩
 |false=>
  exact HN ⟨B,O,δ1,d,δ',e.sta,q,λf H2 R2=>k f H2 ⟨R2.sta,e.frm.trans R2.frm,λz=>by simp only[Ah] at z;exact(e.pur z.1.1).trans (R2.pur z.2),R2.rep.mono (i _ λz=>((Ah _ _).mp z).2) (j _ λz=>((Ah _ _).mp z).2)⟩⟩
noncomputable def f3(o o':c6->c6->Option c6)(fa fb fc:VF):VF:=λδ=>(fa δ).bind λp=>(fb p.2).bind λq=>(o p.1 q.1).bind λz=>match z with
 |.bl true=>(fc q.2).bind λs=>(o' q.1 s.1).map λu=>(u,s.2)
 |.bl false=>some (.bl false,q.2)
 |_=>none
theorem GQ(w:N8 K r o)(j:N8 K r' o')(t:(pb || (ta&&ia))=true)(i:(pc || (tb&&ib))=true){Q:VK}(h:TV K ml (pa&&pb&&pc) true true (f3 o o' fa fb fc) σ H Q):EN r r' (TV K ml pa ta ia fa) (TV K ml pb tb ib fb) (TV K ml pc tc ic fc) σ H Q:=by
 obtain⟨B,O,δ,d,b,S,q,k⟩:=h;unfold f3 at q;obtain⟨⟨x,δ1⟩,h1,q⟩:=Aa.mp q;cases h2:fb δ1 with
 |none=>simp[h2] at q
 |some p2=>
  obtain⟨y,δ2⟩:=p2;simp only[Ak,h2] at q;refine⟨B,O,δ,x,δ1,S,h1,λp H1 a=>⟨B,O,δ1,y,δ2,a.sta,h2,λl H2 R2=>?_⟩⟩;obtain⟨z,D,q⟩:=Aa.mp q;refine w H2 _ _ _ _ p l x y z _ (R2.live t a.rep) R2.rep D λv c=>?_;have c:=c (λ_=>none) (λ_=>True) λ_=>True;cases z with
  |bl kk=>
   have E:v=.bl kk:=by cases c;rfl
   refine⟨kk,E,?_⟩;cases kk with
   |false=>
    cases q;exact HN (k _ H2 ⟨R2.sta,a.frm.trans R2.frm,λz=>by simp only[Ah] at z;exact(a.pur z.1.1).trans (R2.pur z.1.2),.bl _⟩)
   |true=>
    have q:((fc δ2).bind λs=>(o' y s.1).map λu=>(u,s.2))=some (d,b):=q;obtain⟨⟨g,f⟩,C,q⟩:=Aa.mp q;have q:((o' y g).map λu=>(u,f))=some (d,b):=q;obtain⟨u,A,q⟩:=At.mp q;cases q;refine HP ⟨B,O,δ2,g,_,R2.sta,C,λn m e=>?_⟩;exact j m _ _ _ _ l n y g d Q (e.live i R2.rep) e.rep A λv c=>k v m ⟨e.sta,(a.frm.trans R2.frm).trans e.frm,λz=>by simp only[Ah] at z;exact((a.pur z.1.1).trans (R2.pur z.1.2)).trans (e.pur z.2),c _ _ _⟩
  |_=>cases q
theorem Yu{op d:CmpOp}(k:WB X (Cu op) r)(g:WB X (Cu d) r')(i:N8 K r o)(e:N8 K r' o')(n:PE X a (TV K ml pa ta ia fa))(m:PE X b (TV K ml pb tb ib fb))(hc:PE X c (TV K ml pc tc ic fc))(l:Om [op,d] [b,c]=false:=by with_unfolding_all rfl)(j:(pb || (ta&&ia))=true:=by rfl)(f:(pc || (tb&&ib))=true:=by rfl):PE X (.Compare a [op,d] [b,c] pos) (TV K ml (pa&&pb&&pc) true true (f3 o o' fa fb fc)):=
 (lN k g n m hc l).imp λ_ _ _ h=>GQ i e j f h
theorem GW{op d:CmpOp}(k:WB X (Cu op) r)(g:WB X (Cu d) r')(i:N8 K r o)(e:N8 K r' o')(n:PE X a (TV K ml pa ta ia fa))(m:PE X b (TV K ml pb tb ib fb))(hc:PE X c (TV K ml pc tc ic fc))(l:Om [op,d] [b,c]=false:=by with_unfolding_all rfl)(j:(pb || (ta&&ia))=true:=by rfl)(f:(pc || (tb&&ib))=true:=by rfl):PT X (.Compare a [op,d] [b,c] pos) (TB K ml (pa&&pb&&pc) (fB (f3 o o' fa fb fc))):=
 (fR k g n m hc l).imp λ_ _ _ h=>IK (λ_ _ _=>GQ i e j f) h
end
section
variable{X:Cx}{K:Al}{ml:List Nat}{e a b c:Rk}{es:List Rk}{pa ta ia pb tb ib pc tc ic pu bt bi ps bs:Bool}{fa fb fc:VF}{B:Bs}{O:Nat->Option Rf}{H H1 H':Hp}{σ:St}{δ δ':Ev}{v:V}{d:c6}{p:Rf}{pos:Pos}
noncomputable def f1(o:c6->Option c6)(fa:VF):VF:=λδ=>(fa δ).bind λp=>(o p.1).map λc=>(c,p.2)
theorem LD{o:c6->Option c6}(h:f1 o fa δ=some (d,δ')):∃x,fa δ=some (x,δ')/\o x=some d:=by
 unfold f1 at h;cases h1:fa δ with
 |none=>rw[h1] at h;cases h
 |some p=>
  rw[h1] at h;have h:((o p.1).map λc=>(c,p.2))=some (d,δ'):=h;obtain⟨c,a,h⟩:=At.mp h;cases h;exact⟨p.1,rfl,a⟩
abbrev RC:=List V->Hp->VK->Prop
def CalS(K:Al)(r:RC)(o:c6->Option c6):Prop:=∀(H:Hp) (N M:Rf->Prop) (x:V) (d c:c6) (Q:VK),bB K N H M x d->o d=some c->(∀v,(∀H' N M,bB K N H' M v c)->Q v H)->r [x] H Q
def CalC(K:Al)(r:RC)(o:c6->Option c6):Prop:=∀(H:Hp) (N M:Rf->Prop) (x:V) (d c:c6) (Q:VK),bB K N H M x d->o d=some c->
 (∀v H',aH H H'->(∀M,(∀a,M a->∃o,H a=some o)->bB K N H' M v c)->Q v H')->r [x] H Q
def CalN(K:Al)(r:RC)(o:c6->Option c6):Prop:=∀(H:Hp) (N M:Rf->Prop) (x:V) (d c:c6) (Q:VK),bB K N H M x d->o d=some c->
 (∀p xs ds,H p=none->b6 K N H xs ds->c=.lst ds->Q (.ref p) (upd H p (.lst xs)))->r [x] H Q
def IP(K:Al)(r:RC)(o:c6->c6->Option c6):Prop:=∀(H:Hp) (N N' M M':Rf->Prop) (x y:V) (d e c:c6) (Q:VK),bB K N H M x d->bB K N' H M' y e->o d e=some c->(∀v,(∀H' N M,bB K N H' M v c)->Q v H)->r [x,y] H Q
theorem Xf{r:RC}{o:c6->Option c6}(e:CalS K r o){Q:VK}(h:TV K ml pa true true (f1 o fa) σ H Q):tCB r (KC (TV K ml pa ta ia fa) KZ) σ H Q:=by obtain⟨B,O,δ,d,δ',S,q,k⟩:=h;obtain⟨x,h1,h2⟩:=LD q;exact⟨B,O,δ,x,δ',S,h1,λb H1 a=>e H1 _ _ b x d Q a.rep h2 λv c=>k v H1 ⟨a.sta,a.frm,a.pur,c _ _ _⟩⟩
theorem fN{r:RC}{o:c6->Option c6}(f:CalC K r o){Q:VK}(h:TV K ml pa true ia (f1 o fa) σ H Q):tCB r (KC (TV K ml pa ta ia fa) KZ) σ H Q:=by obtain⟨B,O,δ,d,δ',S,q,k⟩:=h;obtain⟨x,h1,h2⟩:=LD q;exact⟨B,O,δ,x,δ',S,h1,λc H1 b=>f H1 _ _ c x d Q b.rep h2 λv H2 s2 e=>k v H2 ⟨b.sta.same s2,b.frm.trans s2.fr,λz=>(b.pur z).trans s2,e _ λa z=>b.sta.nin z⟩⟩
theorem KG{r:RC}{o:c6->Option c6}(f:CalN K r o){Q:VK}(h:TN K ml pa (f1 o fa) σ H Q):tCB r (KC (TV K ml pa ta true fa) KZ) σ H Q:=by obtain⟨B,O,δ,d,δ',S,q,k⟩:=h;obtain⟨x,h1,h2⟩:=LD q;refine⟨B,O,δ,x,δ',S,h1,λb H1 a=>f H1 _ _ b x d Q a.rep h2 λp xs ds e c g=>?_⟩;subst g;exact k p _ (mkN a.sta a.frm a.pur e c)
theorem eQ{r:RC}{o:c6->c6->Option c6}(j:IP K r o)(i:(pb || (ta&&ia))=true){Q:VK}(h:TV K ml (pa&&pb) true true (f2 o fa fb) σ H Q):tCB r (KC (TV K ml pa ta ia fa) (KC (TV K ml pb tb ib fb) KZ)) σ H Q:=by
 obtain⟨B,O,δ,d,δ2,S,q,k⟩:=h;obtain⟨x,δ1,y,h1,h2,l⟩:=OF q;refine⟨B,O,δ,x,δ1,S,h1,λf H1 a=>⟨B,O,δ1,y,δ2,a.sta,h2,λe H2 R2=>?_⟩⟩;exact j H2 _ _ _ _ f e x y d Q (R2.live i a.rep) R2.rep l λv g=>k v H2 ⟨R2.sta,a.frm.trans R2.frm,λz=>by obtain⟨c,b⟩:=(Ah _ _).mp z;exact(a.pur c).trans (R2.pur b),g _ _ _⟩
section
variable{x:Rg}{p':Pos}{id T:String}{r:RC}
theorem GS{o:c6->Option c6}(hc:ZW X (.builtin id) r)(e:CalS K r o)(i:Gl X x)(g:X.mg x=none)(d:Bm x=some (.builtin id))(j:PE X a (TV K ml pa ta ia fa))(f:x≠ "__name__":=by decide)(b:(x==("__debug__":Rg))=false:=by decide)(c:Ae (a::[]) X.env=(false,eval a X.env)::Ae [] X.env:=by rfl):PE X (.Call (.Name x p') [a] [] pos) (TV K ml pa true true (f1 o fa)):=
 (LY hc i g d (bC j ZE c) f b c).imp λ_ _ _ h=>Xf e h
theorem MN{o:c6->c6->Option c6}(hc:ZW X (.builtin id) r)(j:IP K r o)(m:Gl X x)(l:X.mg x=none)(g:Bm x=some (.builtin id))(p:PE X a (TV K ml pa ta ia fa))(n:PE X b (TV K ml pb tb ib fb))(k:x≠ "__name__":=by decide)(e:(x==("__debug__":Rg))=false:=by decide)(f:Ae (a::[b]) X.env=(false,eval a X.env)::Ae [b] X.env:=by rfl)(d:Ae (b::[]) X.env=(false,eval b X.env)::Ae [] X.env:=by rfl)(c:(Dx pos (Ae [b] X.env)).any (·.1)=false:=by rfl)(i:(pb || (ta&&ia))=true:=by rfl):PE X (.Call (.Name x p') [a,b] [] pos) (TV K ml (pa&&pb) true true (f2 o fa fb)):=
 (LY hc m l g (bC p (bC n ZE d) f) k e f c).imp λ_ _ _ h=>eQ j i h
theorem NY{o:c6->Option c6}(hc:ZW X (.type T) r)(e:CalC K r o)(i:Gl X x)(g:X.mg x=none)(d:Bm x=some (.type T))(j:PE X a (TV K ml pa ta ia fa))(f:x≠ "__name__":=by decide)(b:(x==("__debug__":Rg))=false:=by decide)(c:Ae (a::[]) X.env=(false,eval a X.env)::Ae [] X.env:=by rfl):PE X (.Call (.Name x p') [a] [] pos) (TV K ml pa true ia (f1 o fa)):=
 (UQ hc i g d (bC j ZE c) f b c).imp λ_ _ _ h=>fN e h
theorem CK{o:c6->Option c6}(hc:ZW X (.type T) r)(e:CalN K r o)(i:Gl X x)(g:X.mg x=none)(d:Bm x=some (.type T))(j:PE X a (TV K ml pa ta true fa))(f:x≠ "__name__":=by decide)(b:(x==("__debug__":Rg))=false:=by decide)(c:Ae (a::[]) X.env=(false,eval a X.env)::Ae [] X.env:=by rfl):PE X (.Call (.Name x p') [a] [] pos) (TN K ml pa (f1 o fa)):=
 (UQ hc i g d (bC j ZE c) f b c).imp λ_ _ _ h=>KG e h
theorem mM{o:c6->Option c6}(hc:ZW X (.builtin id) r)(e:CalN K r o)(i:Gl X x)(g:X.mg x=none)(d:Bm x=some (.builtin id))(j:PE X a (TV K ml pa ta true fa))(f:x≠ "__name__":=by decide)(b:(x==("__debug__":Rg))=false:=by decide)(c:Ae (a::[]) X.env=(false,eval a X.env)::Ae [] X.env:=by rfl):PE X (.Call (.Name x p') [a] [] pos) (TN K ml pa (f1 o fa)):=
 (LY hc i g d (bC j ZE c) f b c).imp λ_ _ _ h=>KG e h
end
noncomputable def ZO:c6->Option c6
 |.tup ds=>some (.int ds.length)
 |.lst ds=>some (.int ds.length)
 |.str z=>if z.length<=16777216 then some (.int z.length) else none
 |_=>none
def rLen(K:Al):RC:=λxs H Q=>(∃p ys,xs=[.ref p]/\(WT K H p ys∨UV K H p ys)/\Q (.int ys.length) H)∨∃z,xs=[.str z]/\z.length<=sizeLine/\Q (.int z.length) H
theorem lC(h:X.K=K):ZW X (.builtin "len") (rLen K):=by subst h;exact G8.or G9
theorem mX:CalS K (rLen K) ZO:=by
  intro H N M x d c Q b h k;cases d<;>first
    | (rename_i ds
       obtain⟨a,xs,rfl,sq,r⟩:=b.seq rfl;cases h;refine .inl ⟨a,xs,rfl,sq,?_⟩;rw[r.length];exact k _ λ_ _ _=>.int _)
    | (cases b
       simp only[ZO] at h;split at h
       · cases h
         exact .inr ⟨_,rfl,by rw[Cm];assumption,k _ λ_ _ _=>.int _⟩
       · cases h)
    |cases h
noncomputable def LW(d:c6):Option c6:=(WR d).map c6.lst
noncomputable def VW(d:c6):Option c6:=(WR d).map c6.tup
def Vb(K:Al):RC:=λxs H Q=>∃p ys,xs=[.ref p]/\(WT K H p ys∨UV K H p ys)/\∀l,H l=none->Q (.ref l) (upd H l (.lst ys))
def BY(K:Al):RC:=λxs H Q=>∃p ys,xs=[.ref p]/\((WT K H p ys/\∀l,H l=none->Q (.ref l) (upd H l (.tup ys)))∨(UV K H p ys/\Q (.ref p) H))
theorem HR(h:X.K=K):ZW X (.type "list") (Vb K):=kL h
theorem VD(h:X.K=K):ZW X (.type "tuple") (BY K):=jR h
theorem GJ{d:c6}{g:List c6->c6}{c:c6}(h:(WR d).map g=some c):∃ds,WR d=some ds/\c=g ds:=by
 cases h1:WR d with
 |none=>rw[h1] at h;cases h
 |some ds=>rw[h1] at h;cases h;exact⟨ds,rfl,rfl⟩
theorem VV:CalN K (Vb K) LW:=by intro H N M x d c Q b h k;obtain⟨ds,h1,rfl⟩:=GJ h;obtain⟨a,xs,rfl,sq,r⟩:=b.seq h1;exact⟨a,xs,rfl,sq,λl hl=>k l xs ds hl r rfl⟩
theorem U9:CalC K (BY K) VW:=by
 intro H N M x d c Q b h k;obtain⟨ds,h1,rfl⟩:=GJ h;obtain⟨a,xs,rfl,sq,r⟩:=b.seq h1;rcases sq with sq|sq
 ·exact⟨a,xs,rfl,.inl ⟨sq,λl hl=>k _ _ (cS hl) λM e=>.tup (UV.of cN) (r.same (cS hl))⟩⟩
 ·exact⟨a,xs,rfl,.inr ⟨sq,k _ _ (aH.refl _) λM e=>.tup sq r⟩⟩
noncomputable def o2I(g:Int->Int->Int):c6->c6->Option c6
 |.int i,.int j=>some (.int (g i j))
 |_,_=>none
theorem Su{g:Int->Int->Int}:IP K (λxs H Q=>∃i j,xs=[.int i,.int j]/\Q (.int (g i j)) H) (o2I g):=by
 intro H N N' M M' x y d e c Q b a h k;unfold o2I at h;split at h
 ·cases h
  cases b;cases a;exact⟨_,_,rfl,k _ λ_ _ _=>.int _⟩
 ·cases h
noncomputable abbrev oMax:=o2I λi j=>if j>i then j else i
noncomputable abbrev oMin:=o2I λi j=>if j<i then j else i
theorem Sc:IP K (λxs H Q=>∃i j,xs=[.int i,.int j]/\Q (.int (if j>i then j else i)) H) oMax:=Su
theorem Se:IP K (λxs H Q=>∃i j,xs=[.int i,.int j]/\Q (.int (if j<i then j else i)) H) oMin:=Su
noncomputable def tyD:c6->Option String
 |.non=>some "NoneType"
 |.bl _=>some "bool"
 |.int _=>some "int"
 |.str _=>some "str"
 |.tup _=>some "tuple"
 |.lst _=>some "list"
 |_=>none
noncomputable def OO(t n:String):Option Bool:=if((Iv t)==(Iv n))=true then some true else if W.kitMeta n=true then(PySem.fastBuiltinMro t).map (·.contains (.type n)) else none
theorem pR{t n:String}{k:Bool}(h:OO t n=some k):W.kitOne K (.type t) (.type n)=some k:=h
noncomputable def TQ:c6->c6->Option c6
 |d,.ty n=>(tyD d).bind λt=>(OO t n).map c6.bl
 |_,_=>none
def rIsi(K:Al):RC:=λxs H Q=>∃x n d N M t k,xs=[x,.ty n]/\bB K N H M x d/\tyD d=some t/\OO t n=some k/\Q (.bl k) H
theorem mG:ZW X (.builtin "isinstance") (rIsi X.K):=by
 intro aa s σ H xs us Q I r h;obtain⟨x,n,d,N,M,t,k,rfl,g,a,hk,q⟩:=h;obtain⟨u,c,rfl,b,f⟩:=CJ r;cases (show c=Iv n from f);have e:=pR (K:=X.K) hk;have fin:∀tk,EP X aa σ Q (.bool k) {s with toks:=tk}:=λtk=>⟨.bl k,H,I.tok tk,rfl,q⟩;cases g with
 |non=>cases a;exact RV I b (.non) e fin
 |bl y=>cases a;exact RV I b (.bl y) e fin
 |int i=>cases a;exact RV I b (.int i) e fin
 |str y=>cases a;exact RV I b (.str y) e fin
 |ty n=>cases a
 |fn _=>cases a
 |dct _ _ _=>cases a
 |flt _ _ _=>cases a
 |ktb _ _=>cases a
 |exn _ _ _=>cases a
 |exr _ _ _ _ _=>cases a
 |tup q _=>
  cases a;cases b;obtain⟨its,_,⟨o,h1,h2,_⟩,_⟩:=I.tuple q;exact Fp W.kitx_tuple I.kIn ⟨o,h1,h2⟩ e (λz=>nomatch z) fin
 |lst q _ _=>
  cases a;cases b;obtain⟨its,_,⟨o,n,h1,h2,_⟩,_⟩:=I.list (WT.of q);exact Fp Lv I.kIn ⟨o,h1,h2⟩ e (λz=>nomatch z) fin
 |fzm q _=>
  cases a;cases b;obtain⟨its,_,⟨o,n,h1,h2,_⟩,_⟩:=I.list q.sq;exact Fp Lv I.kIn ⟨o,h1,h2⟩ e (λz=>nomatch z) fin
theorem kIsi(h:X.K=K):ZW X (.builtin "isinstance") (rIsi K):=by subst h;exact mG
theorem Xr:IP K (rIsi K) TQ:=by
  intro H N N' M M' x y d e c Q b a h k;cases a<;>first
    | (simp only [TQ] at h
       cases h1:tyD d with
       |none=>rw[h1] at h;cases h
       |some t=>
         rw[h1] at h;rename_i n;have h:(OO t n).map c6.bl=some c:=h;obtain⟨kk,h2,h⟩:=At.mp h;cases h;exact⟨x,n,d,N,M,t,kk,rfl,b,h1,h2,k _ λ_ _ _=>.bl _⟩)
    |cases h
noncomputable def F0:c6->Option c6
 |.int i=>some (.int (-i))
 |_=>none
theorem PB(f:PE X a (TV K ml pa ta ia fa)):PE X (.UnaryOp .USub a pos) (TV K ml pa true true (f1 F0 fa)):=(dC gE f).imp λσ H Q c=>by
 obtain⟨B,O,δ,d,δ',S,q,k⟩:=c;obtain⟨x,h1,h2⟩:=LD q;refine⟨B,O,δ,x,δ',S,h1,λe H1 b=>?_⟩;cases x with
 |int i=>
  cases h2;have g:e=.int i:=by cases b.rep;rfl
  exact⟨i,g,k _ H1 ⟨b.sta,b.frm,b.pur,.int _⟩⟩
 |_=>cases h2
abbrev VP:=Ev->Option (Option Int×Ev)
def TPO(K:Al)(ml:List Nat)(pu:Bool)(f:VP):TO:=λσ H Q=>∃B O δ k δ',Z6 K ml B O H σ δ/\f δ=some (k,δ')/\∀H',ResB K ml B O H σ pu H' δ'->Q k H'
def pNo:VP:=λδ=>some (none,δ)
noncomputable def DW(f:VF):VP:=λδ=>(f δ).bind λp=>match p.1 with
 |.int i=>some (some i,p.2)
 |_=>none
theorem PO.imp{e:Option Rk}{t u:TO}(h:PO X e t)(k:∀σ H Q,u σ H Q->t σ H Q):PO X e u:=λaa s σ H Q I w=>h aa s σ H Q I (k σ H Q w)
theorem Q8:PO X none (TPO K ml true pNo):=zFU.imp λσ H Q a=>by obtain⟨B,O,δ,d,δ',S,q,k⟩:=a;cases q;exact k H (ResB.refl S)
theorem Q9(h:PE X a (TV K ml pa ta ia fa)):PO X (some a) (TPO K ml pa (DW fa)):=(mV h).imp λσ H Q c=>by
 obtain⟨B,O,δ,d,δ',S,q,k⟩:=c;unfold DW at q;obtain⟨⟨x,δ1⟩,h1,q⟩:=Aa.mp q;refine⟨B,O,δ,x,δ1,S,h1,λe H1 b=>?_⟩;cases x with
 |int i=>
  have f:e=.int i:=by cases b.rep;rfl
  cases q;exact⟨i,f,k H1 ⟨b.sta,b.frm,b.pur⟩⟩
 |_=>cases q
noncomputable def UN(ds:List c6)(lo hi:Option Int):List c6:=(ds.drop (HT.sIx ds.length 0 lo)).take (HT.sIx ds.length ds.length hi - HT.sIx ds.length 0 lo)
theorem MW{N:Rf->Prop}{xs:List V}{ds:List c6}(r:b6 K N H xs ds)(lo hi:Option Int):b6 K N H (E9 xs lo hi) (UN ds lo hi):=by unfold E9 UN;rw[r.length];exact(r.drop _).take _
noncomputable def oSl(d:c6)(lo hi:Option Int):Option c6:=match d with
 |.lst ds=>some (.lst (UN ds lo hi))
 |.tup ds=>some (.tup (UN ds lo hi))
 |_=>none
noncomputable def DB(fa:VF)(a fh:VP):VF:=λδ=>(fa δ).bind λp=>(a p.2).bind λl=>(fh l.2).bind λu=>(oSl p.1 l.1 u.1).map λc=>(c,u.2)
theorem gO{prog:Bb}{w:Rl}{A:Cn}{E:Rc->Af->Prop}{s:Af}{t b:Rf}{items:Array Rc}{f e:Rc}{lo hi:Option Int}{Q:Rc->Af->Prop}(a:IsTup s.heap t items)(g:s.heap.IsSliceOf b f e .none)(pl:IsPart f lo)(pu:IsPart e hi)(h1:HT.sIx items.size 0 lo=0)(h2:HT.sIx items.size items.size hi=items.size)(h:Q (.ref t) s):Rh (Rj prog w) A (Ki (.ref t) (.ref b)) Q E s:=by
 obtain⟨os,c,d,i⟩:=id g;have j:s.TypeIs (.ref b) "slice":=⟨os,c,d⟩;unfold Ki;try with_reducible refine Cb ?_
 first|refine Ac (Am ?_)|skip
 refine Ac (Jz a.typeIs (by decide) ?_);refine Ac (Dn (name:=Bj "__getitem__") a.typeIs Ee
  (Ed Ee a.typeIs PyProof.Rows.entry_tuple_getitem ?_ (PyProof.Rows.args_tuple_getitem _ _)))
 show Rh _ _ (Jp (.ref t)>>=_) _ _ s;refine Ac (PyProof.Rows.tupleItemsOf_ a ?_);refine Ac (Jt j ?_);rw[if_pos (by decide)];refine Ac (HT.UT g pl pu ?_);rw[h1,h2];show Rh _ _ (if((((0:Nat):Int)==0&&(1:Int)==1&&(items.size - 0)==items.size)=true) then _ else _) _ _ s;rw[if_pos (by simp)];refine Ac (m:=Pp _) (Ac (Jt a.typeIs (Am ?_)));rw[if_pos (by decide)];exact Ac (Ht (Am ⟨_,rfl,Am h⟩))
def rSlW(K:Al):V->Option Int->Option Int->Hp->VK->Prop:=λx lo hi H Q=>∃a xs,x=.ref a/\UV K H a xs/\(HT.sIx xs.length 0 lo=0/\HT.sIx xs.length xs.length hi=xs.length)/\Q (.ref a) H
theorem kQ:SlR X (rSlW X.K):=by
 intro aa s σ H x v i g lo hi j Q I d f pl pu h;obtain⟨a,xs,rfl,e,hw,q⟩:=h;cases d;obtain⟨its,r,b,hz⟩:=I.tuple e;have c:its.toArray.size=xs.length:=by rw[An];exact r.length.symm
 refine⟨"tuple",_,PyProof.Rows.slot_tuple_getitem.lookup,b.typeIs,?_⟩;exact gO b f pl pu (by rw[c];exact hw.1) (by rw[c];exact hw.2) ⟨.ref a,H,I,rfl,q⟩
def rSl(K:Al):V->Option Int->Option Int->Hp->VK->Prop:=λx lo hi H Q=>(rSlT K x lo hi H Q∨rSlL K x lo hi H Q)∨rSlW K x lo hi H Q
theorem kSl(h:X.K=K):SlR X (rSl K):=by subst h;exact(zIH.or Yh).or kQ
theorem qX{b fh:VP}(h:DB fa b fh δ=some (d,δ')):∃x δ1 l δ2 u,fa δ=some (x,δ1)/\b δ1=some (l,δ2)/\fh δ2=some (u,δ')/\oSl x l u=some d:=by
 unfold DB at h;cases h1:fa δ with
 |none=>rw[h1] at h;cases h
 |some p=>
  rw[h1] at h;cases h2:b p.2 with
  |none=>simp[h2] at h
  |some q=>
   simp only[Ak,h2] at h;cases a:fh q.2 with
   |none=>simp[a] at h
   |some s=>
    simp only[Ak,a] at h;obtain⟨c,e,h⟩:=At.mp h;cases h;exact⟨p.1,p.2,q.1,q.2,s.1,rfl,h2,a,e⟩
theorem Q7{lo hi:Option Rk}{p2:Pos}{v fh:VP}(E:X.K=K)(D:PE X a (TV K ml pa ta ia fa))(hl:PO X lo (TPO K ml pb v))(C:PO X hi (TPO K ml pc fh))(A:(pb&&pc || (ta&&ia))=true:=by rfl):
  PE X (.Subscript a (.Slice lo hi none p2) pos) (TV K ml (pa&&pb&&pc) true ia (DB fa v fh)):=(jC (kSl E) D hl C).imp λσ H Q s=>by
 obtain⟨B,O,δ,d,i,S,q,k⟩:=s;obtain⟨x,δ1,l,δ2,u,h1,h2,F,t⟩:=qX q;refine⟨B,O,δ,x,δ1,S,h1,λy H1 h=>⟨B,O,δ1,l,δ2,h.sta,h2,λH2 R2=>⟨B,O,δ2,u,i,R2.sta,F,λw c=>?_⟩⟩⟩;have o:bB K (av B O ia) w (at_ B O ta) y x:=by
  rcases(Hj _ _).mp A with z|z
  ·obtain⟨m,j⟩:=(Ah _ _).mp z
   exact(h.rep.same (R2.pur m)).same (c.pur j)
  ·obtain⟨m,j⟩:=(Ah _ _).mp z
   subst m j;exact(h.rep.fr R2.frm (λa z=>.inr z) λa z=>.inr z).fr c.frm (λa z=>.inr z) λa z=>.inr z
 have g:(pa&&pb&&pc)=true->aH H w:=λz=>by simp only[Ah] at z;exact((h.pur z.1.1).trans (R2.pur z.1.2)).trans (c.pur z.2)
 have f:=(h.frm.trans R2.frm).trans c.frm;cases x with
 |lst ds=>
  cases t;obtain⟨a,xs,rfl,sq,r⟩:=o.seq rfl;rcases sq with sq|sq
  ·exact .inl (.inr ⟨a,xs,rfl,sq,λp b=>k _ _ ⟨c.sta.same (cS b),f.trans (cS b).fr,λz=>(g z).trans (cS b),.lst cN (c.sta.new b) ((MW r l u).same (cS b))⟩⟩)
  ·cases o with
   |lst q n r'=>exact .inl (.inr ⟨a,_,rfl,WT.of q,λp b=>k _ _ ⟨c.sta.same (cS b),f.trans (cS b).fr,λz=>(g z).trans (cS b),.lst cN (c.sta.new b) ((MW r' l u).same (cS b))⟩⟩)
   |fzm q r'=>exact .inl (.inr ⟨a,_,rfl,q.sq,λp b=>k _ _ ⟨c.sta.same (cS b),f.trans (cS b).fr,λz=>(g z).trans (cS b),.lst cN (c.sta.new b) ((MW r' l u).same (cS b))⟩⟩)
 |tup ds=>
  cases t;cases o with
  |tup q r'=>
   by_cases hw:HT.sIx ds.length 0 l=0/\HT.sIx ds.length ds.length u=ds.length
   ·refine .inr ⟨_,_,rfl,q,by rw [r'.length];exact hw,k _ _ ⟨c.sta,f,g,?_⟩⟩
    have e:UN ds l u=ds:=by unfold UN;rw[hw.1,hw.2];simp
    rw[e];exact .tup q r'
   ·exact .inl (.inl ⟨_,_,rfl,q,by rw[r'.length];exact hw,λp b=>k _ _ ⟨c.sta.same (cS b),f.trans (cS b).fr,λz=>(g z).trans (cS b),.tup (UV.of cN) ((MW r' l u).same (cS b))⟩⟩)
 |_=>cases t
end
inductive Ou where
 |nx (δ:Ev)|rt (d:c6) (δ:Ev)|bk (δ:Ev)|ct (δ:Ev)
abbrev VS:=Ev->Option Ou
def Post(K:Al)(ml:List Nat)(B:Bs)(D:CQ):Ou->Prop
 |.nx δ'=>∀a H' b,Z6 K ml B b H' a δ'->D.nx a H'
 |.rt d δ'=>∀v a H' b,Z6 K ml B b H' a δ'->bB K (rz B) H' (rz B) v d->D.rt v H'
 |.bk δ'=>∀a H' b,Z6 K ml B b H' a δ'->D.bk a H'
 |.ct δ'=>∀a H' b,Z6 K ml B b H' a δ'->D.ct a H'
def TC(K:Al)(ml:List Nat)(g:VS):TS:=λD σ H=>∃B O δ o,Z6 K ml B O H σ δ/\g δ=some o/\Post K ml B D o
section
variable{X:Cx}{K:Al}{ml:List Nat}{e a b c:Rk}{es:List Rk}{pa ta ia pb tb ib pc tc ic pu bt bi ps bs:Bool}{fa fb fc f:VF}{B B':Bs}{O:Nat->Option Rf}{H H1 H':Hp}{σ:St}{δ δ':Ev}{v:V}{d:c6}{p:Rf}{pos:Pos}{st:Rq}{rest:List Rq}{g g':VS}
def a8:VS:=λδ=>some (.nx δ)
noncomputable def cI(g g':VS):VS:=λδ=>(g δ).bind λo=>match o with
 |.nx δ'=>g' δ'
 |o=>some o
theorem cK:PF X [] (TC K ml a8):=BS.imp λD σ H a=>by obtain⟨B,O,δ,o,S,q,k⟩:=a;cases q;exact k σ H O S
theorem c0(h1:PS X st (TC K ml g))(h2:PF X rest (TC K ml g')):PF X (st::rest) (TC K ml (cI g g')):=(L7 h1 h2).imp λD σ H a=>by
 obtain⟨B,O,δ,o,S,q,k⟩:=a;unfold cI at q;obtain⟨z,h1,q⟩:=Aa.mp q;refine⟨B,O,δ,z,S,h1,?_⟩;cases z with
 |nx δ1=>exact λb H' e c=>⟨B,e,δ1,o,c,q,k⟩
 |rt d δ1=>cases q;exact k
 |bk δ1=>cases q;exact k
 |ct δ1=>cases q;exact k
theorem cY(h1:PS X st (TC K ml g)):PF X [st] (TC K ml g):=(L7 h1 BS).imp λD σ H ⟨B,O,δ,o,S,q,k⟩=>⟨B,O,δ,o,S,q,by cases o<;>exact k⟩
noncomputable def b5(f:VF):VS:=λδ=>(f δ).map λp=>.rt p.1 p.2
theorem cR(h:PE X e (TV K ml pu bt bi f))(b:bt=true:=by rfl):PS X (.Return (some e) pos) (TC K ml (b5 f)):=(Uc h).imp λD σ H a=>by obtain⟨B,O,δ,o,S,q,k⟩:=a;unfold b5 at q;obtain⟨p,h1,q⟩:=At.mp q;cases q;subst b;exact⟨B,O,δ,p.1,p.2,S,h1,λv H' R=>k v σ H' O R.sta (R.rep.mono R.sta.rza R.sta.rzn)⟩
theorem CO{i:Nat}(h:PE X e (XT i))(b:i∉ml:=by decide):PS X (.Return (some e) pos) (TC K ml (b5 (fO i))):=(Uc h).imp λD σ H a=>by obtain⟨B,O,δ,o,S,q,k⟩:=a;unfold b5 at q;obtain⟨⟨x,δ1⟩,h1,q⟩:=At.mp q;cases q;obtain⟨rfl,v,c,r⟩:=S.lone b h1;exact⟨v,c,k v σ H O S (r.mono S.rza S.rza)⟩
noncomputable def Q5(f:VF):VS:=λδ=>(f δ).map λp=>.nx p.2
theorem UH(h:PE X e (TV K ml pu bt bi f))(b:Er e none pos.line X.env=pure false:=by rfl):PS X (.Expr e pos) (TC K ml (Q5 f)):=(IA h b).imp λD σ H a=>by obtain⟨B,O,δ,o,S,q,k⟩:=a;unfold Q5 at q;obtain⟨p,h1,q⟩:=At.mp q;cases q;exact⟨B,O,δ,p.1,p.2,S,h1,λv H' R=>k σ H' O R.sta⟩
noncomputable def YD(t:VB)(g g':VS):VS:=λδ=>(t δ).bind λp=>if p.1=true then g p.2 else g' p.2
theorem bW{x y:List Rq}{t:VB}(d:PT X c (TB K ml pc t))(f:PF X x (TC K ml g))(e:PF X y (TC K ml g')):PS X (.If c x y pos) (TC K ml (YD t g g')):=(oF d f e).imp λD σ H a=>by
 obtain⟨B,O,δ,o,S,q,k⟩:=a;unfold YD at q;obtain⟨⟨kk,δ1⟩,h1,q⟩:=Aa.mp q;refine⟨B,O,δ,kk,δ1,S,h1,λH1 b=>?_⟩;cases kk with
 |true=>exact HP ⟨B,O,δ1,o,b.sta,q,k⟩
 |false=>exact HN ⟨B,O,δ1,o,b.sta,q,k⟩
abbrev VX:=Ev->Option (Sl×Ev)
inductive St1(K:Al)(B:Bs)(O:Nat->Option Rf)(H:Hp):Bs->V->Sl->Prop
 |va {v:V} {d:c6}:St1 K B O H {B with kp:=[(v,d)]++B.kp} v (.va d)
 |ol {p:Rf} {xs:List V} {ds:List c6}:H p=some (.lst xs)->xs.length=ds.length->¬Nn B O p->B.H0 p=none->St1 K B O H {B.add p with kp:=xs.zip ds++B.kp} (.ref p) (.ow (.lst ds))
 |od {p:Rf} {kvs:List (aG×V)} {ds:List c6}:H p=some (.dK kvs)->kvs.length=ds.length->¬Nn B O p->B.H0 p=none->St1 K B O H {B.add p with kp:=(kvs.map Ec).zip ds++B.kp} (.ref p) (.ow (.dct (kvs.map Db) ds))
 |of {p:Rf} {x f g:Rg} {xs ys:List V} {ds:List c6}:R9 K H p x f g xs ys->(xs++ys).length=ds.length->¬Nn B O p->B.H0 p=none->St1 K B O H {B.add p with kp:=(xs++ys).zip ds++B.kp} (.ref p) (.ow (.flt x f g xs.length ds))
theorem St1.fr{s:Sl}(h:St1 K B O H B' v s)(f:Fr (OA O) H H'):St1 K B O H' B' v s:=by
 cases h with
 |va=>exact .va
 |ol q l n z=>exact .ol (f _ _ q λw=>absurd (.inr w) n) l n z
 |od q l n z=>exact .od (f _ _ q λw=>absurd (.inr w) n) l n z
 |of q l n z=>exact .of (q.fr f λw=>n (.inr w)) l n z
def TX(K:Al)(ml:List Nat)(f:VX):TE:=λσ H Q=>∃B O δ s δ',Z6 K ml B O H σ δ/\f δ=some (s,δ')/\∀v H' B',Z6 K ml B' O H' σ δ'->St1 K B O H' B' v s->Fr (OA O) H H'->Q v H'
noncomputable def xV(f:VF):VX:=λδ=>(f δ).map λp=>(.va p.1,p.2)
noncomputable def xO(f:VF):VX:=λδ=>(f δ).map λp=>(.ow p.1,p.2)
theorem a6(h:PE X e (TV K ml pu true true f)):PE X e (TX K ml (xV f)):=h.imp λσ H Q a=>by
 obtain⟨B,O,δ,o,δ',S,q,k⟩:=a;unfold xV at q;obtain⟨p,h1,q⟩:=At.mp q;cases q;exact⟨B,O,δ,p.1,p.2,S,h1,λv H' R=>k v H' _ (R.sta.keepV (ps:=[(v,p.1)]) λz hz=>by rw[Az.mp hz];exact R.rep) .va R.frm⟩
theorem VL{N:Rf->Prop}:∀{xs:List V} {ds:List c6},b6 K N H xs ds->∀z∈xs.zip ds,bB K N H N z.1 z.2
 |_,_,.nil,z,hz=>nomatch hz
 |_,_,.cons h t,z,hz=>by
  rcases Aj.mp hz with e|e
  ·rw[e];exact h
  ·exact VL t z e
theorem UC{N:Rf->Prop}:∀{xs:List V} {ds:List c6},xs.length=ds.length->(∀z∈xs.zip ds,bB K N H N z.1 z.2)->b6 K N H xs ds
 |[],[],_,_=>.nil
 |x::xs,d::ds,hl,h=>.cons (h (x,d) (Ay ..)) (UC (by simpa using hl) λz hz=>h z (Ar _ hz))
theorem WL(h:PE X e (TN K ml pu f)):PE X e (TX K ml (xO f)):=h.imp λσ H Q a=>by
 obtain⟨B,O,δ,o,δ',S,q,k⟩:=a;unfold xO at q;cases h1:f δ with
 |none=>rw[h1] at q;cases q
 |some p=>
  obtain⟨d,δ1⟩:=p;rw[h1] at q;cases q;refine⟨B,O,δ,d,δ1,S,h1,λp H' R=>?_⟩;have w:=R.own;cases w with
  |lst q r=>exact k _ H' _ (R.sta.keepV (VL r)) (.ol q r.length R.nz R.h0) R.frm
  |dct q r=>exact k _ H' _ (R.sta.keepV (VL r)) (.od q (by simpa using r.length) R.nz R.h0) R.frm
  |flt q r=>exact k _ H' _ (R.sta.keepV (VL r)) (.of q r.length R.nz R.h0) R.frm
theorem St1.bind{c:Nat->Option Rf}{s:Sl}{i:Nat}(h:St1 K B O H' B' v s)(S:Z6 K ml B' c H' σ δ)(a:i∉ml)(hl:i<δ.length):∃b,Z6 K ml B b H' (σ.set i (some v)) (δ.set i s):=by
 cases h with
 |va=>
  refine⟨_,Z6.unkeep (ps:=_) (S.setVa a (S.kep _ (Ch _ (Az.mpr rfl))))⟩
 |ol q l n z=>
  refine⟨_,Z6.setOw (Z6.unkeep (B:=B.add _) S) a hl (λw=>n (.inl w)) z (.lst q (UC l λz hz=>S.kep z (Ch _ hz)))⟩
 |od q l n z=>
  refine⟨_,Z6.setOw (Z6.unkeep (B:=B.add _) S) a hl (λw=>n (.inl w)) z (.dct q (UC (by simpa using l) λz hz=>S.kep z (Ch _ hz)))⟩
 |of q l n z=>
  refine⟨_,Z6.setOw (Z6.unkeep (B:=B.add _) S) a hl (λw=>n (.inl w)) z (.flt q (UC l λz hz=>S.kep z (Ch _ hz)))⟩
noncomputable def aL(i:Nat)(x:VX):VS:=λδ=>(x δ).bind λp=>if i<p.2.length then some (.nx (p.2.set i p.1)) else none
theorem bV{i:Nat}{y:Rg}{x:VX}{ay:Pos}(j:X.N.Nodup)(h:PE X e (TX K ml x))(hi:X.N[i]?=some y:=by rfl)(c:Loc X.env.scope y:=by first|exact .inl rfl|exact .inr rfl)(f:i∉ml:=by decide)(d:Er e (some (.Name y ay)) pos.line X.env=pure false:=by rfl)
  (g:X.fn y=true∨X.env.scope.names.lookup y=some .local:=by first|exact .inl rfl|exact .inr rfl|assumption):PS X (.Assign [.Name y ay] e pos) (TC K ml (aL i x)):=(mZ j hi c h d g).imp λD σ H a=>by
 obtain⟨B,O,δ,o,S,q,k⟩:=a;unfold aL at q;obtain⟨⟨s,δ1⟩,h1,q⟩:=Aa.mp q;have q:(if i<δ1.length then some (Ou.nx (δ1.set i s)) else none)=some o:=q;split at q
 ·rename_i hl
  cases q;refine⟨B,O,δ,s,δ1,S,h1,λv H' B' l h' n=>?_⟩;obtain⟨m,b⟩:=h'.bind l f hl;exact k _ _ _ b
 ·cases q
noncomputable def GI(i j:Nat)(x y:VX):VS:=λδ=>(x δ).bind λp=>(y p.2).bind λq=>if i<q.2.length/\j<q.2.length then some (.nx ((q.2.set j q.1).set i p.1)) else none
theorem CN{i j:Nat}{y z:Rg}{n m:VX}{e d pt:Pos}{kt k2 pt2}(hc:X.calm=true)(I:X.N.Nodup)(hi:X.N[i]?=some y)(C:X.N[j]?=some z)(c:i≠j)(x:X.env.scope.names.lookup y=some .local)(w:X.env.scope.names.lookup z=some .local)(G:PE X a (TX K ml n))(F:PE X b (TX K ml m))(hw:Fc [.Tuple [.Name y e,.Name z d] kt pt] (.Tuple [a,b] k2 pt2) X.env=pure (some [y,z]))(h:i∉ml:=by decide)(g:j∉ml:=by decide)(A:Fb [.Tuple [.Name y e,.Name z d] kt pt] (.Tuple [a,b] k2 pt2) pos.line X.env=pure false:=by rfl)(E:Ae (a::[b]) X.env=(false,eval a X.env)::Ae [b] X.env:=by rfl)(l:Ae (b::[]) X.env=(false,eval b X.env)::Ae [] X.env:=by rfl):
  PS X (.Assign [.Tuple [.Name y e,.Name z d] kt pt] (.Tuple [a,b] k2 pt2) pos) (TC K ml (GI i j n m)):=(iX hc I hi C c x w (bC G (bC F ZE l) E) hw A).imp λD σ H f=>by
 obtain⟨B,O,δ,o,S,q,k⟩:=f;unfold GI at q;obtain⟨⟨s,δ1⟩,h1,q⟩:=Aa.mp q;cases h2:m δ1 with
 |none=>simp[h2] at q
 |some p2=>
  obtain⟨s2,δ2⟩:=p2;simp only[Ak,h2] at q;split at q
  ·rename_i hl
   cases q;refine⟨B,O,δ,s,δ1,S,h1,λv H1 L S1 t f1=>⟨L,O,δ1,s2,δ2,S1,h2,λu H2 Q S2 r f2=>⟨v,u,rfl,?_⟩⟩⟩;obtain⟨P,J⟩:=r.bind S2 g hl.2;obtain⟨M,p⟩:=(t.fr f2).bind J h (by rw[Ca];exact hl.1);rw[Eg _ _ (Cq c)] at p;exact k _ _ _ p
  ·cases q
abbrev VG:=c6->Ev->Option Ev
def TGV(K:Al)(ml:List Nat)(h:VG):TG:=λv σ H Q=>∃B O δ d δ',Z6 K ml B O H σ δ/\bB K (Nn B O) H (Nn B O) v d/\h d δ=some δ'/\∀a b,Z6 K ml B b H a δ'->(∀i∈ml,a[i]?=σ[i]?)->Q a H
theorem PG.imp{t u:TG}(h:PG X e t)(k:∀v σ H Q,u v σ H Q->t v σ H Q):PG X e u:=λaa s σ H v w Q I r z=>h aa s σ H v w Q I r (k v σ H Q z)
theorem AF.imp{t u:TGs}(h:AF X es t)(k:∀v σ H Q,u v σ H Q->t v σ H Q):AF X es u:=λaa s σ H v w Q I r z=>h aa s σ H v w Q I r (k v σ H Q z)
theorem PG.or{t u:TG}(h:PG X e t)(h':PG X e u):PG X e (λv σ H Q=>t v σ H Q∨u v σ H Q):=λaa s σ H v w Q I r z=>by
 rcases z with z|z
 ·exact h aa s σ H v w Q I r z
 ·exact h' aa s σ H v w Q I r z
def gN(i:Nat):VG:=λd δ=>some (δ.set i (.va d))
theorem cJ{i:Nat}{x:Rg}(g:X.N.Nodup)(hi:X.N[i]?=some x:=by rfl)(c:Loc X.env.scope x:=by first|exact .inl rfl|exact .inr rfl)(b:i∉ml:=by decide)(f:X.fn x=true∨X.env.scope.names.lookup x=some .local:=by first|exact .inl rfl|exact .inr rfl|assumption):PG X (.Name x pos) (TGV K ml (gN i)):=
 (M6 g hi c f).imp λv σ H Q a=>by obtain⟨B,O,δ,d,δ',S,r,q,k⟩:=a;cases q;exact k _ _ (S.setVa b r) λj e=>Bw λ(z:i=j)=>b (z▸e)
abbrev VGs:=List c6->Ev->Option Ev
def TGVs(K:Al)(ml:List Nat)(h:VGs):TGs:=λvs σ H Q=>∃B O δ ds δ',Z6 K ml B O H σ δ/\b6 K (Nn B O) H vs ds/\h ds δ=some δ'/\∀a b,Z6 K ml B b H a δ'->(∀i∈ml,a[i]?=σ[i]?)->Q a H
def ZA:VGs:=λds δ=>match ds with
 |[]=>some δ
 |_=>none
noncomputable def bZ(g:VG)(gs:VGs):VGs:=λds δ=>match ds with
 |d::r=>(g d δ).bind λδ1=>gs r δ1
 |[]=>none
theorem Z1:AF X [] (TGVs K ml ZA):=BO.imp λvs σ H Q a=>by
 obtain⟨B,O,δ,ds,δ',S,r,q,k⟩:=a;cases r with
 |nil=>cases q;exact⟨rfl,k _ _ S λ_ _=>rfl⟩
 |cons _ _=>cases q
theorem b7{g:VG}{gs:VGs}(h1:PG X e (TGV K ml g))(h2:AF X es (TGVs K ml gs))(l:(Rm (e::es) X.env).map (·.2)=assign e X.env::(Rm es X.env).map (·.2):=by rfl):AF X (e::es) (TGVs K ml (bZ g gs)):=
 (P5 h1 h2 l).imp λvs σ H Q b => by
  obtain⟨B,O,δ,ds,δ',S,r,q,k⟩:=b;cases r with
  |nil=>cases q
  | @cons v vs d ds h t=>
   have q:((g d δ).bind λδ1=>gs ds δ1)=some δ':=q;obtain⟨δ1,h1,q⟩:=Aa.mp q;have m:=S.keepV (VL t);exact⟨v,vs,rfl,_,O,δ,d,δ1,m,h,h1,λc o S1 j=>⟨B,o,δ1,ds,δ',S1.unkeep,UC t.length λz hz=>S1.kep z (Ch _ hz),q,λa n S2 f=>k a n S2 λi hi=>(f i hi).trans (j i hi)⟩⟩
noncomputable def PC(n:Nat)(gs:VGs):VG:=λd δ=>(WR d).bind λds=>if ds.length=n then gs ds δ else none
theorem Y8{gs:VGs}{k n:Nat}(g:X.K=K)(hc:X.calm=true)(h:AF X es (TGVs K ml gs))(f:(Rm es X.env).length=n:=by rfl)(b:(Rm es X.env).findIdx? (·.1)=none:=by rfl):PG X (.Tuple es k pos) (TGV K ml (PC n gs)):=
 ((Ub (K := K) g hc h f b).or (hW (K := K) g hc h f b)).imp λv σ H Q e => by
  obtain⟨B,O,δ,d,δ',S,r,q,k⟩:=e;unfold PC at q;obtain⟨ds,h1,q⟩:=Aa.mp q;have q:(if ds.length=n then gs ds δ else none)=some δ':=q;split at q
  ·rename_i hl
   obtain⟨a,xs,rfl,sq,c⟩:=r.seq h1;have fin:TGVs K ml gs xs σ H Q:=⟨B,O,δ,ds,δ',S,c,q,k⟩;rcases sq with sq|sq
   ·exact .inr ⟨a,xs,rfl,sq,c.length.trans hl,fin⟩
   ·exact .inl ⟨a,xs,rfl,sq,c.length.trans hl,fin⟩
  ·cases q
noncomputable def NI(f:VF)(g:VG):VS:=λδ=>(f δ).bind λp=>(g p.1 p.2).map Ou.nx
theorem UG{tg:Rk}{gg:VG}(h:PE X e (TV K ml pu true true f))(g:PG X tg (TGV K ml gg))(c:Fb [tg] e pos.line X.env=pure false:=by rfl)(hw:Fc [tg] e X.env=pure none:=by rfl)
  (h1:(Rm [tg] X.env).map (·.2)=[assign tg X.env]:=by rfl):PS X (.Assign [tg] e pos) (TC K ml (NI f gg)):=(HZ h g c hw h1).imp λD σ H b=>by
 obtain⟨B,O,δ,o,S,q,k⟩:=b;unfold NI at q;obtain⟨⟨d,δ1⟩,h1,q⟩:=Aa.mp q;have q:(gg d δ1).map Ou.nx=some o:=q;obtain⟨δ2,h2,q⟩:=At.mp q;cases q;exact⟨B,O,δ,d,δ1,S,h1,λv H' R=>⟨B,O,δ1,d,δ2,R.sta,R.rep,h2,λa j i _=>k a H' j i⟩⟩
def MuV(K:Al)(r:V->List V->Hp->VK->Prop)(m:List c6->List c6->Option (List c6)):Prop:=∀(H:Hp) (N:Rf->Prop) (l:Rf) (xs vs:List V) (ds es b:List c6) (Q:VK),
 H l=some (.lst xs)->N l->b6 K N H xs ds->b6 K N H vs es->m ds es=some b->(∀v a,b6 K N H a b->Q v (upd H l (.lst a)))->r (.ref l) vs H Q
noncomputable def VM(δ:Ev)(i:Nat):Option (List c6):=match δ[i]? with
 |some (.ow (.lst ds))=>some ds
 |_=>none
noncomputable def U6(i:Nat)(m:List c6->List c6->Option (List c6))(fs:PJ):VS:=λδ=>(VM δ i).bind λ_=>(fs δ).bind λp=>(VM p.2 i).bind λds=>(m ds p.1).map λa=>.nx (p.2.set i (.ow (.lst a)))
theorem RZ{i:Nat}{ds:List c6}(h:VM δ i=some ds):δ[i]?=some (.ow (.lst ds)):=by
 unfold VM at h;split at h
 ·cases h;assumption
 ·cases h
theorem NW{N:Rf->Prop}{l:Rf}{o:HO}{xs:List V}{ds ys:List c6}{zs:List V}(c:H l=some (.lst zs))(e:N l)(h:b6 K N H xs ds):b6 K N (upd H l o) xs ds:=
 h.fr (P:=λb=>b=l) ⟨λb u q n=>by
  by_cases d:b=l
  ·subst d
   rw[c] at q;cases q;exact absurd (n rfl) λz=>z
  ·rw[cL d]
   exact q,(KN.of c).upd⟩ λa z=>z▸e
theorem YW{i:Nat}{x:Rg}{name:Rg}{ag af ai:Pos}{id:String}{r:V->List V->Hp->VK->Prop}{m:List c6->List c6->Option (List c6)}{fs:PJ}(G:X.K=K)(slot:Slot "list" name id)(f:typeOf (.builtin id)=pure (.type "method_descriptor"))(E:MtR X id r)(j:MuV K r m)(C:PE X (.Name x ai) (XT i))(F:PA X (e::es) (EW K ml pu true fs))(N:Ce (.Name x ai) name X.env (eval (.Name x ai) X.env)=eval (.Name x ai) X.env:=by rfl)(M:((Dx af (Ae (e::es) X.env)).all (λx=> !x.1)&&(Hf af (Es [] X.env)).all (λx=>x.1.isSome)&&decide ((e::es).length+([]:List Gg).length+(if([]:List Gg).isEmpty then 0 else 1)<30))=true:=by rfl)(P:(ag.endLine==af.line)=true:=by rfl)(A:Ae (e::es) X.env=(false,eval e X.env)::Ae es X.env:=by rfl)(Q:(Dx af (Ae es X.env)).any (·.1)=false:=by rfl)(g:Er (.Call (.Attribute (.Name x ai) name ag) (e::es) [] af) none pos.line X.env=pure false:=by rfl):PS X (.Expr (.Call (.Attribute (.Name x ai) name ag) (e::es) [] af) pos) (TC K ml (U6 i m fs)):=
 (IA (kBm (K := K) G Hk slot f E C F N M P A Q) g).imp λD σ H h => by
  obtain⟨B,O,δ,o,S,q,k⟩:=h;unfold U6 at q;obtain⟨L,I,q⟩:=Aa.mp q;have q:((fs δ).bind λp=>(VM p.2 i).bind λds=>(m ds p.1).map λa=>Ou.nx (p.2.set i (.ow (.lst a))))=some o:=q;obtain⟨⟨b,δ1⟩,h1,q⟩:=Aa.mp q;have q:((VM δ1 i).bind λds=>(m ds b).map λa=>Ou.nx (δ1.set i (.ow (.lst a))))=some o:=q;obtain⟨ds,h2,q⟩:=Aa.mp q;have q:((m ds b).map λa=>Ou.nx (δ1.set i (.ow (.lst a))))=some o:=q;cases s:m ds b with
  |none=>rw[s] at q;cases q
  |some a=>
   rw[s] at q;cases q;obtain⟨l,d,J,w⟩:=S.ow i _ (RZ I);cases w with
   |lst n _=>
    refine⟨.ref l,J,.inl ⟨rfl,_,WT.of n⟩,B,O,δ,b,δ1,S,h1,λvs H1 R=>?_⟩;obtain⟨T,t,_,y⟩:=R.sta.ow i _ (RZ h2);rw[d] at t;cases t;cases y with
    |lst c r1=>
     refine j H1 (Nn B O) l _ vs ds b a _ c (.inr ⟨i,d⟩) r1 R.rep s λv u r2=>?_;exact k σ _ O (R.sta.wrote d (λz=>z) (.of c) (.lst cN (NW (ys:=[]) c (.inr ⟨i,d⟩) r2)))
noncomputable def TM:List c6->List c6->Option (List c6)
 |ds,[d]=>if ds.length<16777216 then some (ds++[d]) else none
 |_,_=>none
theorem X4:MuV K BW TM:=by
 intro H N l xs vs ds es c Q hl e a b h k;cases b with
 |nil=>cases h
 | @cons v vs d es hd t=>
  cases t with
  |cons _ _=>cases h
  |nil=>
   simp only[TM] at h;split at h
   ·rename_i hz
    cases h;exact⟨l,xs,v,rfl,rfl,hl,by rw[a.length,Cm];exact hz,k _ _ (a.snoc hd)⟩
   ·cases h
end
section
variable{X:Cx}{K:Al}{ml:List Nat}{e a b c:Rk}{es:List Rk}{pa ta ia pb tb ib pc tc ic pu bt bi ps bs:Bool}{fa fb fc f:VF}{B B':Bs}{O:Nat->Option Rf}{H H1 H':Hp}{σ:St}{δ δ':Ev}{v:V}{d:c6}{p:Rf}{pos:Pos}{st:Rq}{rest:List Rq}{g g':VS}
noncomputable def XI(a:VS):Ou->Option Ou
 |.nx δ=>a δ
 |.ct δ=>a δ
 |.bk δ=>some (.nx δ)
 |.rt d δ=>some (.rt d δ)
noncomputable def aF(t:VB)(g:VS):Nat->VS
 |0=>λ_=>none
 |n+1=>λδ=>(t δ).bind λp=>if p.1=true then(g p.2).bind (XI (aF t g n)) else some (.nx p.2)
theorem S9{t:VB}:∀{n:Nat} {δ:Ev} {o:Ou},aF t g n δ=some o->aF t g (n+1) δ=some o
 |0,_,_,h=>by cases h
 | n + 1,δ,o,h => by
  dsimp only[aF] at h;show((t δ).bind λp=>if p.1=true then(g p.2).bind (XI (aF t g (n+1))) else some (.nx p.2))=some o;cases h1:t δ with
  |none=>rw[h1] at h;cases h
  |some p=>
   rw[h1] at h;obtain⟨kk,δ1⟩:=p;cases kk with
   |false=>exact h
   |true=>
    have h:(g δ1).bind (XI (aF t g n))=some o:=h;show(g δ1).bind (XI (aF t g (n+1)))=some o;cases h2:g δ1 with
    |none=>rw[h2] at h;cases h
    |some z=>
     rw[h2] at h;cases z with
     |nx δ2=>exact S9 (n:=n) h
     |ct δ2=>exact S9 (n:=n) h
     |bk δ2=>exact h
     |rt d δ2=>exact h
theorem Q1{t:VB}{n:Nat}{o:Ou}(h:aF t g n δ=some o):∀k,aF t g (n+k) δ=some o
 |0=>h
 |k+1=>S9 (Q1 h k)
theorem ES{t:VB}{n m:Nat}{o o':Ou}(h:aF t g n δ=some o)(h':aF t g m δ=some o'):o=o':=by have b:=Q1 h m;have a:=Q1 h' n;rw[Nu] at a;rw[b] at a;exact Bv a
open Classical in
noncomputable def QZ(t:VB)(g:VS):VS:=λδ=>if h:∃o n,aF t g n δ=some o then some (Classical.choose h) else none
theorem J7{t:VB}{n:Nat}{o:Ou}(h:aF t g n δ=some o):QZ t g δ=some o:=by have a:∃o n,aF t g n δ=some o:=⟨o,n,h⟩;unfold QZ;rw[dif_pos a];obtain⟨m,b⟩:=Lh a;rw[ES b h]
theorem EA{t:VB}{o:Ou}(h:QZ t g δ=some o):∃n,aF t g n δ=some o:=by
 unfold QZ at h;split at h
 ·rename_i a
  cases h;exact Lh a
 ·cases h
theorem GV{body:List Rq}{t:VB}(j:Ol (Rj X.prog X.w) X.A X.env X.xe)(hc:PT X c (TB K ml pc t))(p:PF X body (TC K ml g)):PS X (.While c body [] pos) (TC K ml (QZ t g)):=(gK j hc p).imp λD σ H h=>by
 obtain⟨B,O,δ,o,S,q,k⟩:=h;obtain⟨n,l⟩:=EA q;refine⟨λm σ H=>∃O δ,Z6 K ml B O H σ δ/\aF t g m δ=some o,⟨n,O,δ,S,l⟩,?_⟩;rintro m σ H ⟨O,δ,S,b⟩;cases m with
 |zero=>cases b
 |succ m=>
  dsimp only[aF] at b;obtain⟨⟨kk,δ1⟩,h1,b⟩:=Aa.mp b;refine⟨B,O,δ,kk,δ1,S,h1,λH1 i=>?_⟩;cases kk with
  |false=>
   have b:some (Ou.nx δ1)=some o:=b;cases b;exact HN (k σ H1 O i.sta)
  |true=>
   have b:(g δ1).bind (XI (aF t g m))=some o:=b;obtain⟨z,h2,b⟩:=Aa.mp b;refine HP ⟨λa H'=>∃O δ,Z6 K ml B O H' a δ/\aF t g m δ=some o,λa H' w=>⟨m,Kq _,w⟩,B,O,δ1,z,i.sta,h2,?_⟩;cases z with
   |nx δ2=>exact λa H' f e=>⟨f,δ2,e,b⟩
   |ct δ2=>exact λa H' f e=>⟨f,δ2,e,b⟩
   |bk δ2=>cases b;exact λa H' f e=>k a H' f e
   |rt d δ2=>cases b;exact λv a H' f e r=>k v a H' f e r
def Walk(K:Al)(J:It)(a:List (V×c6))(ds:List c6):Prop:=∀(N:Rf->Prop) (H:Hp),(∀p∈a,bB K N H N p.1 p.2)->
 (∀(i:Nat) (d:c6),ds[i]?=some d->J.go i H/\∀x H',J.yld i H x H'->aH H H'/\bB K N H' N x d)/\J.stop ds.length H
abbrev VI:=Ev->Option (List c6×Ev)
def TIV(K:Al)(ml:List Nat)(pu:Bool)(f:VI):TI:=λσ H R=>∃B O δ ds δ',Z6 K ml B O H σ δ/\f δ=some (ds,δ')∧
 ∀J a H',Z6 K ml {B with kp:=a++B.kp} O H' σ δ'->Fr (OA O) H H'->(pu=true->aH H H')->Walk K J a ds->R J H'
theorem PI.imp{tg:Rk}{t u:TI}(h:PI X tg e t)(k:∀σ H R,u σ H R->t σ H R):PI X tg e u:=λaa s σ H R I w=>h aa s σ H R I (k σ H R w)
theorem PI.or{tg:Rk}{t u:TI}(h:PI X tg e t)(h':PI X tg e u):PI X tg e (λσ H R=>t σ H R∨u σ H R):=λaa s σ H R I z=>by
 rcases z with z|z
 ·exact h aa s σ H R I z
 ·exact h' aa s σ H R I z
noncomputable def WO(f:VF):VI:=λδ=>(f δ).bind λp=>(WR p.1).map λds=>(ds,p.2)
theorem kP{a:Rf}{ds:List c6}:Walk K (Itl K a) [(.ref a,.lst ds)] ds:=by
 intro N H h;have r:=h _ (Az.mpr rfl);have fin:∀xs,WT K H a xs->b6 K N H xs ds->(∀(i:Nat) (d:c6),ds[i]?=some d->(Itl K a).go i H/\∀x H',(Itl K a).yld i H x H'->aH H H'/\bB K N H' N x d)/\(Itl K a).stop ds.length H:=λxs sq r=>by
  refine⟨λi d e=>?_,xs,sq,by rw[r.length];exact Au _⟩;obtain⟨x,b,r1⟩:=r.get e;refine⟨⟨xs,x,sq,b⟩,λy H' c=>?_⟩;obtain⟨g,f⟩:=c;subst g;have:=f xs sq
  rw[b] at this;cases this;exact⟨aH.refl _,r1⟩
 cases r with
 |lst q n r=>exact fin _ (WT.of q) r
 |fzm q r=>exact fin _ q.sq r
theorem eM{a:Rf}{ds:List c6}:Walk K (Itt K a) [(.ref a,.tup ds)] ds:=by
 intro N H h;have r:=h _ (Az.mpr rfl);cases r with
 |tup sq r=>
  refine⟨λi d e=>?_,_,sq,by rw[r.length];exact Au _⟩;obtain⟨x,b,r1⟩:=r.get e;refine⟨⟨_,x,sq,b⟩,λy H' c=>?_⟩;obtain⟨g,f⟩:=c;subst g;have:=f _ sq
  rw[b] at this;cases this;exact⟨aH.refl _,r1⟩
theorem YS{tg:Rk}(i:X.K=K)(h:PE X e (TV K ml pu true true f)):PI X tg e (TIV K ml pu (WO f)):=((Tp (K:=K) i h).or (Ug (K:=K) i h)).imp λσ H R c=>by
 obtain⟨B,O,δ,ds,δ',S,q,k⟩:=c;unfold WO at q;obtain⟨⟨x,δ1⟩,h1,q⟩:=Aa.mp q;cases x with
 |lst g=>
  cases q;refine .inl ⟨B,O,δ,_,δ1,S,h1,λv H1 b=>?_⟩;obtain⟨a,xs,rfl,sq,r⟩:=b.rep.seq rfl;refine⟨a,rfl,?_,k _ [(.ref a,.lst ds)] H1 (b.sta.keepV λp d=>by rw[Az.mp d];exact b.rep) b.frm b.pur kP⟩;have r:=b.rep;cases r with
  |lst q _ _=>exact⟨_,WT.of q⟩
  |fzm q _=>exact⟨_,q.sq⟩
 |tup g=>
  cases q;refine .inr ⟨B,O,δ,_,δ1,S,h1,λv H1 b=>?_⟩;obtain⟨a,xs,rfl,sq,r⟩:=b.rep.seq rfl;refine⟨a,rfl,?_,k _ [(.ref a,.tup ds)] H1 (b.sta.keepV λp d=>by rw[Az.mp d];exact b.rep) b.frm b.pur eM⟩;have r:=b.rep;cases r with
  |tup q _=>exact⟨_,q⟩
 |_=>cases q
def ZF(lo:Int)(n:Nat):List c6:=(Bh n).map λk:Nat=>.int (lo+k)
noncomputable def iR1(f:VF):VI:=λδ=>(f δ).bind λp=>match p.1 with
 |.int j=>if -4611686018427387904<=j/\j<4611686018427387904 then some (ZF 0 j.toNat,p.2) else none
 |_=>none
noncomputable def iR2(f g:VF):VI:=λδ=>(f δ).bind λp=>(g p.2).bind λq=>match p.1,q.1 with
 |.int i,.int j=>if(-4611686018427387904<=i/\i<4611686018427387904)/\ -4611686018427387904<=j/\j<4611686018427387904 then some (ZF i (j - i).toNat,q.2) else none
 |_,_=>none
theorem mI{lo:Int}{n i:Nat}{d:c6}(h:(ZF lo n)[i]?=some d):i<n/\d=.int (lo+i):=by
 unfold ZF at h;rw[Dc] at h;obtain⟨k,h1,h⟩:=At.mp h;cases h;have:=Ag.mp h1
 obtain⟨hl,e⟩:=this;rw[Hx] at hl;rw[List.getElem_range] at e;subst e;exact⟨hl,rfl⟩
theorem GX{lo:Int}{n:Nat}:Walk K (Itr lo n) [] (ZF lo n):=by intro N H _;refine⟨λi d e=>?_,by simp[Itr,ZF]⟩;obtain⟨hl,rfl⟩:=mI e;refine⟨hl,λx H' a=>?_⟩;obtain⟨rfl,rfl⟩:=a;exact⟨aH.refl _,.int _⟩
theorem WA{tg:Rk}{p':Pos}(l:Gl X "range")(i:X.mg "range"=none)(h:PE X a (TV K ml pa ta ia fa))(g:Ae [a] X.env=[(false,eval a X.env)]:=by rfl)(d:Ae (a::[]) X.env=(false,eval a X.env)::Ae [] X.env:=by rfl):
  PI X tg (.Call (.Name "range" p') [a] [] pos) (TIV K ml pa (iR1 fa)):=(eW l i (bC h ZE d) g).imp λσ H R e=>by
 obtain⟨B,O,δ,ds,δ',S,q,k⟩:=e;unfold iR1 at q;obtain⟨⟨x,δ1⟩,h1,q⟩:=Aa.mp q;cases x with
 |int j=>
  have q:(if -4611686018427387904<=j/\j<4611686018427387904 then some (ZF 0 j.toNat,δ1) else none)=some (ds,δ'):=q;split at q
  ·rename_i f
   cases q;have b:(2:Int) ^ 62=4611686018427387904:=by decide
   refine⟨B,O,δ,_,_,S,h1,λv H1 c=>⟨j,?_,by rw[b];exact f.1,by rw[b];exact f.2,k _ [] H1 (c.sta.keepV λ_ z=>nomatch z) c.frm c.pur GX⟩⟩;have r:=c.rep;cases r;rfl
  ·cases q
 |_=>cases q
theorem AB{tg:Rk}{p':Pos}(r:Gl X "range")(p:X.mg "range"=none)(h:PE X a (TV K ml pa ta ia fa))(h':PE X b (TV K ml pb tb ib fb))(o:Ae [a,b] X.env=[(false,eval a X.env),(false,eval b X.env)]:=by rfl)(f:Ae [b] X.env=[(false,eval b X.env)]:=by rfl)(s:Ae (a::[b]) X.env=(false,eval a X.env)::Ae [b] X.env:=by rfl)(l:Ae (b::[]) X.env=(false,eval b X.env)::Ae [] X.env:=by rfl):
  PI X tg (.Call (.Name "range" p') [a,b] [] pos) (TIV K ml (pa&&pb) (iR2 fa fb)):=(pE r p (bC h (bC h' ZE l) s) o f).imp λσ H R g=>by
 obtain⟨B,O,δ,ds,δ',S,q,k⟩:=g;unfold iR2 at q;obtain⟨⟨x,δ1⟩,h1,q⟩:=Aa.mp q;cases h2:fb δ1 with
 |none=>simp[h2] at q
 |some p2=>
  obtain⟨y,δ2⟩:=p2;simp only[Ak,h2] at q;cases x with
  |int i=>
   cases y with
   |int j=>
    have q:(if(-4611686018427387904<=i/\i<4611686018427387904)/\ -4611686018427387904<=j/\j<4611686018427387904 then some (ZF i (j - i).toNat,δ2) else none)=some (ds,δ'):=q;split at q
    ·rename_i c
     cases q;have e:(2:Int) ^ 62=4611686018427387904:=by decide
     refine⟨B,O,δ,_,_,S,h1,λv H1 d=>⟨B,O,δ1,_,_,d.sta,h2,λt H2 R2=>⟨i,j,?_,by rw[e];exact⟨c.1.1,c.1.2,c.2.1,c.2.2⟩,k _ [] H2 (R2.sta.keepV λ_ z=>nomatch z) (d.frm.trans R2.frm) (λz=>by obtain⟨n,m⟩:=(Ah _ _).mp z;exact(d.pur n).trans (R2.pur m)) GX⟩⟩⟩
     have r1:=d.rep;have r2:=R2.rep;cases r1;cases r2;rfl
    ·cases q
   |_=>cases q
  |_=>cases q
noncomputable def YQ(gg:VG)(s:VS):List c6->VS
 |[]=>λδ=>some (.nx δ)
 |d::r=>λδ=>(gg d δ).bind λδ1=>(s δ1).bind (XI (YQ gg s r))
noncomputable def RB(a:VI)(gg:VG)(s:VS):VS:=λδ=>(a δ).bind λp=>YQ gg s p.1 p.2
theorem XC{tg iter:Rk}{body:List Rq}{t:VI}{gg:VG}(s:Ol (Rj X.prog X.w) X.A X.env X.xe)(hc:X.calm=true)(hi:PI X tg iter (TIV K ml pu t))(L:PG X tg (TGV K ml gg))(M:PF X body (TC K ml g))
  (I:∀x,Rp iter X.env x=pure x:=by intro _;rfl):PS X (.For tg iter body [] pos) (TC K ml (RB t gg g)):=(jS s hc hi L M I).imp λD σ H n=>by
 obtain⟨B,O,δ,o,S,q,k⟩:=n;unfold RB at q;obtain⟨⟨ds,δ1⟩,h1,q⟩:=Aa.mp q;have q:YQ gg g ds δ1=some o:=q;refine⟨B,O,δ,ds,δ1,S,h1,λJ l H1 S1 _ _ C=>?_⟩;refine⟨λi m σ H=>m=ds.length - i/\i<=ds.length/\∃O δ,Z6 K ml {B with kp:=l++B.kp} O H σ δ/\YQ gg g (ds.drop i) δ=some o,⟨ds.length,rfl,Dg _,O,δ1,S1,q⟩,?_⟩;rintro i m σ H ⟨rfl,hi,O,δ,S,b⟩;have w:=C (Nn B O) H λp s=>S.kep p (Ch _ s);by_cases f:i<ds.length
 ·obtain ⟨go,y⟩ := w.1 i ds[i] (by simp [f])
  rw[Fj f] at b;refine .inr ⟨go,λa H'=>∃O δ,Z6 K ml {B with kp:=l++B.kp} O H' a δ/\YQ gg g (ds.drop (i+1)) δ=some o,λa H' w'=>⟨ds.length - (i+1),by lia,rfl,f,w'⟩,λx H' G=>?_⟩;obtain⟨E,F⟩:=y x H' G;have b:((gg ds[i] δ).bind λδ1=>(g δ1).bind (XI (YQ gg g (ds.drop (i+1)))))=some o:=b;obtain⟨δ2,h2,b⟩:=Aa.mp b;have b:(g δ2).bind (XI (YQ gg g (ds.drop (i+1))))=some o:=b;refine⟨_,O,δ,ds[i],δ2,S.same E,F,h2,λu P S2 _=>?_⟩;obtain⟨z,N,b⟩:=Aa.mp b;refine⟨_,P,δ2,z,S2,N,?_⟩;cases z with
  |nx c=>exact λa H' j h=>⟨j,c,h,b⟩
  |ct c=>exact λa H' j h=>⟨j,c,h,b⟩
  |bk c=>cases b;exact λa H' j h=>k a H' j h.unkeep
  |rt d c=>cases b;exact λv a H' j h r=>k v a H' j h.unkeep r
 ·have e : i = ds.length := by lia
  subst e;rw[Ij] at b;cases b;exact .inl ⟨w.2,k σ H O S.unkeep⟩
end
section
variable{X:Cx}{K:Al}{ml:List Nat}{e a b c:Rk}{es:List Rk}{pa ta ia pb tb ib pc tc ic pu bt bi ps bs:Bool}{fa fb fc f:VF}{B B':Bs}{O:Nat->Option Rf}{H H1 H':Hp}{σ:St}{δ δ':Ev}{v:V}{d:c6}{p:Rf}{pos:Pos}{st:Rq}{rest:List Rq}{g g':VS}
theorem Z6.call{P:Rf->Prop}(S:Z6 K ml B O H σ δ)(hl:δ'.length=δ.length)(h:∀i:Nat,(δ'[i]?=δ[i]? /\∀a,O i=some a->¬P a)∨∃a d',O i=some a/\δ'[i]?=some (Sl.ow d')/\NL K (Nn B O) H' a d')
  (f:Fr P H H') (j:∀a,P a->OA O a):Z6 K ml B O H' σ δ' where
 len:=by rw[hl,S.len]
 va:=λi d e=>by
  rcases h i with⟨g,_⟩|⟨a,d',_,g,_⟩
  ·rw[g] at e
   obtain⟨v,c,r⟩:=S.va i d e;exact⟨v,c,r.fr f (λa z=>.inr (j a z)) λa z=>.inr (j a z)⟩
  ·rw[g] at e
   cases e
 ow:=λi d e=>by
  rcases h i with⟨g,n⟩|⟨a,d',c,g,w⟩
  ·rw[g] at e
   obtain⟨a,c,k,w⟩:=S.ow i d e;exact⟨a,c,k,w.fr f (λa z=>.inr (j a z)) (n a c)⟩
  ·rw[g] at e
   cases e;obtain⟨l,q0⟩:=S.dom i a c;obtain⟨t,k,s,_⟩:=S.ow i l q0;rw[c] at k;cases k;exact⟨a,c,s,w⟩
 dom:=λi a e=>by
  rcases h i with⟨g,n⟩|⟨a,d',c,g,w⟩
  ·obtain⟨l,q0⟩:=S.dom i a e
   exact⟨l,g.trans q0⟩
  ·exact⟨d',g⟩
 inj:=S.inj
 old:=S.old
 zin:=λa h'=>by
  obtain⟨o,q⟩:=S.zin a h';exact⟨o,f a o q λz=>by obtain⟨i,e⟩:=j a z;exact absurd h' (S.old i a e).1⟩
 frm:=by
  refine⟨λb o q n=>?_,λ_ _ _ _ _ _ _ _ _ h=>?_⟩
  ·have h1:=S.frm b o q n
   refine f b o h1 λz=>?_;obtain⟨i,e⟩:=j b z;rcases(S.old i b e).2 with w|w
   ·exact n w
   ·rw[q] at w;cases w
  ·obtain⟨_,_,e⟩:=S.frm.ft _ _ _ _ _ _ _ _ _ h
   exact f.ft _ _ _ _ _ _ _ _ _ e
 par:=S.par
 pin:=λa h'=>by
  obtain⟨o,q⟩:=S.pin a h';by_cases z:P a
  ·obtain⟨i,e⟩:=j a z
   rcases h i with⟨_,n⟩|⟨t,d',c,g,w⟩
   ·exact absurd z (n a e)
   ·rw[e] at c
    cases c;obtain⟨o,q,_⟩:=w.soft;exact⟨o,q⟩
  ·exact⟨o,f a o q λy=>absurd y z⟩
 kep:=λp m=>(S.kep p m).fr f (λa z=>.inr (j a z)) λa z=>.inr (j a z)
abbrev b8:=List c6->Option (c6×List c6)
def PK(ml:List Nat)(vs:List V):Rf->Prop:=λa=>∃i∈ml,vs[i]?=some (.ref a)
def Zp(Z:Rf->Prop)(ml:List Nat)(vs:List V):Rf->Prop:=λa=>Z a∨PK ml vs a
structure Sv(K:Al)(ml:List Nat)(Z:Rf->Prop)(H:Hp)(vs:List V)(ds:List c6):Prop where
 len:vs.length=ds.length
 mem:∀i∈ml,i<ds.length
 va:∀(i:Nat) (d:c6),i∉ml->ds[i]?=some d->∃v,vs[i]?=some v/\bB K (Zp Z ml vs) H (Zp Z ml vs) v d
 ow:∀(i:Nat) (d:c6),i∈ml->ds[i]?=some d->∃a,vs[i]?=some (.ref a)/\NL K (Zp Z ml vs) H a d/\¬Z a
 inj:∀(i j:Nat) (a:Rf),i∈ml->j∈ml->vs[i]?=some (.ref a)->vs[j]?=some (.ref a)->i=j
 zin:∀a,Z a->∃o,H a=some o
def spV(K:Al)(ml:List Nat)(n:Nat)(F:b8):Sp:=λvs H Q _=>∃(Z:Rf->Prop) (ds:List c6) (r:c6) (os:List c6),ds.length=n/\Sv K ml Z H vs ds/\F ds=some (r,os)∧
 ∀v H',Fr (PK ml vs) H H'->(∀(k i:Nat) (a:Rf) (o:c6),ml[k]?=some i->vs[i]?=some (.ref a)->os[k]?=some o->NL K (Zp Z ml vs) H' a o)->bB K (Zp Z ml vs) H' (Zp Z ml vs) v r->Q v H'
noncomputable def cF(ml:List Nat)(n:Nat)(ds:List c6):Ev:=ds.mapIdx (λi d=>if i∈ml then Sl.ow d else Sl.va d)++Bn (n - ds.length) Sl.no
noncomputable def SV(ml:List Nat)(δ:Ev):Option (List c6):=ml.mapM λ(i:Nat)=>match(δ[i]? :Option Sl) with
 |some (Sl.ow d)=>some d
 |_=>none
noncomputable def bD(n:Nat)(ml:List Nat)(g:VS):b8:=λds=>(g (cF ml n ds)).bind λo=>match o with
 |.rt d δ=>(SV ml δ).map λos=>(d,os)
 |.nx δ=>(SV ml δ).map λos=>(.non,os)
 |_=>none
theorem F6:∀{ml:List Nat} {δ:Ev} {os:List c6},SV ml δ=some os->∀(k i:Nat) (o:c6),ml[k]?=some i->os[k]?=some o->δ[i]?=some (.ow o)
 |[],_,_,h,k,i,o,a,b=>by simp at a
 | j :: ml,δ,os,h,k,i,o,a,b => by
  unfold SV at h;rw[Pr] at h;split at h
  ·rename_i d hd
   cases h2:(ml.mapM λ(i:Nat)=>match(δ[i]? :Option Sl) with
    |some (Sl.ow d)=>some d
    |_=>none:Option (List c6)) with
   |none=>rw[h2] at h;cases h
   |some c=>
    rw[h2] at h;cases h;cases k with
    |zero=>
     cases a;cases b;exact hd
    |succ k=>exact F6 (ml:=ml) h2 k i o (by simpa using a) (by simpa using b)
  ·cases h
theorem dX{N:List Rg}{Z:Rf->Prop}{vs:List V}{ds:List c6}(A:Sv K ml Z H vs ds)(B:ds.length<=N.length):∃g:Nat->Option Rf,(∀i a,g i=some a↔i∈ml/\vs[i]?=some (.ref a))/\Z6 K ml ⟨Z,PK ml vs,H,g,[]⟩ g H (start N vs) (cF ml N.length ds):=by
 classical
 let g:Nat->Option Rf:=λi=>if i∈ml then(match vs[i]? with
  |some (.ref a)=>some a
  |_=>none) else none
 have c:∀i a,g i=some a↔i∈ml/\vs[i]?=some (.ref a):=λi a=>by
  show(if i∈ml then(match vs[i]? with
   |some (.ref a)=>some a
   |_=>none) else none)=some a↔_
  by_cases hi:i∈ml
  ·rw[if_pos hi]
   constructor
   ·intro h
    split at h
    ·rename_i b x
     cases h;exact⟨hi,x⟩
    ·cases h
   ·rintro ⟨_,h⟩
    rw[h]
  ·rw[if_neg hi]
   exact⟨(λh=>nomatch h),λh=>absurd h.1 hi⟩
 have m:∀a,Nn ⟨Z,PK ml vs,H,g,[]⟩ g a->Zp Z ml vs a:=λa h=>by
  rcases h with h|⟨i,h⟩
  ·exact .inl h
  ·exact .inr ⟨i,(c i a).mp h⟩
 have t:∀(i:Nat) (s:Sl),(cF ml N.length ds)[i]?=some s->(∃d,ds[i]?=some d/\s=if i∈ml then .ow d else .va d)∨s=.no:=λi s h=>by
  unfold cF at h;by_cases hi:i<ds.length
  ·rw [Ai (by simpa using hi),Lm] at h
   cases q:ds[i]? with
   |none=>rw[q] at h;cases h
   |some d=>rw[q] at h;cases h;exact .inl ⟨d,rfl,rfl⟩
  ·rw [Ba (by simpa using hi),Ea] at h
   split at h
   ·cases h;exact .inr rfl
   ·cases h
 have k:∀(i:Nat) (v:V),vs[i]?=some v->(start N vs)[i]?=some (some v):=λi v h=>by unfold start;have hi:i<vs.length:=(Ag.mp h).1;rw[Ai (by simpa using hi),Dc,h];rfl
 refine⟨g,c,?_,λi d q=>?_,λi d q=>?_,λi a q=>?_,λi j a q1 q2=>?_,λi a q=>?_,A.zin,Fr.refl _ _,⟨λi a q=>((c i a).mp q).1,λi _=>rfl⟩,λa q=>?_,λp u=>nomatch u⟩
 ·unfold start cF
  have:=A.len
  simp;lia
 ·rcases t i _ q with⟨e,h1,h2⟩|h
  ·by_cases hi:i∈ml
   ·rw[if_pos hi] at h2;cases h2
   ·rw[if_neg hi] at h2
    cases h2;obtain⟨v,f,r⟩:=A.va i d hi h1;exact⟨v,k i v f,r.mono m m⟩
  ·cases h
 ·rcases t i _ q with⟨e,h1,h2⟩|h
  ·by_cases hi:i∈ml
   ·rw[if_pos hi] at h2
    cases h2;obtain⟨a,f,w,_⟩:=A.ow i d hi h1;exact⟨a,(c i a).mpr ⟨hi,f⟩,k i _ f,w.mono m⟩
   ·rw[if_neg hi] at h2;cases h2
  ·cases h
 ·obtain⟨hi,f⟩:=(c i a).mp q
  have hl:=A.mem i hi;refine⟨ds[i],?_⟩;unfold cF;rw[Ai (by simpa using hl),Lm];simp[hl,hi]
 ·exact A.inj i j a ((c i a).mp q1).1 ((c j a).mp q2).1 ((c i a).mp q1).2 ((c j a).mp q2).2
 ·obtain⟨hi,f⟩:=(c i a).mp q
  refine⟨λz=>?_,.inl ⟨i,hi,f⟩⟩;obtain⟨y,l,_,n⟩:=A.ow i (ds[i]'(A.mem i hi)) hi (by simp[A.mem i hi]);rw[f] at l;cases l;exact n z
 ·obtain⟨i,hi,f⟩:=q
  obtain⟨y,l,w,n⟩:=A.ow i (ds[i]'(A.mem i hi)) hi (by simp[A.mem i hi]);rw[f] at l;cases l;obtain⟨o,q,_⟩:=w.soft;exact⟨o,q⟩
theorem Tn{N ps:List Rg}{vs:List V}{Q:VK}{E:XK}(t:ps.length<=N.length)(h:spV K ml ps.length (bD N.length ml g) vs H Q E):TC K ml g {nx:=λ_ H'=>Q .non H',rt:=Q} (start N vs) H:=by
 obtain⟨Z,ds,r,os,B,AV,c,k⟩:=h;obtain⟨q,n,G⟩:=dX (N:=N) AV (by rw[B];exact t);unfold bD at c;obtain⟨o,h1,c⟩:=Aa.mp c;refine⟨_,q,_,o,G,h1,?_⟩;have fin:∀(δ':Ev) (v:V) (f:St) (H':Hp) (p:Nat->Option Rf),SV ml δ'=some os->Z6 K ml ⟨Z,PK ml vs,H,q,[]⟩ p H' f δ'->bB K (rz ⟨Z,PK ml vs,H,q,[]⟩) H' (rz ⟨Z,PK ml vs,H,q,[]⟩) v r->Q v H':=λδ' v f H' p A l m=>by
  have hz:∀a,Zp Z ml vs a->rz ⟨Z,PK ml vs,H,q,[]⟩ a:=λa h=>by
   rcases h with h|⟨i,hi,e⟩
   ·exact .inl h
   ·exact .inr ⟨i,(n i a).mpr ⟨hi,e⟩⟩
  refine k v H' l.frm (λkk i a o z F D=>?_) (m.mono hz hz);have hd:=F6 A kk i o z D;obtain⟨I,y,_,w⟩:=l.ow i o hd;have hi:i∈ml:=Cp z;have:=(l.par.2 i hi).trans ((n i a).mpr ⟨hi,F⟩)
  rw[this] at y;cases y;refine w.mono λb u=>?_;rcases u with u|⟨j,x,C⟩
  ·exact .inl u
  ·exact .inr ⟨j,(l.par.2 j x).trans ((n j b).mpr ⟨x,C⟩)⟩
 cases o with
 |rt d δ'=>
  have c:(SV ml δ').map (λos=>(d,os))=some (r,os):=c;cases h2:SV ml δ' with
  |none=>rw[h2] at c;cases c
  |some s=>
   rw[h2] at c;cases c;exact λv f H' p l m=>fin δ' v f H' p h2 l m
 |nx δ'=>
  have c:(SV ml δ').map (λos=>(c6.non,os))=some (r,os):=c;cases h2:SV ml δ' with
  |none=>rw[h2] at c;cases c
  |some s=>
   rw[h2] at c;cases c;exact λf H' p l=>fin δ' .non f H' p h2 l .non
 |bk δ'=>cases c
 |ct δ'=>cases c
theorem YH.okV{P:Bb}{w:Rl}{mg:Rg->Option Rc}{base:Rn}{x a:Rg}{st:Rq}{f:Rf}{fd:Ds}{N ps:List Rg}{k:Nat}(F:YH K x a st f fd)(S:cM N ps (cV st))(c:ps.length<=N.length)(i:∀(b:Rc) (A:Cn) (outer:List Env) (s:Af) (H:Hp) (E:XK),ZD k (A.deeper (Js a (cV st) s.heap.objs.size f b))->PF (KS CX0 P w K mg base N a (cV st) f b A outer s H E).nox (aU st) (TC K ml g)):bO P w K mg base CX0 (k+1) f fd ps (spV K ml ps.length (bD N.length ml g)):=by refine F.ok S (λvs H Q E h=>?_) (λb A outer s H vs Q E d h=>⟨_,i b A outer s H E d,Tn c h⟩);obtain⟨Z,ds,r,os,e,AV,_⟩:=h;rw[AV.len,e]
inductive AV where
 |d (d:c6)|o (j:Nat)
inductive TH(K:Al)(N:Rf->Prop)(H:Hp)(σ:St):List V->List AV->Prop
 |nil:TH K N H σ [] []
 |d {v:V} {vs:List V} {d:c6} {as:List AV}:bB K N H N v d->TH K N H σ vs as->TH K N H σ (v::vs) (.d d::as)
 |o {v:V} {vs:List V} {j:Nat} {as:List AV}:σ[j]?=some (some v)->TH K N H σ vs as->TH K N H σ (v::vs) (.o j::as)
abbrev NM:=Ev->Option (List AV×Ev)
structure ResG(K:Al)(ml:List Nat)(B:Bs)(O:Nat->Option Rf)(H:Hp)(σ:St)(pu:Bool)(H':Hp)(δ':Ev)(vs:List V)(as:List AV):Prop where
 sta:Z6 K ml B O H' σ δ'
 frm:Fr (OA O) H H'
 pur:pu=true->aH H H'
 rep:TH K (Nn B O) H' σ vs as
def CW(K:Al)(ml:List Nat)(pu:Bool)(f:NM):TA:=λσ H Q=>∃B O δ as δ',Z6 K ml B O H σ δ/\f δ=some (as,δ')/\∀vs H',ResG K ml B O H σ pu H' δ' vs as->Q vs H'
def b9:NM:=λδ=>some ([],δ)
noncomputable def aE(f:VF)(fs:NM):NM:=λδ=>(f δ).bind λp=>(fs p.2).map λq=>(.d p.1::q.1,q.2)
noncomputable def slot(δ:Ev)(j:Nat):Option c6:=match δ[j]? with
 |some (.va d)=>some d
 |some (.ow d)=>some d
 |_=>none
noncomputable def aO(j:Nat)(fs:NM):NM:=λδ=>(slot δ j).bind λ_=>(fs δ).map λq=>(.o j::q.1,q.2)
theorem cU:PA X [] (CW K ml true b9):=ZE.imp λσ H Q a=>by obtain⟨B,O,δ,d,δ',S,q,k⟩:=a;cases q;exact k [] H ⟨S,Fr.refl _ _,λ_=>aH.refl _,.nil⟩
theorem cX{fs:NM}(i:PE X a (TV K ml pa true true fa))(h:PA X es (CW K ml ps fs))(g:Ae (a::es) X.env=(false,eval a X.env)::Ae es X.env:=by rfl):PA X (a::es) (CW K ml (pa&&ps) (aE fa fs)):=(bC i h g).imp λσ H Q c=>by obtain⟨B,O,δ,as,δ2,S,q,k⟩:=c;unfold aE at q;obtain⟨⟨x,δ1⟩,h1,q⟩:=Aa.mp q;have q:((fs δ1).map λq=>(AV.d x::q.1,q.2))=some (as,δ2):=q;obtain⟨p2,h2,q⟩:=At.mp q;cases q;refine⟨B,O,δ,x,δ1,S,h1,λj H1 b=>⟨B,O,δ1,_,_,b.sta,h2,λvs H2 R2=>k _ H2 ⟨R2.sta,b.frm.trans R2.frm,λz=>?_,.d (b.rep.fr R2.frm (λa z=>.inr z) λa z=>.inr z) R2.rep⟩⟩⟩;obtain⟨f,e⟩:=(Ah _ _).mp z;exact(b.pur f).trans (R2.pur e)
theorem J8{j:Nat}{d:c6}(h:slot δ j=some d):δ[j]?=some (.va d)∨δ[j]?=some (.ow d):=by
 unfold slot at h;split at h
 ·cases h;exact .inl (by assumption)
 ·cases h;exact .inr (by assumption)
 ·cases h
theorem Z6.slot(S:Z6 K ml B O H σ δ){j:Nat}{d:c6}(h:slot δ j=some d):∃v,σ[j]?=some (some v):=by
 rcases J8 h with h|h
 ·obtain⟨v,e,_⟩:=S.va j d h
  exact⟨v,e⟩
 ·obtain⟨a,_,e,_⟩:=S.ow j d h
  exact⟨_,e⟩
theorem bH{fs:NM}{j:Nat}(g:PE X a (XT j))(f:PA X es (CW K ml ps fs))(c:Ae (a::es) X.env=(false,eval a X.env)::Ae es X.env:=by rfl):PA X (a::es) (CW K ml ps (aO j fs)):=(bC g f c).imp λσ H Q b=>by obtain⟨B,O,δ,as,δ2,S,q,k⟩:=b;unfold aO at q;obtain⟨d,h1,q⟩:=Aa.mp q;have q:((fs δ).map λq=>(AV.o j::q.1,q.2))=some (as,δ2):=q;obtain⟨p2,h2,q⟩:=At.mp q;cases q;obtain⟨v,e⟩:=S.slot h1;exact⟨v,e,B,O,δ,_,_,S,h2,λvs H2 R2=>k _ H2 ⟨R2.sta,R2.frm,R2.pur,.o e R2.rep⟩⟩
theorem TH.length:∀{N:Rf->Prop} {vs:List V} {as:List AV},TH K N H σ vs as->vs.length=as.length
 |_,_,_,.nil=>rfl
 |_,_,_,.d _ t=>congrArg (· +1) (TH.length t)
 |_,_,_,.o _ t=>congrArg (· +1) (TH.length t)
theorem TH.getD:∀{N:Rf->Prop} {vs:List V} {as:List AV} {i:Nat} {d:c6},TH K N H σ vs as->as[i]?=some (.d d)->∃v,vs[i]?=some v/\bB K N H N v d
 |_,_,_,_,_,.nil,e=>by simp at e
 |_,_,_,0,_,.d h _,e=>by simp at e;subst e;exact⟨_,rfl,h⟩
 |_,_,_,0,_,.o h _,e=>by simp at e
 |_,_,_,i+1,_,.d _ t,e=>by obtain⟨u,h1,h2⟩:=TH.getD (i:=i) t (by simpa using e);exact⟨u,by simpa using h1,h2⟩
 |_,_,_,i+1,_,.o _ t,e=>by obtain⟨u,h1,h2⟩:=TH.getD (i:=i) t (by simpa using e);exact⟨u,by simpa using h1,h2⟩
theorem TH.getO:∀{N:Rf->Prop} {vs:List V} {as:List AV} {i j:Nat},TH K N H σ vs as->as[i]?=some (.o j)->∃v,vs[i]?=some v/\σ[j]?=some (some v)
 |_,_,_,_,_,.nil,e=>by simp at e
 |_,_,_,0,_,.d h _,e=>by simp at e
 |_,_,_,0,_,.o h _,e=>by simp at e;subst e;exact⟨_,rfl,h⟩
 |_,_,_,i+1,_,.d _ t,e=>by obtain⟨u,h1,h2⟩:=TH.getO (i:=i) t (by simpa using e);exact⟨u,by simpa using h1,h2⟩
 |_,_,_,i+1,_,.o _ t,e=>by obtain⟨u,h1,h2⟩:=TH.getO (i:=i) t (by simpa using e);exact⟨u,by simpa using h1,h2⟩
noncomputable def argD(δ:Ev):AV->Option c6
 |.d d=>some d
 |.o j=>slot δ j
noncomputable def U7(δ:Ev):List AV->Option (List c6)
 |[]=>some []
 |a::as=>(argD δ a).bind λd=>(U7 δ as).map λds=>d::ds
theorem IU:∀{as:List AV} {ds:List c6},U7 δ as=some ds->as.length=ds.length/\∀(i:Nat) (d:c6),ds[i]?=some d->∃a,as[i]?=some a/\argD δ a=some d
 |[],ds,h=>by cases h;exact⟨rfl,λi d e=>by simp at e⟩
 | a :: as,ds,h => by
  unfold U7 at h;obtain⟨d,h1,h⟩:=Aa.mp h;cases h2:U7 δ as with
  |none=>simp[h2] at h
  |some k=>
   simp only[Ak,h2] at h;cases h;obtain⟨l,g⟩:=IU h2;refine⟨by simp[l],λi e c=>?_⟩;cases i with
   |zero=>cases c;exact⟨a,rfl,h1⟩
   |succ i=>
    obtain⟨b,j,f⟩:=g i e (by simpa using c);exact⟨b,by simpa using j,f⟩
noncomputable def TK:List AV->List Nat
 |[]=>[]
 |.d _::as=>TK as
 |.o j::as=>j::TK as
theorem OP:∀{as:List AV} {i j:Nat},as[i]?=some (.o j)->j∈TK as
 |[],_,_,e=>by simp at e
 |.d _::as,0,j,e=>by simp at e
 |.o k::as,0,j,e=>by simp at e;subst e;exact Ay
 |.d _::as,i+1,j,e=>OP (as:=as) (i:=i) (by simpa using e)
 |.o k::as,i+1,j,e=>Ar _ (OP (as:=as) (i:=i) (by simpa using e))
theorem A8:∀{as:List AV} {j:Nat},j∈TK as->∃i:Nat,as[i]?=some (AV.o j)
 |[],_,h=>nomatch h
 |.d _::as,j,h=>by obtain⟨i,e⟩:=A8 (as:=as) h;exact⟨i+1,by simpa using e⟩
 | .o k :: as,j,h => by
  rcases Aj.mp h with e|e
  ·exact⟨0,by rw[e];rfl⟩
  ·obtain⟨i,e⟩:=A8 (as:=as) e
   exact⟨i+1,by simpa using e⟩
theorem HQ:∀{as:List AV} {i k j:Nat},(TK as).Nodup->as[i]?=some (.o j)->as[k]?=some (.o j)->i=k
 |[],_,_,_,_,e,_=>by simp at e
 |.d _::as,0,_,j,_,e,_=>by simp at e
 |.d _::as,_+1,0,j,_,_,e=>by simp at e
 |.d _::as,i+1,k+1,j,n,b,a=>congrArg (· +1) (HQ (as:=as) n (by simpa using b) (by simpa using a))
 |.o x::as,0,0,j,_,_,_=>rfl
 |.o x::as,0,k+1,j,n,b,a=>by
  simp at b;subst b;have h:as[k]?=some (.o x):=by simpa using a
  exact absurd (OP h) (Cv.mp n).1
 |.o x::as,i+1,0,j,n,b,a=>by
  simp at a;subst a;have h:as[i]?=some (.o x):=by simpa using b
  exact absurd (OP h) (Cv.mp n).1
 |.o x::as,i+1,k+1,j,n,b,a=>congrArg (· +1) (HQ (as:=as) (Cv.mp n).2 (by simpa using b) (by simpa using a))
noncomputable def BD(δ:Ev)(as:List AV)(i:Nat):Bool:=match as[i]? with
 |some (.o j)=>match δ[j]? with
  |some (.ow _)=>true
  |_=>false
 |_=>false
noncomputable def VO(mF:List Nat):List AV->Nat->Bool
 |[],_=>true
 |.d _::as,i=>VO mF as (i+1)
 |.o _::as,i=>decide (i∈mF)&&VO mF as (i+1)
theorem RM{mF:List Nat}:∀{as:List AV} {k i j:Nat},VO mF as k=true->as[i]?=some (.o j)->k+i∈mF
 |[],_,_,_,_,e=>by simp at e
 |.d _::as,k,0,j,h,e=>by simp at e
 |.o _::as,k,0,j,h,e=>by simp only[VO,Ah,decide_eq_true_eq] at h;exact h.1
 |.d _::as,k,i+1,j,h,e=>by
  have:=RM (as:=as) (k:=k+1) (i:=i) (j:=j) h (by simpa using e)
  rwa[show k+(i+1)=k+1+i by lia]
 |.o _::as,k,i+1,j,h,e=>by
  simp only[VO,Ah] at h;have:=RM (as:=as) (k:=k+1) (i:=i) (j:=j) h.2 (by simpa using e)
  rwa[show k+(i+1)=k+1+i by lia]
noncomputable def SQ:c6->Bool
 |.lst ds=>TU ds
 |.dct _ ds=>TU ds
 |.flt _ _ _ _ ds=>TU ds
 |_=>false
theorem NL.kids{N N':Rf->Prop}{a:Rf}(w:NL K N H a d)(h:SQ d=true):NL K N' H a d:=by
 cases w with
 |lst q r=>exact .lst q (r.hard h)
 |dct q r=>exact .dct q (r.hard h)
 |flt q r=>exact .flt q (r.hard h)
noncomputable def US(as:List AV):List Nat->List c6->Ev->Ev
 |i::is,o::os,δ=>match as[i]? with
  |some (.o j)=>US as is os (δ.set j (.ow o))
  |_=>US as is os δ
 |_,_,δ=>δ
theorem P7{as:List AV}:∀{is:List Nat} {os:List c6} {δ:Ev},(US as is os δ).length=δ.length
 |[],_,_=>rfl
 |_::_,[],_=>rfl
 |i::is,o::os,δ=>by
  unfold US;split
  ·rw[P7,Ca]
  ·rw[P7]
theorem L8{as:List AV}:∀{is:List Nat} {os:List c6} {δ:Ev} (j:Nat),is.length=os.length->j<δ.length->(∃(k i:Nat) (o:c6),is[k]?=some i/\os[k]?=some o/\as[i]?=some (AV.o j)/\(US as is os δ)[j]?=some (Sl.ow o))∨((∀i∈is,as[i]? ≠some (AV.o j))/\(US as is os δ)[j]?=δ[j]?)
 |[],[],δ,j,_,_=>.inr ⟨(λi h=>nomatch h),rfl⟩
 | i :: is,o :: os,δ,j,hl,d => by
  unfold US;split
  ·rename_i g l
   rcases L8 (is:=is) (os:=os) (δ:=δ.set g (.ow o)) j (by simpa using hl) (by rw[Ca];exact d) with⟨k,a,o',h1,h2,f,e⟩|⟨h1,h2⟩
   ·exact .inl ⟨k+1,a,o',by simpa using h1,by simpa using h2,f,e⟩
   ·by_cases b:j=g
    ·subst b
     rw[Dd d] at h2;exact .inl ⟨0,i,o,rfl,rfl,l,h2⟩
    ·rw[Bw (Cq b)] at h2
     refine .inr ⟨λa c=>?_,h2⟩;rcases Aj.mp c with z|z
     ·rw[z,l]
      intro w;cases w;exact b rfl
     ·exact h1 a z
  ·rename_i m
   rcases L8 (is:=is) (os:=os) (δ:=δ) j (by simpa using hl) d with⟨k,a,o',h1,h2,f,e⟩|⟨h1,h2⟩
   ·exact .inl ⟨k+1,a,o',by simpa using h1,by simpa using h2,f,e⟩
   ·refine .inr ⟨λa c => ?_,h2⟩
    rcases Aj.mp c with z|z
    ·rw[z]
     exact λw=>m j w
    ·exact h1 a z
noncomputable def T4(mF:List Nat)(as:List AV)(δ:Ev):Bool:=mF.all (BD δ as)&&decide (TK as).Nodup
noncomputable def UZ(mF:List Nat)(as:List AV)(r:c6)(os:List c6):Bool:=(VO mF as 0 || r.hard)&&(VO mF as 0 || os.all SQ)&&decide (mF.length=os.length)
noncomputable def cQ(n:Nat)(mF:List Nat)(F:b8)(fs:NM):VF:=λδ=>(fs δ).bind λp=>(U7 p.2 p.1).bind λds=>if ds.length=n/\T4 mF p.1 p.2=true then(F ds).bind λq=>if UZ mF p.1 q.1 q.2=true then some (q.1,US p.1 mF q.2 p.2) else none else none
theorem M8{n:Nat}{mF:List Nat}{F:b8}{fs:NM}{Q:VK}(h:TV K ml (ps && mF.isEmpty) true true (cQ n mF F fs) σ H Q):Sf (spV K mF n F) [] E0 (CW K ml ps fs) σ H Q:=by
 obtain⟨B,O,δ,d,δ2,S,q,k⟩:=h;unfold cQ at q;obtain⟨⟨as,δ1⟩,h1,q⟩:=Aa.mp q;have q:((U7 δ1 as).bind λds=>if ds.length=n/\T4 mF as δ1=true then(F ds).bind λq=>if UZ mF as q.1 q.2=true then some (q.1,US as mF q.2 δ1) else none else none)=some (d,δ2):=q;obtain⟨ds,h2,q⟩:=Aa.mp q;have q:(if ds.length=n/\T4 mF as δ1=true then(F ds).bind λq=>if UZ mF as q.1 q.2=true then some (q.1,US as mF q.2 δ1) else none else none)=some (d,δ2):=q;split at q
 ·rename_i hc
  obtain⟨⟨r,os⟩,h3,q⟩:=Aa.mp q;have q:(if UZ mF as r os=true then some (r,US as mF os δ1) else none)=some (d,δ2):=q;split at q
  ·rename_i T
   cases q;obtain⟨hn,hc⟩:=hc;simp only[T4,Ah,decide_eq_true_eq,Fy] at hc;simp only[UZ,Ah,decide_eq_true_eq] at T;obtain⟨Z,U⟩:=hc;obtain⟨⟨si,tq⟩,ah⟩:=T;refine⟨B,O,δ,as,δ1,S,h1,λvs H1 R=>?_⟩;show spV K mF n F (vs++[]) H1 Q E0;rw[Bp];obtain⟨V,W⟩:=IU h2;have G:∀i∈mF,∃j a x,as[i]?=some (.o j)/\δ1[j]?=some (.ow x)/\O j=some a/\vs[i]?=some (.ref a)/\NL K (Nn B O) H1 a x:=λi hi=>by
    have:=Z i hi
    unfold BD at this;split at this
    ·rename_i j ej
     split at this
     ·rename_i x ex
      obtain⟨a,c,g,w⟩:=R.sta.ow j x ex;obtain⟨v,l,t⟩:=R.rep.getO ej;rw[g] at t;cases t;exact⟨j,a,x,ej,ex,c,l,w⟩
     ·cases this
    ·cases this
   have hP:∀a,PK mF vs a->∃i j,i∈mF/\as[i]?=some (.o j)/\O j=some a:=λa q0=>by obtain⟨i,hi,e⟩:=q0;obtain⟨j,a',x,c,_,g,l,_⟩:=G i hi;rw[e] at l;cases l;exact⟨i,j,hi,c,g⟩
   have L:∀a,PK mF vs a->OA O a:=λa h=>by obtain⟨i,j,_,_,e⟩:=hP a h;exact⟨j,e⟩
   have s:∀a,Zp (λa=>Nn B O a/\∀j∈TK as,O j≠some a) mF vs a->Nn B O a:=λa h=>by
    rcases h with h|h
    ·exact h.1
    ·exact .inr (L a h)
   refine⟨λa=>Nn B O a/\∀j∈TK as,O j≠some a,ds,_,os,hn,⟨by rw[<-V,R.rep.length],λi hi=>?_,λi x hi e=>?_,λi x hi e=>?_,λi j a hi X c g=>?_,λa h=>R.sta.nin h.1⟩,h3,λv H2 f2 w2 r2=>?_⟩
   ·obtain⟨j,a,x,c,_⟩:=G i hi
    rw[<-V];exact(Ag.mp c).1
   ·obtain⟨a,c,g⟩:=W i x e
    cases a with
    |d y=>
     cases g;obtain⟨v,l,r⟩:=R.rep.getD c;exact⟨v,l,r.mono s s⟩
    |o j=>
     obtain⟨v,l,t⟩:=R.rep.getO c;refine⟨v,l,?_⟩;rcases J8 g with C|C
     ·obtain⟨v',A,r⟩:=R.sta.va j x C
      rw[t] at A;cases A;exact r.mono s s
     ·obtain⟨a,J,A,w⟩:=R.sta.ow j x C
      rw[t] at A;cases A;refine(w.mono s).rep λz=>?_;rcases z with z|z
      ·exact z.2 j (OP c) J
      ·obtain⟨P,m,f,I,M⟩:=hP a z
       have:j=m:=R.sta.inj j m a J M
       subst this;have:=HQ U c I
       subst this;exact hi f
   ·obtain⟨a,c,g⟩:=W i x e
    obtain⟨j,b,y,l,t,C,A,w⟩:=G i hi;rw[l] at c;cases c;have J:slot δ1 j=some y:=by unfold slot;rw[t]
    have g:slot δ1 j=some x:=g;rw[J] at g;cases g;exact⟨b,A,w.mono s,λz=>z.2 j (OP l) C⟩
   ·obtain⟨j1,b1,_,l,_,t,C,_⟩:=G i hi
    obtain⟨j2,b2,_,A,_,J,I,_⟩:=G j X;rw[c] at C;cases C;rw[g] at I;cases I;have:j1=j2:=R.sta.inj j1 j2 a t J
    subst this;exact HQ U l A
   ·have S2:Z6 K ml B O H2 σ (US as mF os δ1):=by
     refine R.sta.call P7 (λj=>?_) f2 L;by_cases X:j<δ1.length
     ·rcases L8 (as:=as) (is:=mF) (os:=os) (δ:=δ1) j ah X with⟨kk,i,o,c,g,l,t⟩|⟨c,g⟩
      ·obtain⟨m,a,x,C,_,A,J,_⟩:=G i (Cp c)
       rw[l] at C;cases C;have w:=w2 kk i a o c J g;refine .inr ⟨a,o,A,t,?_⟩;rcases(Hj _ _).mp tq with z|z
       ·refine w.mono λb T => ?_
        by_cases u:∃m∈TK as,O m=some b
        ·obtain⟨m,p,I⟩:=u
         obtain⟨P,M⟩:=A8 p;have f:=RM z M;rw[Ig] at f;obtain⟨Y,a'',_,E,_,D,N,_⟩:=G P f;rw[M] at E;cases E;rw[I] at D;cases D;exact .inr ⟨P,f,N⟩
        ·exact .inl ⟨T,λm p e=>u ⟨m,p,e⟩⟩
       ·exact w.kids (Fy.mp z o (Cp g))
      ·refine .inl ⟨g,λa ea hPa => ?_⟩
       obtain⟨i,m,hi,l,t⟩:=hP a hPa;have:j=m:=R.sta.inj j m a ea t
       subst this;exact c i hi l
     ·refine .inl ⟨?_,λa ea => ?_⟩
      ·rw[Ci (by rw[P7];lia),Ci (by lia)]
      ·obtain⟨x,ex⟩:=R.sta.dom j a ea
       exact absurd (Ag.mp ex).1 X
    refine k v H2 ⟨S2,R.frm.trans (f2.mono L),λz=>?_,?_⟩
    ·obtain⟨z1,z2⟩:=(Ah _ _).mp z
     refine(R.pur z1).trans λb o e=>f2 b o e λw=>?_;obtain⟨i,hi,_⟩:=w;rw[Nz.mp z2] at hi;cases hi
    ·rcases(Hj _ _).mp si with z|z
     ·have hN : ∀ a,Nn B O a -> Zp (λa => Nn B O a /\ ∀ j ∈ TK as,O j ≠ some a) mF vs a := λb T => by
       by_cases u:∃m∈TK as,O m=some b
       ·obtain⟨m,p,I⟩:=u
        obtain⟨P,M⟩:=A8 p;have f:=RM z M;rw[Ig] at f;obtain⟨Y,a'',_,E,_,D,N,_⟩:=G P f;rw[M] at E;cases E;rw[I] at D;cases D;exact .inr ⟨P,f,N⟩
       ·exact .inl ⟨T,λm p e=>u ⟨m,p,e⟩⟩
      exact r2.mono hN hN
     ·exact r2.hard z
  ·cases q
 ·cases q
theorem mQ{x:Rg}{kk j n:Nat}{qs:List Rg}{mF:List Nat}{F:b8}{ff:Rf}{p':Pos}{fs:NM}(i:X.K=K)(D:Def X.prog X.w K X.mg X.base x kk qs (spV K mF n F) ff)(c:ZD j X.A)(hk:kk<=j)(d:Gl X x)(g:PA X (e::es) (CW K ml ps fs))(b:(x==("__debug__":Rg))=false:=by decide)(f:Ae (e::es) X.env=(false,eval e X.env)::Ae es X.env:=by rfl)(a:(Dx pos (Ae es X.env)).any (·.1)=false:=by rfl):PE X (.Call (.Name x p') (e::es) [] pos) (TV K ml (ps&&mF.isEmpty) true true (cQ n mF F fs)):=by subst i;exact(Zu D c hk d g b f a).imp λ_ _ _ h=>M8 h
end
section
variable{X:Cx}{K:Al}{ml:List Nat}{e a b c:Rk}{es:List Rk}{pi pt pe pu bt bi ps bs:Bool}{f:VF}{B B':Bs}{O:Nat->Option Rf}{H H0 H1 H':Hp}{σ:St}{δ δ':Ev}{v:V}{d:c6}{p:Rf}{pos:Pos}{ix:List Nat}{nl:Nat}
def bL(ix:List Nat)(δ:Ev):Ev:=ix.map λi=>(δ[i]?).getD .no
def HU(nl:Nat):Ev:=Bn nl Sl.no
noncomputable def ZZ(n nl:Nat)(gg:VG)(tb:VB)(fe:VF):List c6->List c6->Ev->Option (List c6×Ev)
 |[],acc,δ=>some (acc,δ)
 |d::r,acc,δ=>(gg d (δ++HU nl)).bind λδ1=>(tb δ1).bind λp=>if p.1=true then(fe p.2).bind λq=>if acc.length<16777216 then ZZ n nl gg tb fe r (acc++[q.1]) (q.2.take n) else none else ZZ n nl gg tb fe r acc (p.2.take n)
noncomputable def YC:List Nat->Ev->Ev->Ev
 |i::is,s::ss,δ=>match s with
  |.ow d=>YC is ss (δ.set i (.ow d))
  |_=>YC is ss δ
 |_,_,δ=>δ
noncomputable def ZR(ix:List Nat)(nl:Nat)(a:VI)(gg:VG)(tb:VB)(fe:VF):VF:=λδ=>(a δ).bind λp=>(ZZ ix.length nl gg tb fe p.1 [] (bL ix p.2)).map λq=>(.lst q.1,YC ix q.2 p.2)
def WC:VB:=λδ=>some (true,δ)
theorem UM:∀{ix:List Nat} {ss δ:Ev},(YC ix ss δ).length=δ.length
 |[],_,_=>rfl
 |_::_,[],_=>rfl
 |i::is,s::ss,δ=>by
  cases s<;>simp only[YC]<;>rw[UM]<;>try rw[Ca]
theorem UL:∀{ix:List Nat} {ss δ:Ev} (i:Nat),i<δ.length->ix.length=ss.length->(∃(j:Nat) (d:c6),ix[j]?=some i/\ss[j]?=some (Sl.ow d)/\(YC ix ss δ)[i]?=some (Sl.ow d))∨((∀(j:Nat) (d:c6),ix[j]?=some i->ss[j]? ≠some (Sl.ow d))/\(YC ix ss δ)[i]?=δ[i]?)
 |[],ss,δ,i,hi,hl=>.inr ⟨(λj d h=>by simp at h),rfl⟩
 |k::is,[],δ,i,hi,hl=>by cases hl
 | k :: is,s :: ss,δ,i,hi,hl => by
  have a:is.length=ss.length:=by simpa using hl
  cases s with
  |ow d=>
   simp only[YC];rcases UL (ix:=is) (ss:=ss) (δ:=δ.set k (.ow d)) i (by rw[Ca];exact hi) a with⟨j,d',h1,h2,b⟩|⟨h1,h2⟩
   ·exact .inl ⟨j+1,d',by simpa using h1,by simpa using h2,b⟩
   ·by_cases hk:i=k
    ·subst hk
     rw[Dd hi] at h2;exact .inl ⟨0,d,rfl,rfl,h2⟩
    ·rw[Bw (Cq hk)] at h2
     refine .inr ⟨λj d' e=>?_,h2⟩;cases j with
     |zero=>cases e;exact absurd rfl hk
     |succ j=>simpa using h1 j d' (by simpa using e)
  |va d=>
   simp only[YC];rcases UL (ix:=is) (ss:=ss) (δ:=δ) i hi a with⟨j,d',h1,h2,b⟩|⟨h1,h2⟩
   ·exact .inl ⟨j+1,d',by simpa using h1,by simpa using h2,b⟩
   ·refine .inr ⟨λj d' e => ?_,h2⟩
    cases j with
    |zero=>simp
    |succ j=>simpa using h1 j d' (by simpa using e)
  |no=>
   simp only[YC];rcases UL (ix:=is) (ss:=ss) (δ:=δ) i hi a with⟨j,d',h1,h2,b⟩|⟨h1,h2⟩
   ·exact .inl ⟨j+1,d',by simpa using h1,by simpa using h2,b⟩
   ·refine .inr ⟨λj d' e => ?_,h2⟩
    cases j with
    |zero=>simp
    |succ j=>simpa using h1 j d' (by simpa using e)
noncomputable def Oc(ix:List Nat)(O:Nat->Option Rf):Nat->Option Rf:=λj=>(ix[j]?).bind O
noncomputable def Bc(ix:List Nat)(B:Bs)(O:Nat->Option Rf)(H0:Hp)(D:Rf)(kp:List (V×c6)):Bs:=
 ⟨λa=>(B.Z a∨a=D)∨∃i,O i=some a/\i∉ix,OA (Oc ix O),H0,Oc ix O,kp⟩
theorem NU{D:Rf}{kp:List (V×c6)}:∀a,Nn (Bc ix B O H0 D kp) (Oc ix O) a->Nn B O a∨a=D:=λa h=>by
 rcases h with((h|h)|⟨i,h,_⟩)|⟨j,h⟩
 ·exact .inl (.inl h)
 ·exact .inr h
 ·exact .inl (.inr ⟨i,h⟩)
 ·unfold Oc at h
  cases q:ix[j]? with
  |none=>rw[q] at h;cases h
  |some i=>rw[q] at h;exact .inl (.inr ⟨i,h⟩)
theorem OU{D:Rf}{kp:List (V×c6)}:∀a,Nn (B.add D) O a->Nn (Bc ix B O H0 D kp) (Oc ix O) a:=λa h=>by
 rcases h with h|⟨i,h⟩
 ·exact .inl (.inl h)
 ·by_cases hi:i∈ix
  ·obtain⟨j,b⟩:=Li.mp hi
   exact .inr ⟨j,by unfold Oc;rw[b];exact h⟩
  ·exact .inl (.inr ⟨i,h,hi⟩)
theorem Z6.withKp{kp:List (V×c6)}(S:Z6 K ml B O H σ δ)(h:∀p∈kp,bB K (Nn B O) H (Nn B O) p.1 p.2):Z6 K ml {B with kp:=kp} O H σ δ:=
 ⟨S.len,S.va,S.ow,S.dom,S.inj,S.old,S.zin,S.frm,S.par,S.pin,h⟩
theorem Z6.writeZ{D:Rf}{o:HO}{acc:List V}(S:Z6 K ml B O H σ δ)(k:B.Z D)(hl:H D=some (.lst acc))(m:B.H0 D=none):Z6 K ml B O (upd H D o) σ δ:=by
 have j:Fr (λb=>b=D) H (upd H D o):=⟨λb u q n=>by
  by_cases c:b=D
  ·subst c
   rw[hl] at q;cases q;exact absurd (n rfl) λz=>z
  ·rw[cL c]
   exact q,(KN.of hl).upd⟩
 have g:∀b,b=D->Nn B O b:=λb z=>.inl (z▸k);have f:∀b,(∃u,H b=some u)->∃u,upd H D o b=some u:=λb q0=>by
  obtain⟨u,q⟩:=q0;by_cases c:b=D
  ·exact⟨o,by rw[c];exact cN⟩
  ·exact⟨u,by rw[cL c];exact q⟩
 refine⟨S.len,λi d q=>?_,λi d q=>?_,S.dom,S.inj,S.old,λb h=>f b (S.zin b h),⟨λb u q n=>?_,λb _ _ _ _ _ _ _ _ h=>let ⟨_,_,e⟩:=S.frm.ft _ _ _ _ _ _ _ _ _ h;(KN.of hl).upd _ _ _ _ _ _ _ _ _ e⟩,S.par,λb h=>f b (S.pin b h),λp l=>(S.kep p l).fr j g g⟩
 ·obtain⟨v,e,r⟩:=S.va i d q
  exact⟨v,e,r.fr j g g⟩
 ·obtain⟨a,e,s,w⟩:=S.ow i d q
  exact⟨a,e,s,w.fr j g λz=>(S.old i a e).1 (z▸k)⟩
 ·have c : b ≠ D := λz => by rw [z,m] at q;cases q
  rw[cL c];exact S.frm b u q n
theorem JC{j:Nat}{s:Sl}(h:(bL ix δ++HU nl)[j]?=some s):(∃i,ix[j]?=some i/\s=(δ[i]?).getD .no)∨s=.no:=by
 unfold bL HU at h;by_cases a:j<ix.length
 ·rw [Ai (by simpa using a),Dc] at h
  cases q:ix[j]? with
  |none=>rw[q] at h;cases h
  |some i=>rw[q] at h;cases h;exact .inl ⟨i,rfl,rfl⟩
 ·rw [Ba (by simpa using a),Ea] at h
  split at h
  ·cases h;exact .inr rfl
  ·cases h
theorem E6{i j:Nat}{v:V}(hi:ix[j]?=some i)(h:σ[i]?=some (some v)):(X8 ix σ++Bn nl none)[j]?=some (some v):=by have a:j<ix.length:=(Ag.mp hi).1;unfold X8;rw[Ai (by simpa using a),Dc,hi];show some ((σ[i]?).join)=_;rw[h];rfl
theorem Z6.inner{D:Rf}(S:Z6 K ml B O H0 σ δ)(b:H0 D=none)(u:ix.Nodup){m:List (V×c6)}(hk:∀p∈m,bB K (Nn B O) H0 (Nn B O) p.1 p.2):
  Z6 K (Bh ix.length) (Bc ix B O H0 D m) (Oc ix O) (upd H0 D (.lst [])) (X8 ix σ++Bn nl none) (bL ix δ++HU nl) where
 len:=by simp[X8,bL,HU]
 va := λj d e => by
  rcases JC e with⟨i,hi,q⟩|q
  ·have q:δ[i]? =some (.va d):=by
    cases w:δ[i]? with
    |none=>rw[w] at q;cases q
    |some s=>rw[w] at q;rw[show s=.va d from q.symm]
   obtain⟨v,c,r⟩:=S.va i d q;exact⟨v,E6 hi c,(r.away b _ _ NU NU).same (cS b)⟩
  ·cases q
 ow := λj d e => by
  rcases JC e with⟨i,hi,q⟩|q
  ·have q:δ[i]? =some (.ow d):=by
    cases w:δ[i]? with
    |none=>rw[w] at q;cases q
    |some s=>rw[w] at q;rw[show s=.ow d from q.symm]
   obtain⟨a,c,f,w⟩:=S.ow i d q;refine⟨a,by unfold Oc;rw[hi];exact c,E6 hi f,?_⟩;cases w with
   |lst l r=>exact .lst (cS b _ _ l) ((r.away b _ _ NU).same (cS b))
   |dct l r=>exact .dct (cS b _ _ l) ((r.away b _ _ NU).same (cS b))
   |flt l r=>exact .flt (l.same (cS b)) ((r.away b _ _ NU).same (cS b))
  ·cases q
 dom:=λj a e=>by unfold Oc at e;obtain⟨i,hi,e⟩:=Aa.mp e;obtain⟨d,q⟩:=S.dom i a e;refine⟨d,?_⟩;have y:j<ix.length:=(Ag.mp hi).1;unfold bL;rw[Ai (by simpa using y),Dc,hi];show some ((δ[i]?).getD .no)=_;rw[q];rfl
 inj:=λj k a c f=>by
  unfold Oc at c f;cases hi:ix[j]? with
  |none=>rw[hi] at c;cases c
  |some i=>
   cases hk:ix[k]? with
   |none=>rw[hk] at f;cases f
   |some t=>
    rw[hi] at c;rw[hk] at f;have:i=t:=S.inj i t a c f
    subst this;obtain⟨C,q1⟩:=Ag.mp hi;obtain⟨A,q2⟩:=Ag.mp hk;exact(Nv u).mp (q1.trans q2.symm)
 old:=λj a e=>by
  have g:=e;unfold Oc at g;cases hi:ix[j]? with
  |none=>rw[hi] at g;cases g
  |some i=>
   rw[hi] at g;refine⟨λz=>?_,.inl ⟨j,e⟩⟩;rcases z with(z|z)|⟨t,z,n⟩
   ·exact(S.old i a g).1 z
   ·obtain⟨o,q⟩:=S.nin (.inr ⟨i,g⟩)
    rw[z,b] at q;cases q
   ·have:i=t:=S.inj i t a g z
    subst this;exact n (Cp hi)
 zin:=λa h=>by
  rcases h with(h|h)|⟨i,h,_⟩
  ·obtain⟨o,q⟩:=S.zin a h
   exact⟨o,cS b _ _ q⟩
  ·exact⟨_,by rw[h];exact cN⟩
  ·obtain⟨o,q⟩:=S.nin (.inr ⟨i,h⟩)
   exact⟨o,cS b _ _ q⟩
 frm:=(cS b).fr
 par:=⟨λj a e=>by
  have e:(ix[j]?).bind O=some a:=e;cases hi:ix[j]? with
  |none=>rw[hi] at e;cases e
  |some i=>exact Ck.mpr (Ag.mp hi).1,λj _=>rfl⟩
 pin:=λa q0=>by obtain⟨j,e⟩:=q0;unfold Oc at e;obtain⟨i,hi,e⟩:=Aa.mp e;obtain⟨o,q⟩:=S.nin (.inr ⟨i,e⟩);exact⟨o,cS b _ _ q⟩
 kep:=λp x=>((hk p x).away b _ _ NU NU).same (cS b)
theorem Z6.turn{l:Nat->Option Rf}{f:St}{n:Nat}{m:St}(S:Z6 K (Bh n) B l H f δ)(C:∀j,n<=j->B.mu j=none)(x:m.length=n)(o:f.take n=m)(D:n<=δ.length):Z6 K (Bh n) B B.mu H (m++Bn nl none) (δ.take n++HU nl):=by
 have z:∀j,j<n->l j=B.mu j:=λj b=>S.par.2 j (Ck.mpr b);have c:∀j a,B.mu j=some a->l j=some a:=λj a e=>by rw[z j (Ck.mp (S.par.1 j a e))];exact e
 have g:∀a,Nn B B.mu a->Nn B l a:=λa h=>by
  rcases h with h|⟨j,h⟩
  ·exact .inl h
  ·exact .inr ⟨j,c j a h⟩
 have y:∀(j:Nat) (s:Sl),(δ.take n++HU nl)[j]?=some s->(j<n/\δ[j]?=some s)∨s=.no:=λj s h=>by
  have hl:(δ.take n).length=n:=by rw[Cw];lia
  by_cases b:j<n
  ·rw [Ai (by rw [hl];exact b),Df b] at h
   exact .inl ⟨b,h⟩
  ·unfold HU at h
   rw[Ba (by rw[hl];lia),Ea] at h;split at h
   ·cases h;exact .inr rfl
   ·cases h
 have u:∀(j:Nat) (v:V),j<n->f[j]?=some (some v)->(m++Bn nl none)[j]?=some (some v):=λj v b e=>by rw[Ai (by rw[x];exact b),<-o,Df b];exact e
 refine⟨?_,λj d e=>?_,λj d e=>?_,λj a e=>?_,λj k a i t=>S.inj j k a (c j a i) (c k a t),λj a e=>S.old j a (c j a e),S.zin,S.frm,⟨S.par.1,λj _=>rfl⟩,S.pin,λp A=>(S.kep p A).mono g g⟩
 ·simp[x,HU,Cw]
  lia
 ·rcases y j _ e with⟨b,e⟩|e
  ·obtain⟨v,i,r⟩:=S.va j d e
   exact⟨v,u j v b i,r.mono g g⟩
  ·cases e
 ·rcases y j _ e with⟨b,e⟩|e
  ·obtain⟨a,i,t,w⟩:=S.ow j d e
   exact⟨a,(z j b)▸i,u j _ b t,w.mono g⟩
  ·cases e
 ·have b:=Ck.mp (S.par.1 j a e)
  obtain⟨d,q⟩:=S.dom j a (c j a e);refine⟨d,?_⟩;rw[Ai (by rw[Cw];lia),Df b];exact q
theorem VR(ix:List Nat)(σ:St):(X8 ix σ).length=ix.length:=by simp[X8]
theorem KD{a:St}(hl:ix.length<=a.length)(h:∀i∈Bh ix.length,a[i]?=(X8 ix σ++Bn nl none)[i]?):a.take ix.length=X8 ix σ:=by
 refine Nc λj=>?_;by_cases b:j<ix.length
 ·rw[Df b,h j (Ck.mpr b),Ai (by rw[VR];exact b)]
 ·rw[Ci (by rw[Cw];lia),Ci (by rw[VR];lia)]
theorem AK{a:St}(d:∀i∈Bh ix.length,a[i]?=(X8 ix σ++Bn nl none)[i]?):ix.length<=a.length:=by
 by_cases hz:ix.length=0
 ·lia
 ·have b : ix.length - 1 < ix.length := by lia
  have:=d (ix.length - 1) (Ck.mpr b)
  have c:(X8 ix σ++Bn nl none)[ix.length - 1]? ≠none:=by rw[Ai (by rw[VR];exact b)];simp[X8,b]
  rw[<-this] at c;have e:ix.length - 1<a.length:=Nat.lt_of_not_le λz=>c (List.getElem?_eq_none_iff.mpr z);lia
theorem CH{fi:VI}{gg:VG}{tb:VB}{fe:VF}(hnd:ix.Nodup){Q:VK}(h:TN K ml (pi&&pt&&pe) (ZR ix nl fi gg tb fe) σ H Q):CF ix nl (TIV K ml pi fi) (TGV K (Bh ix.length) gg) (TB K (Bh ix.length) pt tb) (TV K (Bh ix.length) pe true true fe) σ H Q:=by
 obtain⟨B,O,δ,d,δ2,S,q,k⟩:=h;unfold ZR at q;obtain⟨⟨ds,δ1⟩,h1,q⟩:=Aa.mp q;have q:((ZZ ix.length nl gg tb fe ds [] (bL ix δ1)).map λq=>(c6.lst q.1,YC ix q.2 δ1))=some (d,δ2):=q;obtain⟨⟨res,l⟩,h2,q⟩:=At.mp q;cases q;refine⟨B,O,δ,ds,δ1,S,h1,λJ f H0 y f0 p0 wk D u=>?_⟩;have hDO:∀j,Oc ix O j≠some D:=λj e=>by unfold Oc at e;obtain⟨i,hi,e⟩:=Aa.mp e;obtain⟨o,q⟩:=y.nin (.inr ⟨i,e⟩);rw[u] at q;cases q
 have gf:∀kp j,ix.length<=j->(Bc ix B O H0 D kp).mu j=none:=λkp j R=>by show(ix[j]?).bind O=none;rw[Ci R];rfl
 refine⟨λi m acc H1=>m=ds.length - i/\i<=ds.length/\∃(g:List c6) (c:Ev),c.length=ix.length/\acc.length=g.length∧
   Z6 K (Bh ix.length) (Bc ix B O H0 D (f++acc.zip g)) (Oc ix O) H1 (X8 ix σ++Bn nl none) (c++HU nl)/\H1 D=some (.lst acc)/\((pt&&pe)=true->aH H0 H1)∧
   ZZ ix.length nl gg tb fe (ds.drop i) g c=some (res,l),
  ⟨ds.length,rfl,Dg _,[],bL ix δ1,by simp[bL],rfl,by rw[Nd,Bp];exact y.unkeep.inner u hnd λp t=>y.kep p (Ch _ t),cN,λ_=>cS u,h2⟩,?_⟩
 rintro i m acc H1 ⟨rfl,hi,g,c,P,W,S1,I,de,hc⟩;have w:=wk (Nn (Bc ix B O H0 D (f++acc.zip g)) (Oc ix O)) H1 λp t=>S1.kep p (Ch _ t);by_cases F:i<ds.length
 ·obtain ⟨go,yl⟩ := w.1 i ds[i] (by simp [F])
  rw[Fj F] at hc;simp only[ZZ] at hc;obtain⟨N,g1,hc⟩:=Aa.mp hc;obtain⟨⟨kk,s⟩,g2,hc⟩:=Aa.mp hc;refine .inr ⟨go,λZ H'=>∃(g:List c6) (c:Ev),c.length=ix.length/\Z.length=g.length∧
   Z6 K (Bh ix.length) (Bc ix B O H0 D (f++Z.zip g)) (Oc ix O) H' (X8 ix σ++Bn nl none) (c++HU nl)/\H' D=some (.lst Z)/\((pt&&pe)=true->aH H0 H')∧
   ZZ ix.length nl gg tb fe (ds.drop (i+1)) g c=some (res,l),λZ H' w'=>⟨ds.length - (i+1),by lia,rfl,F,w'⟩,λx H2 hy=>?_⟩
  obtain⟨X,rx⟩:=yl x H2 hy;refine⟨_,_,_,ds[i],N,S1.same X,rx,g1,λσ3 O3 S3 m3=>?_⟩;have E:=AK m3;have r:=KD E m3;refine⟨r,_,_,N,kk,s,S3,g2,λH4 L=>?_⟩;have V:H4 D=some (.lst acc):=L.frm _ _ (X _ _ I) λz=>by
   obtain⟨j,e⟩:=z;have:=(L.sta.old j D e).1
   exact absurd (.inl (.inr rfl)) this
  have ln4:ix.length<=s.length:=by rw[<-L.sta.len];exact E
  cases kk with
  |false=>
   rw[if_neg Dr] at hc;refine HN ⟨g,s.take ix.length,by rw[Cw];lia,W,L.sta.turn (gf _) (VR ix σ) r ln4,V,λz=>?_,hc⟩;exact((de z).trans X).trans (L.pur ((Ah _ _).mp z).1)
  |true=>
   rw[if_pos rfl] at hc;obtain⟨⟨dv,C⟩,g3,hc⟩:=Aa.mp hc;split at hc
   ·rename_i hz
    refine HP ⟨_,_,s,dv,C,L.sta,g3,λv H5 A=>?_⟩;have U:H5 D=some (.lst acc):=A.frm _ _ V λz=>by
     obtain⟨j,e⟩:=z;have:=(A.sta.old j D e).1
     exact absurd (.inl (.inr rfl)) this
    have ln5:ix.length<=C.length:=by rw[<-A.sta.len];exact E
    have S6:=A.sta.turn (nl:=nl) (gf _) (VR ix σ) r ln5;have hv:bB K (Nn (Bc ix B O H0 D (f++acc.zip g)) (Oc ix O)) H5 (Nn (Bc ix B O H0 D (f++acc.zip g)) (Oc ix O)) v dv:=by
     have hN:∀a,Nn (Bc ix B O H0 D (f++acc.zip g)) (Oc ix O) a->av (Bc ix B O H0 D (f++acc.zip g)) O3 true a:=λa h=>by
      rcases h with h|⟨j,h⟩
      ·exact .inl h
      ·refine .inr ⟨j,?_⟩
       have R:j∈Bh ix.length:=A.sta.par.1 j a h;rw[A.sta.par.2 j R];exact h
     exact A.rep.mono hN hN
    have S7:=S6.withKp (kp:=f++(acc++[v]).zip (g++[dv])) λp t=>by
     rw[Ov W,<-Bo] at t;rcases Bz.mp t with z|z
     ·exact S6.kep p z
     ·rw[Az.mp (show p∈[(v,dv)] from z)]
      exact hv
    refine⟨U,by rw[W,Cm];exact hz,g++[dv],C.take ix.length,by rw[Cw];lia,by simp[W],?_,cN,λz=>?_,hc⟩
    ·exact S7.writeZ (.inl (.inr rfl)) U u
    ·intro b o e
     have G:b≠D:=λz=>by rw[z,u] at e;cases e
     rw[cL G];obtain⟨z1,z2⟩:=(Ah _ _).mp z;exact(((de z).trans X).trans ((L.pur z1).trans (A.pur z2))) b o e
   ·cases hc
 ·have e : i = ds.length := by lia
  subst e;rw[Ij] at hc;cases hc;refine .inl ⟨w.2,k D H1 ?_⟩;have fP:Fr (OA (Oc ix O)) H0 H1:=S1.frm;have T:∀a,OA (Oc ix O) a->OA O a:=λa q0=>by
   obtain⟨j,e⟩:=q0;unfold Oc at e;cases hi:ix[j]? with
   |none=>rw[hi] at e;cases e
   |some i=>rw[hi] at e;exact⟨i,e⟩
  have SL:=y.unkeep.laid (o:=.lst acc) u;have fL:Fr (OA (Oc ix O)) (upd H0 D (.lst acc)) H1:=⟨λb o e n=>by
   by_cases G:b=D
   ·subst G
    rw[cN] at e;cases e;exact I
   ·rw[cL G] at e
    exact fP b o e n,λb _ _ _ _ _ _ _ _ e=>by
   by_cases G:b=D
   ·subst G
    rw[cN] at e;cases e
   ·rw[cL G] at e
    exact fP.ft _ _ _ _ _ _ _ _ _ e⟩
  refine⟨SL.call (UM) (λi=>?_) fL T,f0.trans (fP.mono T),λz=>?_,.lst I (UC W λp t=>(S1.kep p (Bu _ t)).mono OU OU),y.unkeep.new u,y.fresh u⟩
  ·by_cases gh:i<δ1.length
   ·rcases UL (ix:=ix) (ss:=l) (δ:=δ1) i gh P.symm with⟨j,x,e1,Y,e3⟩|⟨e1,Y⟩
    ·have e4:(l++HU nl)[j]? =some (.ow x):=by rw[Ai (Ag.mp Y).1];exact Y
     obtain⟨a,e5,_,w⟩:=S1.ow j x e4;refine .inr ⟨a,x,?_,e3,w.mono OU⟩;unfold Oc at e5;rw[e1] at e5;exact e5
    ·refine .inl ⟨Y,λa ea ⟨j,M⟩ => ?_⟩
     obtain⟨x,ex⟩:=S1.dom j a M;unfold Oc at M;cases hi:ix[j]? with
     |none=>rw[hi] at M;cases M
     |some i'=>
      rw[hi] at M;have:i=i':=y.inj i i' a ea M
      subst this;have R:j<l.length:=by rw[P];exact(Ag.mp hi).1
      rw[Ai R] at ex;exact e1 j x hi ex
   ·refine .inl ⟨?_,λa ea => ?_⟩
    ·rw[Ci (by rw[UM];lia),Ci (by lia)]
    ·obtain⟨x,ex⟩:=y.dom i a ea
     exact absurd (Ag.mp ex).1 gh
  ·simp only[Ah] at z
   exact(p0 z.1.1).trans (de (by simp[z.1.2,z.2]))
theorem Zw{Q:Bool->Hp->Prop}(h:TB K ml true WC σ H Q):tYes σ H Q:=by obtain⟨B,O,δ,k,δ',S,q,w⟩:=h;cases q;exact w H (ResB.refl S)
theorem IM{Y:Cx}{t:VB}(h:PT Y c (TB K ml pt t)):PTs Y [c] (TB K ml pt t):=dO h
theorem X5{Y:Cx}:PTs Y [] (TB K ml true WC):=λaa s σ H Q I hw=>jH aa s σ H Q I (Zw hw)
theorem Vp{Q:VK}{o:Bool}(h:TX K ml (if o then xO f else xV f) σ H Q):TN K ml pu f σ H Q:=by
 obtain⟨B,O,δ,s,δ',S,q,k⟩:=h;have e:∃d,f δ=some (d,δ')/\s=if o then .ow d else .va d:=by
  cases o with
  |true=>
   have q:(f δ).map (λp=>(Sl.ow p.1,p.2))=some (s,δ'):=q;cases h1:f δ with
   |none=>rw[h1] at q;cases q
   |some p=>rw[h1] at q;cases q;exact⟨p.1,rfl,rfl⟩
  |false=>
   have q:(f δ).map (λp=>(Sl.va p.1,p.2))=some (s,δ'):=q;cases h1:f δ with
   |none=>rw[h1] at q;cases q
   |some p=>rw[h1] at q;cases q;exact⟨p.1,rfl,rfl⟩
 obtain⟨d,h1,a⟩:=e;refine⟨B,O,δ,d,δ',S,h1,λp H' R=>?_⟩;cases o with
 |true=>
  cases a;have w:=R.own;cases w with
  |lst q1 r=>exact k _ H' _ (R.sta.keepV (VL r)) (.ol q1 r.length R.nz R.h0) R.frm
  |dct q1 r=>exact k _ H' _ (R.sta.keepV (VL r)) (.od q1 (by simpa using r.length) R.nz R.h0) R.frm
  |flt q1 r=>exact k _ H' _ (R.sta.keepV (VL r)) (.of q1 r.length R.nz R.h0) R.frm
 |false=>
  cases a;exact k _ H' _ (R.sta.unadd.keepV (ps:=[(.ref p,d)]) λz hz=>by rw[Az.mp hz];exact(R.own.mono QX).rep R.nz) .va R.frm
theorem Vj{i:Nat}{x:VX}{te:TE}(a:∀σ H Q,TX K ml x σ H Q->te σ H Q)(c:i∉ml){D:CQ}(h:TC K ml (aL i x) D σ H):tAsg te (AW i) D σ H:=by
 obtain⟨B,O,δ,o,S,q,k⟩:=h;unfold aL at q;obtain⟨⟨s,δ1⟩,h1,q⟩:=Aa.mp q;have q:(if i<δ1.length then some (Ou.nx (δ1.set i s)) else none)=some o:=q;split at q
 ·rename_i hl
  cases q;refine a _ _ _ ⟨B,O,δ,s,δ1,S,h1,λv H' B' d h' f=>?_⟩;obtain⟨e,b⟩:=h'.bind d c hl;exact k _ _ _ b
 ·cases q
end
abbrev cB(P:Bb)(w:Rl)(K:Al)(mg:Rg->Option Rc)(base:Rn)(x:Rg)(k:Nat)(ps:List Rg)(mF:List Nat)(F:b8)(f:Rf):Prop:=Def P w K mg base x k ps (spV K mF ps.length F) f
section
variable{X:Cx}{K:Al}{ml:List Nat}{e a b c:Rk}{es:List Rk}{pa ta ia pb tb ib pc tc ic pu bt bi ps bs:Bool}{fa fb fc f:VF}{B B':Bs}{O:Nat->Option Rf}{H H0 H1 H':Hp}{σ:St}{δ δ':Ev}{v:V}{d:c6}{p:Rf}{pos:Pos}
theorem bK{x:Rg}(a:Gl X x)(h:∃u v,X.mg x=some u/\bR v u/\∀N H M,bB K N H M v d)(hd:(x==("__debug__":Rg))=false:=by decide):PE X (.Name x pos) (TV K ml true true true (fC d)):=by obtain⟨u,v,h1,h2,b⟩:=h;exact AA (lW a h1 h2 hd) b
def Sx(K:Al):R2:=λx y H Q=>∃a b xs ys,x=.ref a/\y=.ref b/\UV K H a xs/\UV K H b ys/\xs.length+ys.length<=sizeLine∧
 (xs=[]->Q (.ref b) H)/\(xs≠[]->ys=[]->Q (.ref a) H)/\(xs≠[]->ys≠[]->∀p,H p=none->Q (.ref p) (upd H p (.tup (xs++ys))))
theorem Zd:WB X (Fk .Add) (Sx X.K):=by
 intro aa s σ H x y v u Q I p m h;obtain⟨a,b,xs,ys,rfl,rfl,A,t,hz,q0,q1,q2⟩:=h;cases p;cases m;obtain⟨its,r1,j,_⟩:=I.tuple A;obtain⟨C,r2,p2,_⟩:=I.tuple t;by_cases f:xs=[]
 ·subst f
  have B:its=[]:=r1.nil_iff.mpr rfl;subst B;obtain⟨⟨cls,D,data,l⟩,k,hc,n,hd⟩:=id j;obtain⟨⟨E,i,data2,g⟩,c,e,r,d⟩:=id p2;simp only at hc hd e d;subst hc hd e d;exact Ld ⟨_,k,rfl⟩ ⟨_,c,rfl⟩ Kr Ml Hn He (Gv _ _)
   (tuple_addW0 a b _ C.toArray n r D i l g (by simp)) ⟨k,c,⟨.ref b,H,I,rfl,q0 rfl⟩⟩
 ·refine HT.zGY j p2 (λz => f (r1.nil_iff.mp z)) (λz => ⟨.ref a,H,I,rfl,q1 f (r2.nil_iff.mp z)⟩) (λz => ?_) (by rw [<- r1.length,<- r2.length];exact hz)
  refine⟨.ref s.heap.objs.size,_,I.laid (t':=s.toks) (o:=.tup (xs++ys)) (λb F q=>Ad _ q) (Au _) ?_,rfl,q2 f (λw=>z (r2.nil_iff.mpr w)) _ (I.hok.fresh (Au _))⟩;exact⟨by rw[Ao];exact hz,_,r1.append r2,Jy _ _⟩
def Tu(K:Al):R2:=λx y H Q=>∃l b xs zs,x=.ref l/\y=.ref b/\WT K H l xs/\WT K H b zs/\xs.length+zs.length<=sizeLine/\∀p,H p=none->Q (.ref p) (upd H p (.lst (xs++zs)))
theorem iQ:WB X (Fk .Add) (Tu X.K):=by
 intro aa s σ H x y v u Q I o m h;obtain⟨l,b,xs,zs,rfl,rfl,w,z,hz,q⟩:=h;cases o;cases m;obtain⟨its,r,p,_⟩:=I.list w;obtain⟨g,r2,p2,_⟩:=I.list z;obtain⟨⟨cls,B,data,k⟩,n,j,hc,_,hd⟩:=id p;obtain⟨⟨C,i,data2,e⟩,t,a,d,_,c⟩:=id p2;simp only at hc hd d c;subst hc hd d c;have A:its.toArray++g.toArray=(its++g).toArray:=by simp
 have hl:=r.length;have f:=r2.length;refine Ld ⟨_,j,rfl⟩ ⟨_,a,rfl⟩ noFill_list_add seq_list_add PySem.F.slot_list_add PySem.F.entry_list_add (PySem.F.args_list_add_2 _ _) (list_addW l b its.toArray g.toArray n t B i k e (by rw[An,An,<-hl,<-f];exact hz)) ⟨j,a,?_⟩;rw[A];exact⟨.ref _,_,I.lnew (t':=s.toks) (r.append r2) (by rw[Ao];lia),rfl,q _ I.fresh⟩
def Ud(K:Al):R2:=λx y H Q=>((D3 (λi j=>.int (i+j)) x y H Q∨Sx K x y H Q)∨Tu K x y H Q)∨∃i j,x=.str i/\y=.str j/\i.length+j.length<=sizeLine/\Q (.str (i++j)) H
theorem ZT(h:X.K=K):WB X (Fk .Add) (Ud K):=by subst h;exact((zJU.or Zd).or iQ).or DV
noncomputable def aQ:c6->c6->Option c6
 |.int i,.int j=>some (.int (i+j))
 |.tup ds,.tup es=>if ds.length+es.length<=16777216 then some (.tup (ds++es)) else none
 |.lst ds,.lst es=>if ds.length+es.length<=16777216 then some (.lst (ds++es)) else none
 |.str x,.str y=>if x.length+y.length<=16777216 then some (.str (x++y)) else none
 |_,_=>none
theorem bB.tupE{N M:Rf->Prop}{ds:List c6}(h:bB K N H M v (.tup ds)):∃a xs,v=.ref a/\UV K H a xs/\b6 K N H xs ds:=by
 cases h with
 |tup q r=>exact⟨_,_,rfl,q,r⟩
theorem bB.lstE{N M:Rf->Prop}{ds:List c6}(h:bB K N H M v (.lst ds)):∃a xs,v=.ref a/\WT K H a xs/\b6 K N H xs ds:=by
 cases h with
 |lst q n r=>exact⟨_,_,rfl,WT.of q,r⟩
 |fzm q r=>exact⟨_,_,rfl,q.sq,r⟩
theorem aY:OpC K (Ud K) aQ:=by
 intro H N M M' x y d e c Q l g h k;cases d with
 |int i=>
  cases e with
  |int j=>
   cases h;cases l;cases g;exact .inl (.inl (.inl ⟨_,_,rfl,rfl,k _ _ (aH.refl _) λ_ _=>.int _⟩))
  |_=>cases h
 |str i=>
  cases e with
  |str j=>
   simp only[aQ] at h;split at h
   ·cases h
    cases l;cases g;exact .inr ⟨_,_,rfl,rfl,by rw[Cm];assumption,k _ _ (aH.refl _) λ_ _=>.str _⟩
   ·cases h
  |_=>cases h
 |tup ds=>
  cases e with
  |tup es=>
   simp only[aQ] at h;split at h
   ·rename_i hz
    cases h;obtain⟨a,xs,rfl,q1,r1⟩:=l.tupE;obtain⟨b,ys,rfl,q2,r2⟩:=g.tupE;refine .inl (.inl (.inr ⟨a,b,xs,ys,rfl,rfl,q1,q2,by rw[r1.length,r2.length,Cm];exact hz,λz=>?_,λr n=>?_,λr n p f=>?_⟩))
    ·subst z
     have:ds=[]:=Fv.mp r1.length.symm
     subst this;exact k _ _ (aH.refl _) λM m=>.tup q2 r2
    ·subst n
     have:es=[]:=Fv.mp r2.length.symm
     subst this;rw[Bp] at k;exact k _ _ (aH.refl _) λM m=>.tup q1 r1
    ·exact k _ _ (cS f) λM m=>.tup (UV.of cN) ((r1.append r2).same (cS f))
   ·cases h
  |_=>cases h
 |lst ds=>
  cases e with
  |lst es=>
   simp only[aQ] at h;split at h
   ·rename_i hz
    cases h;obtain⟨a,xs,rfl,q1,r1⟩:=l.lstE;obtain⟨b,ys,rfl,q2,r2⟩:=g.lstE;exact .inl (.inr ⟨a,b,xs,ys,rfl,rfl,q1,q2,by rw[r1.length,r2.length,Cm];exact hz,λp f=>k _ _ (cS f) λM m=>.lst cN (λz=>by obtain⟨o,q⟩:=m _ z;rw[f] at q;cases q) ((r1.append r2).same (cS f))⟩)
   ·cases h
  |_=>cases h
 |_=>cases h
def Ue:Al->R2:=λ_=>rI CMul λi j=>.int (i*j)
theorem LP(h:X.K=K):WB X (Fk .Mult) (Ue K):=kR
noncomputable abbrev OX:=oMul
theorem PP:OpC K (Ue K) OX:=by intro H N M M' x y d e c Q b a h k;exact eS H N N M M' x y d e c Q b a h λv f=>k v H (aH.refl _) λM _=>f _ _ _
noncomputable def UO:c6->Option aG
 |.int i=>some (.inl i)
 |.str x=>some (.inr x)
 |_=>none
theorem bB.key{N M:Rf->Prop}{k:aG}(h:bB K N H M v d)(e:UO d=some k):v=kV k:=by
 cases h<;>first
  |(cases e;rfl)
  |cases e
noncomputable def bN(ks:List aG)(ds:List c6)(k:aG):Option c6:=match ks,ds with
 |k'::ks,d::ds=>if k'=k then some d else bN ks ds k
 |_,_=>none
theorem P2{N:Rf->Prop}{k:aG}:∀{kvs:List (aG×V)} {ds:List c6},b6 K N H (kvs.map Ec) ds->(∃v d,RD kvs k=some v/\bN (kvs.map Db) ds k=some d/\bB K N H N v d)∨(RD kvs k=none/\bN (kvs.map Db) ds k=none)
 |[],_,.nil=>.inr ⟨rfl,rfl⟩
 | (k',v) :: kvs,_,.cons h t => by
  by_cases hk:k'=k
  ·refine .inl ⟨v,_,QC (p:=(k',v)) hk,?_,h⟩
   simp[bN,hk]
  ·rcases P2 (k:=k) t with⟨a,d',h1,h2,b⟩|⟨h1,h2⟩
   ·exact .inl ⟨a,d',(SZ (p:=(k',v)) hk).trans h1,by simpa[bN,hk] using h2,b⟩
   ·exact .inr ⟨(SZ (p:=(k',v)) hk).trans h1,by simpa[bN,hk] using h2⟩
theorem Yy(f:X.A.units+1<cLine):IxR X (λx y H Q=>∃a v,x=.ref a/\NZ H a y (some v)/\Q v H):=by intro value b aa s σ H x y v u Q I e d h i;obtain⟨a,w,rfl,g,q⟩:=h;cases e;exact Qg (FA I g) PySem.F.slot_dict_getitem.lookup (nP f I g d λw' k j c=>⟨w,H,j,c,q⟩) i
def rIxA(K:Al):R2:=λx y H Q=>(rIx K x y H Q∨∃a v,x=.ref a/\NZ H a y (some v)/\Q v H)∨∃a k D v,x=.ref a/\y=.str k/\KTab K a D/\Fi k D=some v/\Q v H
theorem kIxA(h:X.K=K)(a:X.A.units+1<cLine):IxR X (rIxA K):=by subst h;exact(zLM.or (Yy a)).or eF
noncomputable def cH:c6->c6->Option c6
 |.tup ds,.int i=>WJ ds i
 |.lst ds,.int i=>WJ ds i
 |.dct ks ds,e=>(UO e).bind (bN ks ds)
 |.str z,.int i=>if z.length<=16777216 then(WJ z.cps.toList i).map λc=>.str ⟨#[c]⟩ else none
 |_,_=>none
theorem OE{N:Rf->Prop}{k:Rg}:∀{D:List (Rg×V)} {ds:List c6},b6 K N H (D.map Ec) ds->(∃v d,Fi k D=some v/\bN (D.map λp=>.inr p.1) ds (.inr k)=some d/\bB K N H N v d)∨(Fi k D=none/\bN (D.map λp=>.inr p.1) ds (.inr k)=none)
 |[],_,.nil=>.inr ⟨rfl,rfl⟩
 | (k',v) :: D,_,.cons h t => by
  by_cases hk:k'=k
  ·subst hk
   exact .inl ⟨v,_,by simp[Fi],by simp[bN],h⟩
  ·have a : ¬ k = k' := λz => hk z.symm
   rcases OE (k:=k) t with⟨b,d',h1,h2,c⟩|⟨h1,h2⟩
   ·exact .inl ⟨b,d',by simpa[Fi,hk,a] using h1,by simpa[bN,hk] using h2,c⟩
   ·exact .inr ⟨by simpa[Fi,hk,a] using h1,by simpa[bN,hk] using h2⟩
theorem FP{i:Int}:∀{D:List (Rg×V)} {ds:List c6},bN (D.map λp=>.inr p.1) ds (.inl i)=none
 |[],_=>by simp[bN]
 |_::_,[]=>by simp[bN]
 |p::D,d::ds=>by simpa[bN] using FP (D:=D) (ds:=ds)
theorem Zl:OpI K (rIxA K) cH:=by
 intro H N N' M M' x y d e c Q g f h k;have seq:∀ds i,WR d=some ds->e=.int i->WJ ds i=some c->rIxA K x y H Q:=λds i h1 h2 b=>by
  subst h2;cases f;obtain⟨a,xs,rfl,sq,r⟩:=g.seq h1;obtain⟨v,l,j⟩:=fZ r b;rcases sq with sq|sq
  ·exact .inl (.inl (.inl ⟨a,xs,i,v,rfl,rfl,sq,l,k v j⟩))
  ·exact .inl (.inl (.inr (.inl ⟨a,xs,i,v,rfl,rfl,sq,l,k v j⟩)))
 cases d with
 |tup ds=>
  cases e with
  |int i=>exact seq ds i rfl rfl h
  |_=>cases h
 |lst ds=>
  cases e with
  |int i=>exact seq ds i rfl rfl h
  |_=>cases h
 |str z=>
  cases e with
  |int i=>
   simp only[cH] at h;split at h
   ·obtain⟨ch,hc,h⟩:=At.mp h
    cases h;cases g;cases f;exact .inl (.inl (.inr (.inr ⟨z,i,ch,rfl,rfl,by rw[Cm];assumption,hc,k _ (.str _)⟩)))
   ·cases h
  |_=>cases h
 |dct ks ds=>
  simp only[cH] at h;obtain⟨kk,hk,h⟩:=Aa.mp h;have h:bN ks ds kk=some c:=h;have m:=f.key hk;subst m;cases g with
  |dct q n r=>
   rcases P2 (k:=kk) r with⟨v,d',h1,h2,b⟩|⟨h1,h2⟩
   ·rw[h] at h2
    cases h2;exact .inl (.inr ⟨_,v,rfl,h1▸NZ.k q,k v b⟩)
   ·rw[h] at h2;cases h2
  |ktb T r=>
   cases kk with
   |inl i=>rw[FP] at h;cases h
   |inr x=>
    rcases OE (k:=x) r with⟨v,d',h1,h2,b⟩|⟨h1,h2⟩
    ·rw[h] at h2
     cases h2;exact .inr ⟨_,x,_,v,rfl,rfl,T,h1,k v b⟩
    ·rw[h] at h2;cases h2
 |_=>cases h
noncomputable def WP(δ:Ev)(i:Nat):Option (List aG×List c6):=match δ[i]? with
 |some (.ow (.dct ks ds))=>some (ks,ds)
 |_=>none
theorem RY{i:Nat}{ks:List aG}{ds:List c6}(h:WP δ i=some (ks,ds)):δ[i]?=some (.ow (.dct ks ds)):=by
 unfold WP at h;split at h
 ·cases h;assumption
 ·cases h
noncomputable def HF(i:Nat)(fk a:VF):VF:=λδ=>(WP δ i).bind λ_=>(fk δ).bind λp=>(a p.2).bind λq=>(UO p.1).bind λk=>(WP q.2 i).map λz=>((bN z.1 z.2 k).getD q.1,q.2)
theorem qN{i:Nat}{fk u:VF}{ag af:Pos}(N:X.A.units+1<cLine)(h:PE X a (XT i))(hk:PE X b (TV K ml pa ta ia fk))(M:PE X c (TV K ml pb true true u))(m:M2 X a "get" ag b c af):
  PE X (.Call (.Attribute a "get" ag) [b,c] [] af) (TV K ml (pa&&pb) true true (HF i fk u)):=(fF N h hk M m).imp λσ H Q g=>by
 obtain⟨B,O,δ,d,E,S,q,k⟩:=g;unfold HF at q;cases p:WP δ i with
 |none=>rw[p] at q;cases q
 |some J=>
  obtain⟨f,x⟩:=J;rw[p] at q;cases h1:fk δ with
  |none=>simp[h1] at q
  |some L=>
   obtain⟨y,δ1⟩:=L;simp only[Ak,h1] at q;cases h2:u δ1 with
   |none=>simp[h2] at q
   |some p2=>
    obtain⟨z,δ2⟩:=p2;simp only[Ak,h2] at q;cases n:UO y with
    |none=>simp[n] at q
    |some kk=>
     simp only[Ak,n] at q;cases j:WP δ2 i with
     |none=>simp[j] at q
     |some F=>
      obtain⟨ks,ds⟩:=F;simp only[j] at q;cases q;obtain⟨l,U,T,w⟩:=S.ow i _ (RY p);refine⟨.ref l,T,l,rfl,?_,B,O,δ,y,δ1,S,h1,λZ H1 e=>⟨B,O,δ1,z,_,e.sta,h2,λY H2 R2=>?_⟩⟩
      ·generalize hw:c6.dct f x=W at w
       cases w with
       |lst _ _=>cases hw
       |dct q _=>exact .inl ⟨_,.inl (.inl q)⟩
       |flt _ _=>cases hw
      ·have R:=e.rep.key n
       subst R;obtain⟨l',D,_,C⟩:=R2.sta.ow i _ (RY j);rw[U] at D;cases D;have fin:∀o,bB K (Nn B O) H2 (Nn B O) (o:V) ((bN ks ds kk).getD z)->Q o H2:=λo h=>k o H2 ⟨R2.sta,e.frm.trans R2.frm,λz=>by obtain⟨I,G⟩:=(Ah _ _).mp z;exact(e.pur I).trans (R2.pur G),h⟩
       generalize hw:c6.dct ks ds=W at C;cases C with
       |lst _ _=>cases hw
       |flt _ _=>cases hw
       |dct q r=>
        cases hw;refine⟨_,NZ.k q,fin _ ?_⟩;rcases P2 (k:=kk) r with⟨v,d',t,s,P⟩|⟨t,s⟩
        ·rw[t,s];exact P
        ·rw[t,s];exact R2.rep
noncomputable def XQ:List aG->List c6->aG->c6->List aG×List c6
 |k'::ks,d::ds,k,v=>if k'=k then(k'::ks,v::ds) else let r:=XQ ks ds k v;(k'::r.1,d::r.2)
 |_,_,k,v=>([k],[v])
noncomputable def GG(i:Nat)(fk a:VF):VS:=λδ=>(a δ).bind λp=>(WP p.2 i).bind λ_=>(fk p.2).bind λq=>(UO q.1).bind λk=>(WP q.2 i).bind λz=>if z.1.length<16777216/\z.1.Nodup then some (.nx (q.2.set i (.ow (let r:=XQ z.1 z.2 k p.1;.dct r.1 r.2)))) else none
theorem J2{N:Rf->Prop}{k:aG}{v:V}(h:bB K N H N v d):∀{kvs:List (aG×V)} {ds:List c6},(kvs.map Db).Nodup->b6 K N H (kvs.map Ec) ds->(WQ kvs k v).map Db=(XQ (kvs.map Db) ds k d).1/\b6 K N H ((WQ kvs k v).map Ec) (XQ (kvs.map Db) ds k d).2
 |[],_,_,.nil=>⟨rfl,.cons h .nil⟩
 | (k',u) :: kvs,_,a,.cons f t => by
  obtain⟨c,b⟩:=Cv.mp a;by_cases hk:k'=k
  ·subst hk
   have e:WQ ((k',u)::kvs) k' v=(k',v)::kvs:=by
    unfold WQ;rw[if_pos (by simp)];simp only[As,if_true];congr 1;refine(Fw λp g=>?_).trans (List.map_id _);have:p.1≠k':=λz=>c (Cc.mpr ⟨p,g,z⟩)
    simp[this]
   rw[e];exact⟨by simp[XQ],by simpa[XQ] using b6.cons h t⟩
  ·obtain⟨h1,h2⟩:=J2 (k:=k) h b t
   have e:WQ ((k',u)::kvs) k v=(k',u)::WQ kvs k v:=by
    unfold WQ;simp only[Gk,hk,decide_false,Qh];split
    ·simp[hk]
    ·rfl
   rw[e];exact⟨by simpa[XQ,hk] using h1,by simpa[XQ,hk] using b6.cons f h2⟩
theorem IB{N:Rf->Prop}{l:Rf}{o:HO}{xs:List V}{ds:List c6}{kvs:List (aG×V)}(c:H l=some (.dK kvs))(e:N l)(h:b6 K N H xs ds):b6 K N (upd H l o) xs ds:=
 h.fr (P:=λb=>b=l) ⟨λb u q n=>by
  by_cases d:b=l
  ·subst d
   rw[c] at q;cases q;exact absurd (n rfl) λz=>z
  ·rw[cL d]
   exact q,(KN.of c).upd⟩ λa z=>z▸e
theorem CM{i:Nat}{fk t:VF}{ay:Pos}(G:X.A.units+1<cLine)(J:PE X a (XT i))(hk:PE X b (TV K ml pa ta ia fk))(F:PE X c (TV K ml pb true true t))(I:Er c (some (.Subscript a b ay)) pos.line X.env=pure false):
  PS X (.Assign [.Subscript a b ay] c pos) (TC K ml (GG i fk t)):=(Zk G J hk F I).imp λD σ H f=>by
 obtain⟨B,O,δ,o,S,q,k⟩:=f;unfold GG at q;obtain⟨⟨z,δ1⟩,h1,q⟩:=Aa.mp q;have q:((WP δ1 i).bind λ_=>(fk δ1).bind λq=>(UO q.1).bind λk=>(WP q.2 i).bind λd=>if d.1.length<16777216/\d.1.Nodup then some (Ou.nx (q.2.set i (.ow (let r:=XQ d.1 d.2 k z;.dct r.1 r.2)))) else none)=some o:=q;cases j:WP δ1 i with
 |none=>rw[j] at q;cases q
 |some x=>
 obtain⟨E,Q⟩:=x;rw[j] at q;cases h2:fk δ1 with
 |none=>simp[h2] at q
 |some p2=>
  obtain⟨y,δ2⟩:=p2;simp only[Ak,h2] at q;cases h:UO y with
  |none=>simp[h] at q
  |some kk=>
   simp only[Ak,h] at q;cases g:WP δ2 i with
   |none=>simp[g] at q
   |some v=>
    obtain⟨ks,ds⟩:=v;simp only[g,Ak] at q;split at q
    ·rename_i hz
     cases q;refine⟨B,O,δ,z,δ1,S,h1,λs H1 n=>?_⟩;obtain⟨l,m,P,_⟩:=n.sta.ow i _ (RY j);refine⟨.ref l,P,B,O,δ1,y,δ2,n.sta,h2,λR H2 R2=>?_⟩;have N:=R2.rep.key h;subst N;obtain⟨T,u,_,p⟩:=R2.sta.ow i _ (RY g);rw[m] at u;cases u;generalize hw:c6.dct ks ds=U at p;cases p with
     |lst _ _=>cases hw
     |flt _ _=>cases hw
     |dct e r=>
      cases hw;have C:=n.rep.fr R2.frm (λa z=>.inr z) λa z=>.inr z;obtain⟨M,L⟩:=J2 (k:=kk) C hz.2 r;refine⟨l,_,rfl,DPut.k e (by rw[Cm];simpa using hz.1),k σ _ O (R2.sta.wrote m (λz=>z) (.of e) ?_)⟩;have w:NL K (Nn B O) (upd H2 l (.dK (WQ _ kk s))) l (.dct ((WQ _ kk s).map Db) _):=.dct cN (IB e (.inr ⟨i,m⟩) L);rw[M] at w;exact w
    ·cases q
end
section
variable{X:Cx}{K:Al}{ml:List Nat}{e a b c:Rk}{es:List Rk}{pa ta ia pb tb ib pc tc ic pu bt bi ps bs:Bool}{fa fb fc f:VF}{B B':Bs}{O:Nat->Option Rf}{H H0 H1 H':Hp}{σ:St}{δ δ':Ev}{v:V}{d:c6}{p:Rf}{pos:Pos}
def Zz(i j k:Nat)(ta:TA):TS:=λD σ H=>ta σ H λvs H1=>∃v w u,vs=[v,w,u]/\D.nx (((σ.set i (some v)).set j (some w)).set k (some u)) H1
theorem pS{i j k:Nat}{x y z:Rg}{a b c:Rk}{ta:TA}{t r n pt:Pos}{kt k2 pt2}(hc:X.calm=true)(J:X.N.Nodup)(hi:X.N[i]?=some x)(S:X.N[j]?=some y)(hk:X.N[k]?=some z)(G:i≠j)(F:i≠k)(E:j≠k)(L:X.env.scope.names.lookup x=some .local)(K:X.env.scope.names.lookup y=some .local)(hz:X.env.scope.names.lookup z=some .local)(T:PA X [a,b,c] ta)(hw:Fc [.Tuple [.Name x t,.Name y r,.Name z n] kt pt] (.Tuple [a,b,c] k2 pt2) X.env=pure (some [x,y,z]))(R:Fb [.Tuple [.Name x t,.Name y r,.Name z n] kt pt] (.Tuple [a,b,c] k2 pt2) pos.line X.env=pure false:=by rfl):PS X (.Assign [.Tuple [.Name x t,.Name y r,.Name z n] kt pt] (.Tuple [a,b,c] k2 pt2) pos) (Zz i j k ta):=by
 intro aa s σ H D I h;rw[exec_Assign_arm];refine Ac (Gj ?_);rw[R];refine Ac (Am ?_);rw[if_neg (by decide)];refine Ac (Tuple_ (ZB (T _ aa s σ H _ I h) λus s1 ⟨vs,H1,I1,r1,q1⟩=>?_));obtain⟨v,w,u,U,q1⟩:=q1;subst U;obtain⟨g,f,d,rfl,O,l,P⟩:∃g f d,us=[g,f,d]/\bR v g/\bR w f/\bR u d:=by
  cases r1 with
  |cons p q=>
   cases q with
   |cons p' Q=>
    cases Q with
    |cons B m=>
     cases m;exact⟨_,_,_,rfl,p,p',B⟩
 refine Dm ?_ (by show 3<=sizeLine;decide);have Z:cA X aa σ H1 {s1 with heap:=s1.heap.push {cls:=.type "tuple",data:=.seq [g,f,d].toArray}}:=I1.kept (t':=s1.toks) λb o e=>Ad _ e;rw[hw];refine Ac (Am ?_);show Rh (Rj X.prog X.w) X.A (do rule "assign.swapped-stores";let items<-Jb (.ref s1.heap.objs.size) 3 none;Ru [λv=>Ip X.env z v,λv=>Ip X.env y v,λv=>Ip X.env x v] items.reverse;pure Flow.next) _ _ _;refine Ac (Ht (Ac (Mw (items:= #[g,f,d]) (I.ok.hd hc) (Jy s1.heap _) λh' C=>?_)));have Y:=Z.kept (h':=h') (t':=s1.toks) λb o e=>C b o (Bg (Ap e)) e;show Rh _ _ (Ru [λv=>Ip X.env z v,λv=>Ip X.env y v,λv=>Ip X.env x v] [d,f,g]>>=λ_=>pure Flow.next) _ _ _;refine Ac (Dy (Ib (XS Y J hk (.inl hz) P (λs2 W=>?_) (.inr hz))));refine Dy (Ib (XS W J S (.inl K) l (λs3 V=>?_) (.inr K)));refine Dy (Ib (XS V J hi (.inl L) O (λs4 M=>Hs (Am ?_)) (.inr L)));rw[Eg _ _ (Cq G),Eg _ _ (Cq F),Eg _ _ (Cq E)] at M;exact⟨_,H1,M,q1⟩
noncomputable def MC(i j k:Nat)(x y z:VX):VS:=λδ=>(x δ).bind λp=>(y p.2).bind λq=>(z q.2).bind λr=>if i<r.2.length/\j<r.2.length/\k<r.2.length then some (.nx (((r.2.set k r.1).set j q.1).set i p.1)) else none
theorem J5{i j k:Nat}{x y z:VX}{o:Ou}(h:MC i j k x y z δ=some o):∃s1 δ1 s2 δ2 c a,x δ=some (s1,δ1)/\y δ1=some (s2,δ2)/\z δ2=some (c,a)/\(i<a.length/\j<a.length/\k<a.length)/\o=.nx (((a.set k c).set j s2).set i s1):=by
 unfold MC at h;cases h1:x δ with
 |none=>rw[h1] at h;cases h
 |some p=>
  rw[h1] at h;cases h2:y p.2 with
  |none=>simp[h2] at h
  |some q=>
   simp only[Ak,h2] at h;cases b:z q.2 with
   |none=>simp[b] at h
   |some r=>
    simp only[Ak,b] at h;split at h
    ·cases h
     exact⟨p.1,p.2,q.1,q.2,r.1,r.2,rfl,h2,b,by assumption,rfl⟩
    ·cases h
theorem fE{i j k:Nat}{x y z:Rg}{E C A:VX}{m l h pt:Pos}{kt k2 pt2}(hc:X.calm=true)(Z:X.N.Nodup)(hi:X.N[i]?=some x)(U:X.N[j]?=some y)(hk:X.N[k]?=some z)(f:i≠j)(e:i≠k)(d:j≠k)(R:X.env.scope.names.lookup x=some .local)(Q:X.env.scope.names.lookup y=some .local)(hz:X.env.scope.names.lookup z=some .local)(Y:PE X a (TX K ml E))(W:PE X b (TX K ml C))(w:PE X c (TX K ml A))(hw:Fc [.Tuple [.Name x m,.Name y l,.Name z h] kt pt] (.Tuple [a,b,c] k2 pt2) X.env=pure (some [x,y,z]))(s:i∉ml:=by decide)(r:j∉ml:=by decide)(p:k∉ml:=by decide)(T:Fb [.Tuple [.Name x m,.Name y l,.Name z h] kt pt] (.Tuple [a,b,c] k2 pt2) pos.line X.env=pure false:=by rfl)(V:Ae (a::[b,c]) X.env=(false,eval a X.env)::Ae [b,c] X.env:=by rfl)(u:Ae (b::[c]) X.env=(false,eval b X.env)::Ae [c] X.env:=by rfl)(t:Ae (c::[]) X.env=(false,eval c X.env)::Ae [] X.env:=by rfl):
  PS X (.Assign [.Tuple [.Name x m,.Name y l,.Name z h] kt pt] (.Tuple [a,b,c] k2 pt2) pos) (TC K ml (MC i j k E C A)):=(pS hc Z hi U hk f e d R Q hz (bC Y (bC W (bC w ZE t) u) V) hw T).imp λD σ H n=>by
 obtain⟨B,O,δ,o,S,q,k⟩:=n;obtain⟨s1,δ1,s2,δ2,P,g,h1,h2,h3,hl,rfl⟩:=J5 q;refine⟨B,O,δ,s1,δ1,S,h1,λv H1 B1 S1 J f1=>⟨B1,O,δ1,s2,δ2,S1,h2,λM H2 B2 S2 I f2=>⟨B2,O,δ2,P,g,S2,h3,λL H3 B3 S3 G f3=>⟨v,M,L,rfl,?_⟩⟩⟩⟩;obtain⟨O4,S4⟩:=G.bind S3 p hl.2.2;obtain⟨O5,S5⟩:=(I.fr f3).bind S4 r (by rw[Ca];exact hl.2.1);obtain⟨O6,F⟩:=((J.fr f2).fr f3).bind S5 s (by rw[Ca,Ca];exact hl.1);rw[Eg _ _ (Cq f),Eg _ _ (Cq e),Eg _ _ (Cq d)] at F;exact k _ _ _ F
theorem nX{i j k:Nat}{x y z:Rg}{T R Q:VX}{f e d pt:Pos}{kt k2 pt2}(hK:X.K=K)(hc:X.calm=true)(E:X.N.Nodup)(hi:X.N[i]?=some x)(hj:X.N[j]?=some y)(hk:X.N[k]?=some z)(u:i≠j)(t:i≠k)(s:j≠k)(hx:Loc X.env.scope x)(hy:Loc X.env.scope y)(hz:Loc X.env.scope z)(ha:PE X a (TX K ml T))(hb:PE X b (TX K ml R))(C:PE X c (TX K ml Q))(r:i∉ml:=by decide)(n:j∉ml:=by decide)(m:k∉ml:=by decide)(hs:Fb [.Tuple [.Name x f,.Name y e,.Name z d] kt pt] (.Tuple [a,b,c] k2 pt2) pos.line X.env=pure false:=by rfl)(hw:Fc [.Tuple [.Name x f,.Name y e,.Name z d] kt pt] (.Tuple [a,b,c] k2 pt2) X.env=pure none:=by rfl)(hn:(Rm [.Name x f,.Name y e,.Name z d] X.env).length=3:=by rfl)(h:(Rm [.Name x f,.Name y e,.Name z d] X.env).findIdx? (·.1)=none:=by rfl)(g1:(Rm [.Name x f,.Name y e,.Name z d] X.env).map (·.2)=assign (.Name x f) X.env::(Rm [.Name y e,.Name z d] X.env).map (·.2):=by rfl)(g2:(Rm [.Name y e,.Name z d] X.env).map (·.2)=assign (.Name y e) X.env::(Rm [.Name z d] X.env).map (·.2):=by rfl)(g3:(Rm [.Name z d] X.env).map (·.2)=assign (.Name z d) X.env::(Rm [] X.env).map (·.2):=by rfl)(I:X.fn x=true∨X.env.scope.names.lookup x=some .local:=by first|exact .inl rfl|exact .inr rfl|assumption)(G:X.fn y=true∨X.env.scope.names.lookup y=some .local:=by first|exact .inl rfl|exact .inr rfl|assumption)(F:X.fn z=true∨X.env.scope.names.lookup z=some .local:=by first|exact .inl rfl|exact .inr rfl|assumption)(h1:(Rm [.Tuple [.Name x f,.Name y e,.Name z d] kt pt] X.env).map (·.2)=[assign (.Tuple [.Name x f,.Name y e,.Name z d] kt pt) X.env]:=by rfl)(he:Ae (a::[b,c]) X.env=(false,eval a X.env)::Ae [b,c] X.env:=by rfl)(A:Ae (b::[c]) X.env=(false,eval b X.env)::Ae [c] X.env:=by rfl)(w:Ae (c::[]) X.env=(false,eval c X.env)::Ae [] X.env:=by rfl):PS X (.Assign [.Tuple [.Name x f,.Name y e,.Name z d] kt pt] (.Tuple [a,b,c] k2 pt2) pos) (TC K ml (MC i j k T R Q)):=
 (HZ (Sz (bC ha (bC hb (bC C ZE w) A) he)) (Ub (K:=K) hK hc (P5 (M6 E hi hx I) (P5 (M6 E hj hy G) (P5 (M6 E hk hz F) BO g3) g2) g1) hn h) hs hw h1).imp λD σ H l=>by obtain⟨B,O,δ,o,S,q,k⟩:=l;obtain⟨s1,δ1,s2,δ2,s3,g,h1,h2,h3,hl,rfl⟩:=J5 q;refine⟨B,O,δ,s1,δ1,S,h1,λv H1 B1 S1 Z f1=>⟨B1,O,δ1,s2,δ2,S1,h2,λM H2 B2 S2 Y f2=>⟨B2,O,δ2,s3,g,S2,h3,λL V B3 S3 W f3=>⟨(by show 3<=sizeLine;decide),λp P=>⟨p,_,rfl,UV.of cN,rfl,v,_,rfl,M,_,rfl,L,_,rfl,rfl,?_⟩⟩⟩⟩⟩;have J:Fr (OA O) V (upd V p (.tup [v,M,L])):=(cS P).fr;obtain⟨O4,S4⟩:=(W.fr J).bind (S3.same (cS P)) m hl.2.2;obtain⟨O5,S5⟩:=((Y.fr f3).fr J).bind S4 n (by rw[Ca];exact hl.2.1);obtain⟨O6,U⟩:=(((Z.fr f2).fr f3).fr J).bind S5 r (by rw[Ca,Ca];exact hl.1);rw[Eg _ _ (Cq u),Eg _ _ (Cq t),Eg _ _ (Cq s)] at U;exact k _ _ _ U
noncomputable def CB(i:Nat)(b a:VF):VS:=λδ=>(a δ).bind λp=>(VM p.2 i).bind λ_=>(b p.2).bind λq=>(VM q.2 i).bind λds=>match q.1 with
 |.int k=>(JQ ds.length k).map λj=>.nx (q.2.set i (.ow (.lst (ds.set j p.1))))
 |_=>none
theorem gQ{i:Nat}{m s:VF}{ay:Pos}(P:X.K=K)(E:PE X a (XT i))(hi:PE X b (TV K ml pa ta ia m))(A:PE X c (TV K ml pb true true s))(F:∀v,assign (.Subscript a b ay) X.env v=(do
   let d<-Jw [v] (eval a X.env)
   let e<-Jw [v,d] (eval b X.env)
   Mv ay
   Jw [v,d,e] (setItem d e v)
   release [v,d,e] []):=by intro _;rfl)
  (C:Fb [.Subscript a b ay] c pos.line X.env=pure false:=by rfl) (hw:Fc [.Subscript a b ay] c X.env=pure none:=by rfl)
  (h1:(Rm [.Subscript a b ay] X.env).map (·.2)=[assign (.Subscript a b ay) X.env]:=by rfl):PS X (.Assign [.Subscript a b ay] c pos) (TC K ml (CB i m s)):=
 (HZ A (pG E hi rC F) C hw h1).imp λD σ H f => by
  obtain⟨B,O,δ,o,S,q,k⟩:=f;unfold CB at q;obtain⟨⟨z,δ1⟩,h1,q⟩:=Aa.mp q;cases h:VM δ1 i with
  |none=>simp[h] at q
  |some L=>
   simp only[Ak,h] at q;cases h2:m δ1 with
   |none=>simp[h2] at q
   |some p2=>
    obtain⟨y,δ2⟩:=p2;simp only[Ak,h2] at q;cases g:VM δ2 i with
    |none=>simp[g] at q
    |some ds=>
     simp only[g,Ak] at q;cases y with
     |int kk=>
      have q:((JQ ds.length kk).map λj=>Ou.nx (δ2.set i (.ow (.lst (ds.set j z)))))=some o:=q;obtain⟨j,G,q⟩:=At.mp q;cases q;refine⟨B,O,δ,z,δ1,S,h1,λM H1 p=>?_⟩;obtain⟨l,n,J,_⟩:=p.sta.ow i _ (RZ h);refine⟨.ref l,J,B,O,δ1,_,δ2,p.sta,h2,λw H2 R2=>?_⟩;have I:w=.int kk:=by have r:=R2.rep;cases r;rfl
      subst I;obtain⟨N,t,_,u⟩:=R2.sta.ow i _ (RZ g);rw[n] at t;cases t;cases u with
      |lst hl r=>
       have x:=p.rep.fr R2.frm (λa z=>.inr z) λa z=>.inr z;refine⟨l,_,kk,j,rfl,rfl,hl,by rw[r.length];exact G,k σ _ O (R2.sta.wrote n (λz=>z) (.of hl) (.lst cN (NW (ys:=[]) hl (.inr ⟨i,n⟩) (r.set x j))))⟩
     |_=>cases q
def rIsB(neg:Bool):R2:=λx y H Q=>∃k,y=.bl k/\Q (.bl (if neg then !decide (x=.bl k) else decide (x=.bl k))) H
theorem pP:WB X (Cu .IsNot) (rIsB true):=by
 intro aa s σ H x y v u Q I a b h;obtain⟨k,rfl,q⟩:=h;cases b;have e:(v==Lk k)=decide (x=V.bl k):=by
  cases x<;>first
   |(cases a;first|rfl|(rename_i z;cases z<;>cases k<;>rfl))
   |(obtain⟨t,rfl⟩:=a;rfl)
 exact wpAny_isNot_plain (by cases x<;>first|(cases a;cases k<;>rfl)|(obtain⟨t,rfl⟩:=a;cases k<;>rfl)) (by rw[e];exact⟨.bl _,H,I,rfl,q⟩)
noncomputable def isBl(k:Bool):c6->Bool
 |.bl x=>x==k
 |_=>false
noncomputable def BI:c6->c6->Option c6
 |d,.bl k=>some (.bl (!isBl k d))
 |_,_=>none
theorem Vw{N M:Rf->Prop}{k:Bool}(h:bB K N H M v d):decide (v=V.bl k)=isBl k d:=by
 cases h<;>simp[isBl];rename_i b;cases b<;>cases k<;>rfl
theorem eD:N8 K (rIsB true) BI:=by
  intro H N N' M M' x y d e c Q b a h k;cases a<;>first
    | (cases h
       refine⟨_,rfl,?_⟩;simp only[if_true];rw[Vw b];exact k _ λ_ _ _=>.bl _)
    |(simp[BI] at h)
end
section
variable{prog:Bb}{w:Rl}{A:Cn}{E:Rc->Af->Prop}{s:Af}
theorem Q4{it t:Rf}{i:Nat}{items:Array Rc}{x:Rc}{Q:Rc->Af->Prop}(a:s.heap.IsTupleIter it t i)(e:s.heap.IsTuple t items)(d:items[i]?=some x)(f:∀h',h'.IsTupleIter it t (i+1)->Fa it s.heap h'->Q x {s with heap:=h'}):Rh (Rj prog w) A (By (.ref it)) Q E s:=by obtain⟨l,c,j,b⟩:=id a;obtain⟨k,g,_,m,h⟩:=e;unfold By;refine Ac (Dn (name:=Bj "__next__") a.typeIs Ex (Ed Ex a.typeIs Jh ?_ (Ir _)));show Rh _ _ (field (Bi it) 0>>=_) _ _ s;refine Ac (Eb c b (x:=.ref t) rfl ?_);show Rh _ _ (if(Bi t== .none)=true then _ else _) _ _ s;rw[if_neg (show¬(Bi t==Value.none)=true from Dr)];show Rh _ _ (field (Bi it) 1>>=_) _ _ s;refine Ac (Eb c b (x:=.int i 0) rfl ?_);show Rh _ _ (seqItems? (Bi t)>>=_) _ _ s;refine Ac (Eo g h ?_);simp only[d,Hv];refine Ac (wpAny_setField c b (by simp) (Am ⟨x,rfl,Am (f _ ⟨_,Le _ c (Obj.isFreed_of_fields (Mn b _)),(Obj.cls_mapFields ..).trans j,?_⟩ (Lx ..))⟩));rw[Mn b];simp[rawInt]
theorem P4{it t:Rf}{i:Nat}{items:Array Rc}{Q:Rc->Af->Prop}(f:A.handled=none)(b:s.heap.IsTupleIter it t i)(h:s.heap.IsTuple t items)(g:items[i]?=none)(j:∀h' e,Jg it s.heap h'->(∃o,h'.get? e=some o/\o.cls=.type "StopIteration")->E (.ref e) {s with heap:=h'}):Rh (Rj prog w) A (By (.ref it)) Q E s:=by
 obtain⟨p,c,r,d⟩:=id b;obtain⟨n,k,_,q,l⟩:=h;unfold By;refine Ac (Dn (name:=Bj "__next__") b.typeIs Ex (Ed Ex b.typeIs Jh ?_ (Ir _)));show Rh _ _ (field (Bi it) 0>>=_) _ _ s;refine Ac (Eb c d (x:=.ref t) rfl ?_);show Rh _ _ (if(Bi t== .none)=true then _ else _) _ _ s;rw[if_neg (show¬(Bi t==Value.none)=true from Dr)];show Rh _ _ (field (Bi it) 1>>=_) _ _ s;refine Ac (Eb c d (x:=.int i 0) rfl ?_);show Rh _ _ (seqItems? (Bi t)>>=_) _ _ s;refine Ac (Eo k l ?_);simp only[g,Hv];refine Ac (Ht (Ac (wpAny_setField c d (by simp) ?_)));show Rh _ _ (newExc (Iv "StopIteration") []>>=_) _ _ _;refine Ac ?_;unfold newExc newTuple;refine Ac (Dm ?_ (by size_fits));refine Ac (m:=firstArgMember _ _) (wpAny_of_eq (a:=Value.none) (by first|rfl|(unfold firstArgMember;rfl)) (Dm ?_ (by size_fits)));unfold raiseNew;refine Ac (wpAny_handled ?_);first|rw[f]|rw[show A.in1.handled=none from f]
 refine Ac (Am (wpAny_throw (j _ _ (((Lx ..).extBut.push _).push _) ⟨_,Av _ rfl,rfl⟩)))
end
theorem qZ{prog:Bb}{w:Rl}{A:Cn}(f:A.handled=none)(it t:Rf)(d:t≠it)(items:Array Rc):
  Draws prog w A it [it,t] items.size (λi v=>items[i]?=some v) (λi h=>h.IsTupleIter it t i/\h.IsTuple t items) where
 live:=λ_ _ st=>let ⟨o,c,_⟩:=st.1;⟨o,c⟩
 frame:=λ_ _ _ st hk=>⟨st.1.at λo e=>hk it (by simp) o e,by obtain⟨o,c,r⟩:=st.2;exact⟨o,hk t (by simp) o c,r⟩⟩
 item:=λi s Q E hi st g=>Q4 st.1 st.2 (x:=items[i]) (by simp[hi]) λh' a b=>g _ h' s.toks (by simp[hi]) ⟨a,st.2.extBut b.extBut d⟩ b
 done:=λs Q E st j=>P4 f st.1 st.2 (by simp) j
section
variable{X:Cx}{aa:List (Rf×Ro)}{σ:St}{H:Hp}{s:Af}{h':Rn}
theorem cA.turnedL{t':Nat}{fp:List Rf}(I:cA X aa σ H s)(k:∀b o,b∉fp->s.heap.get? b=some o->h'.get? b=some o)(there:∀b∈fp,∃o,h'.get? b=some o)(d:∀b∈fp,KM X aa H b):cA X aa σ H {s with heap:=h',toks:=t'}:=by
 have a:∀b u,H b=some u->b∉fp:=λb u e z=>by rw[(d b z).1] at e;cases e
 have i:X.env.locals∉fp:=λz=>(d _ z).2.1 rfl;refine I.step (g':=s.gens) (d':=s.drawn) (ch:=fp) (λb h=>?_) (λb o _ _ hc e _=>k b o hc e) (λb o _ _ hc e _=>⟨o.slots,k b o hc e⟩) (λ_ _ _ _ n=>n)
  (λb o hc e=>⟨o,k b o hc e⟩) (λ_ _ e=>e) (λ_ _ _ e=>e) (λb ps e=>⟨#[],by rw[e];simp⟩) (λm g=>?_) (λb u e=>?_) I.bare
 ·obtain⟨_,f1,f2,f3,l,j⟩:=d b h
  exact⟨f3,f1,l,j⟩
 ·obtain⟨o,es,p,f,r⟩:=g
  exact⟨o,es,p,k _ o i f,r⟩
 ·refine (I.hok b u e).stay (λc v hc q => k c v ?_ q) (λ_ q => q) λ_ _ q => q
  rcases hc with z|z
  ·rw[z];exact a b u e
  ·exact a c _ z
end
section
variable{X:Cx}{aa:List (Rf×Ro)}{σ:St}{H:Hp}{s:Af}{h':Rn}
theorem cA.turnedL'{t':Nat}{fp:List Rf}(I:cA X aa σ H s)(k:∀b o,b∉fp->s.heap.get? b=some o->h'.get? b=some o)(d:∀b∈fp,KM X aa H b):cA X aa σ H {s with heap:=h',toks:=t'}:=by
 have a:∀b u,H b=some u->b∉fp:=λb u e z=>by rw[(d b z).1] at e;cases e
 have i:X.env.locals∉fp:=λz=>(d _ z).2.1 rfl;refine I.step (g':=s.gens) (d':=s.drawn) (ch:=fp) (λb h=>?_) (λb o _ _ hc e _=>k b o hc e) (λb o _ _ hc e _=>⟨o.slots,k b o hc e⟩) (λ_ _ _ _ n=>n)
  (λb o hc e=>⟨o,k b o hc e⟩) (λ_ _ e=>e) (λ_ _ _ e=>e) (λb ps e=>⟨#[],by rw[e];simp⟩) (λm g=>?_) (λb u e=>?_) I.bare
 ·obtain⟨_,f1,f2,f3,l,j⟩:=d b h
  exact⟨f3,f1,l,j⟩
 ·obtain⟨o,es,p,f,r⟩:=g
  exact⟨o,es,p,k _ o i f,r⟩
 ·refine (I.hok b u e).stay (λc v hc q => k c v ?_ q) (λ_ q => q) λ_ _ q => q
  rcases hc with z|z
  ·rw[z];exact a b u e
  ·exact a c _ z
end
def IT(K:Al)(tup:Bool)(H:Hp)(a:Rf)(xs:List V):Prop:=if tup=true then UV K H a xs else WT K H a xs
def PH(tup:Bool)(h:Rn)(a:Rf)(items:Array Rc):Prop:=if tup=true then h.IsTuple a items else h.IsList a items
def TF(tup:Bool)(h:Rn)(it a:Rf)(i:Nat):Prop:=if tup=true then h.IsTupleIter it a i else h.IsListIter it a i
theorem Sr{prog:Bb}{w:Rl}{A:Cn}(b:A.handled=none)(tup:Bool)(it t:Rf)(a:t≠it)(items:Array Rc):Draws prog w A it [it,t] items.size (λi v=>items[i]?=some v) (λi h=>TF tup h it t i/\PH tup h t items):=by
 cases tup with
 |true=>exact qZ b it t a items
 |false=>exact Draws.list b it t a items
theorem PH.lt{tup:Bool}{h:Rn}{a:Rf}{items:Array Rc}(s:PH tup h a items):a<h.objs.size:=by
 cases tup with
 |true=>obtain⟨o,e,_⟩:=s;exact Ap e
 |false=>obtain⟨o,e,_⟩:=s;exact Ap e
theorem cA.srcA{X:Cx}{aa:List (Rf×Ro)}{σ:St}{H:Hp}{s:Af}{a:Rf}{xs:List V}{tup:Bool}(I:cA X aa σ H s)(h:IT X.K tup H a xs):∃its:List Rc,bS xs its/\PH tup s.heap a its.toArray/\xs.length<=sizeLine:=by
 cases tup with
 |true=>
  obtain⟨its,r,p,z⟩:=I.tuple h;exact⟨its,r,p,z⟩
 |false=>
  obtain⟨its,r,p,z⟩:=I.list h;exact⟨its,r,p.isList,z⟩
theorem cA.sq_inj{X:Cx}{aa:List (Rf×Ro)}{σ:St}{H:Hp}{s:Af}{a:Rf}{xs ys:List V}{tup:Bool}(I:cA X aa σ H s)(h:IT X.K tup H a xs)(h':IT X.K tup H a ys):xs=ys:=by
 cases tup with
 |true=>exact I.tuple_inj h h'
 |false=>exact I.list_inj h h'
theorem TF.at{tup:Bool}{h h':Rn}{it a:Rf}{i:Nat}(st:TF tup h it a i)(k:∀o,h.get? it=some o->h'.get? it=some o):TF tup h' it a i:=by
 cases tup with
 |true=>exact Heap.IsTupleIter.at st k
 |false=>exact Heap.IsListIter.at st k
theorem TF.obj{tup:Bool}{h:Rn}{it a:Rf}{i:Nat}(st:TF tup h it a i):∃o,h.get? it=some o/\∀v,o.data≠ .cell v:=by
 cases tup with
 |true=>
  obtain⟨o,e,c,d⟩:=st;exact⟨o,e,λv z=>by rw[d] at z;cases z⟩
 |false=>
  obtain⟨o,e,c,d⟩:=st;exact⟨o,e,λv z=>by rw[d] at z;cases z⟩
def Ite(K:Al)(tup:Bool)(a:Rf):It:=
 ⟨λi H=>∃xs x,IT K tup H a xs/\xs[i]?=some x,λi H v H'=>∃p x,(∀xs,IT K tup H a xs->xs[i]?=some x)/\H p=none/\H'=upd H p (.tup [.int i,x])/\v=.ref p,λi H=>∃xs,IT K tup H a xs/\xs.length=i⟩
theorem Zh{P:Bb}{w:Rl}{K:Al}{es:List Rk}{k:Nat}{pos:Pos}(tup:Bool)(a e it:Rf)(g:e≠it)(O:a≠e)(C:a≠it):
  CY P w K (.Tuple es k pos) (Ite K tup a) [e,it] e (λi h=>(∃f,IsEnum h e it i f)/\TF tup h it a i) where
 mem:=by simp
 obj:=λi h st b c=>by
  obtain⟨⟨f,j⟩,hi⟩:=st;rcases Aj.mp c with z|z
  ·subst z
   exact⟨_,j,λv z=>by cases z⟩
  ·have:=Az.mp z
   subst this;exact hi.obj
 keep:=λi h h' st kk=>by obtain⟨⟨f,j⟩,hi⟩:=st;exact⟨⟨f,kk e (by simp) _ j⟩,hi.at λo q=>kk it (by simp) o q⟩
 item:=by
  intro X Q hw R hc i aa s σ H E I t st N;subst Q hw R;obtain⟨⟨f,j⟩,hi⟩:=st;obtain⟨xs,x,G,r⟩:=N;obtain⟨its,F,l,hz⟩:=I.srcA G;have L:i<its.toArray.size:=by
   have:=(Ag.mp r).1
   have:=F.length
   simp only[An];lia
  have M:X.A.in1.handled=none:=I.ok.hd hc;refine wpAny_pyNext_enum_itemD (Sr M tup it a C its.toArray) j ⟨hi,l⟩ L g (by simp[g,Cq O]) λu h1 tk m Z p Y hsz hk=>⟨_,rfl,?_⟩;refine wpAny_letOwnedTupleGo_enum (s:={s with heap:=h1,toks:=tk+1}) Z λh2 y d=>?_;have d:Fa e h1 h2:=d;obtain⟨n,J,V⟩:=F.get r;have m:its.toArray[i]?=some u:=m;rw[List.getElem?_toArray,J] at m;have m:=Bv m;subst m;have kk:∀b o,b∉[e,it]->s.heap.get? b=some o->h2.get? b=some o:=λb o c q=>by have D:b≠e:=λz=>c (by simp[z]);have S:b≠it:=λz=>c (by simp[z]);exact(d.2 b D).trans (hk b o D S q)
  have eg:h2.get? s.heap.objs.size=some {cls:=.type "tuple",data:=.seq #[.int i tk,n]}:=(d.2 _ (Gu (Ap j))).trans Y;have c8:H s.heap.objs.size=none:=I.hok.fresh (Au _);have T:∀b∈[e,it],b<s.heap.objs.size:=λb c=>by
   rcases Aj.mp c with z|z
   ·rw[z];exact Ap j
   ·rw[Az.mp z]
    obtain⟨o,q,_⟩:=hi.obj;exact Ap q
  have I0:cA X aa σ (upd H s.heap.objs.size (.tup [.int i,x])) {s with heap:=s.heap.push {cls:=.type "tuple",data:=.seq #[.int i tk,n]},toks:=tk}:=
   I.laid (λb o q=>Ad _ q) (Au _) ⟨by show 2<=sizeLine;decide,[.int i tk,n],.cons ⟨tk,rfl⟩ (.cons V .nil),Jy _ _⟩
  have I1:cA X aa σ (upd H s.heap.objs.size (.tup [.int i,x])) {s with heap:=h2,toks:=tk+1}:=by
   refine cA.turnedL (s:={s with heap:=s.heap.push {cls:=.type "tuple",data:=.seq #[.int i tk,n]},toks:=tk}) (h':=h2) (t':=tk+1) (fp:=[e,it]) I0 (λb o c q=>?_) (λb c=>?_) λb c=>⟨by rw[cL (Bg (T b c))];exact(t b c).1,(t b c).2⟩
   ·by_cases B:b=s.heap.objs.size
    ·subst B
     have q:(s.heap.push {cls:=.type "tuple",data:=.seq #[.int i tk,n]}).get? s.heap.objs.size=some o:=q;rw[Av _ rfl] at q;cases q;exact eg
    ·exact kk b o c ((Hy _ _ _ B).symm.trans q)
   ·rcases Aj.mp c with z|z
    ·rw[z];exact⟨_,y⟩
    ·rw[Az.mp z]
     obtain⟨o,q,_⟩:=p.1.obj;exact⟨o,(d.2 it (Cq g)).trans q⟩
  refine⟨.ref s.heap.objs.size,upd H s.heap.objs.size (.tup [.int i,x]),?_,rfl,⟨_,x,λys W=>by rw[I.sq_inj W G];exact r,c8,rfl,rfl⟩,⟨⟨_,by simpa using y⟩,p.1.at λo q=>(d.2 it (Cq g)).trans q⟩,λb c=>?_⟩
  ·exact I1
  ·rw[cL (Bg (T b c))]
   exact(t b c).1
 done:=by
  intro X Q hw R hc i aa s σ H E I t st N;subst Q hw R;obtain⟨⟨f,j⟩,hi⟩:=st;obtain⟨xs,G,r⟩:=N;obtain⟨its,F,l,hz⟩:=I.srcA G;have M:X.A.in1.handled=none:=I.ok.hd hc;have hn:its.toArray.size=i:=by rw[An,<-F.length];exact r
  refine wpAny_pyNext_enum_endD (Sr M tup it a C its.toArray) j ⟨by rw[hn];exact hi,l⟩ λh1 U=>⟨rfl,?_⟩;obtain⟨f0,f1,f2,f3,f4,f5⟩:=t it (by simp);exact I.turned (t':=s.toks) (λb o c q=>U b o c q) f0 f1 f3 f4 f5
 self:=λ_ i _ _ _ st h=>Nf st.1.choose_spec h
theorem Yg(a:Rf)(items:Array Rc)(n:Nat)(j:Option Rf)(f:Array (Option Rc)):Meets (Gb.«enumerate.__new__» ⟨[.type "enumerate",.ref a],[]⟩) (λ_ R s=>s.heap.get? a=some {cls:=.type "tuple",dict:=j,data:=.seq items n,slots:=f}∧R (.ok (.ret (.ref (s.heap.push {cls:=.type "tuple_iterator",data:=.fields #[.ref a,.int 0 0]}).objs.size))) {s with heap:=(s.heap.push {cls:=.type "tuple_iterator",data:=.fields #[.ref a,.int 0 0]}).push {cls:=.type "enumerate",data:=.fields #[.none,.bool false,.ref s.heap.objs.size,rawInt 0,.none,.none]}}):=by
 refine .of_wp λprog w A R s h=>?_;obtain⟨i,g,d,tk,os⟩:=s;obtain⟨b,h⟩:=h;have k:=sub_enumerate;have e:Heap.IsTuple (Ow ⟨i,g,d,tk,os⟩) a items:=⟨_,b,rfl,n,rfl⟩;wp_walk using Ek b
 refine wpAny_stack_any λst=>Am ?_;split
 ·rename_i c _ _ _ _ _
  cases (c==Iv "enumerate")<;>(wp_walk using Ek b,Hb e;exact⟨_,rfl,h⟩)
 ·wp_walk using Ek b,Hb e
  exact⟨_,rfl,h⟩
theorem C5{prog:Bb}{w:Rl}{A:Cn}{E:Rc->Af->Prop}{s:Af}{a:Rf}{items:Array Rc}{tup:Bool}{Q:Rc->Af->Prop}(d:PH tup s.heap a items)(h:∀h',IsEnum h' (s.heap.objs.size+1) s.heap.objs.size 0 .none->TF tup h' s.heap.objs.size a 0->(∀b o,s.heap.get? b=some o->h'.get? b=some o)->Q (.ref (s.heap.objs.size+1)) {s with heap:=h'}):Rh (Rj prog w) A (call (.type "enumerate") [.ref a]) Q E s:=by
 cases tup with
 |false=>exact call_enumerate_list d λh' k a2 _ a4=>h h' k a2 a4
 |true=>
  obtain⟨⟨j,i,g,e⟩,f,hc,n,hd⟩:=d;replace hc:j=.type "tuple":=hc
  replace hd:g=.seq items n:=hd
  subst hc hd;have hz:(s.heap.push {cls:=.type "tuple_iterator",data:=.fields #[.ref a,.int 0 0]}).objs.size=s.heap.objs.size+1:=Dk ..;refine callType_new F.called_enumerate (by decide) (F.typeCall_enumerate_1 _) (F.newCall_enumerate_1 _) (λobj=>F.args_object_init_2 obj _) F.entry_enumerate_new (Yg a items n i e) ⟨f,?_⟩;show _/\_;rw[hz];have c:=Av (s.heap.push {cls:=.type "tuple_iterator",data:=.fields #[.ref a,.int 0 0]}) (o:={cls:=.type "enumerate",data:=.fields #[.none,.bool false,.ref s.heap.objs.size,rawInt 0,.none,.none]}) rfl;rw[hz] at c;exact⟨⟨_,c,rfl⟩,h _ c ⟨_,Ad _ (Av _ rfl),rfl,rfl⟩ λb o x=>Ad _ (Ad _ x)⟩
theorem G7:Bm "enumerate"=some (.type "enumerate"):=by decide+kernel
theorem mL:Bm "zip"=some (.type "zip"):=by decide+kernel
section
variable{X:Cx}{K:Al}{ml:List Nat}{l:Rk}{pu:Bool}{f:VF}{p pos db:Pos}{es:List Rk}{tk:Nat}{δ:Ev}
def iEnu(K:Al)(tl:TE):TI:=λσ H R=>tl σ H λx H1=>∃a tup,x=.ref a/\(∃xs,IT K tup H1 a xs)/\R (Ite K tup a) H1
theorem nL{tl:TE}(q:Gl X "enumerate")(o:X.mg "enumerate"=none)(hl:PE X l tl)(j:Ae (l::[]) X.env=(false,eval l X.env)::Ae [] X.env:=by rfl):PI X (.Tuple es tk db) (.Call (.Name "enumerate" p) [l] [] pos) (iEnu X.K tl):=by
 intro aa s σ H R I h;refine Ej (QV I q o G7 ?_ (by decide) (by decide));refine Dz (ZB (bC hl ZE j pos aa s σ H (λvs H1=>match vs with
  |[x]=>∃a tup,x=.ref a/\(∃xs,IT X.K tup H1 a xs)/\R (Ite X.K tup a) H1
  |_=>False) I h) λus s1 ⟨vs,H1,f,r1,q1⟩=>?_) j (by rfl)
 match vs,r1,q1 with
 |[x],r1,q1=>
  obtain⟨a,tup,rfl,⟨xs,m⟩,r⟩:=q1;obtain⟨u,rfl,k⟩:=S8 r1;cases k;obtain⟨its,v,c,_⟩:=f.srcA m;refine C5 c λh' d g kp=>?_;have t:cA X aa σ H1 {s1 with heap:=h'}:=f.kept (t':=s1.toks) kp;have n:∀b,s1.heap.objs.size<=b->H1 b=none:=λb i=>f.hok.fresh i;refine Nf d ⟨s1.heap.objs.size+1,[s1.heap.objs.size+1,s1.heap.objs.size],_,Ite X.K tup a,H1,rfl,t,Zh tup a (s1.heap.objs.size+1) s1.heap.objs.size (Nat.succ_ne_self _) (λz=>?_) (λz=>?_),⟨⟨_,d⟩,g⟩,λb i=>?_,r⟩
  ·have:=c.lt
   rw[z] at this;exact absurd this (Nat.not_lt_of_le (Gs _))
  ·have:=c.lt
   rw[z] at this;exact absurd this (Co _)
  ·have e:s1.heap.objs.size<=b:=by
    rcases Aj.mp i with z|z
    ·rw[z];exact Gs _
    ·rw[Az.mp z];exact Au _
   exact f.fpOk e (n b e)
theorem mK(h:X.K=K){tl:TE}(b:Gl X "enumerate")(a:X.mg "enumerate"=none)(hl:PE X l tl)(c:Ae (l::[]) X.env=(false,eval l X.env)::Ae [] X.env:=by rfl):PI X (.Tuple es tk db) (.Call (.Name "enumerate" p) [l] [] pos) (iEnu K tl):=by subst h;exact nL b a hl c
noncomputable def Y6:Nat->List c6->List c6
 |_,[]=>[]
 |i,d::ds=>.tup [.int i,d]::Y6 (i+1) ds
noncomputable def P1(f:VF):VI:=λδ=>(f δ).bind λp=>(WR p.1).map λds=>(Y6 0 ds,p.2)
theorem LB:∀{ds:List c6} {n i:Nat} {d:c6},(Y6 n ds)[i]?=some d->∃x,ds[i]?=some x/\d=.tup [.int (n+i:Nat),x]
 |[],_,_,_,h=>by simp[Y6] at h
 |x::ds,n,0,d,h=>by simp[Y6] at h;exact⟨x,rfl,h.symm⟩
 |x::ds,n,i+1,d,h=>by
  have h:(Y6 (n+1) ds)[i]?=some d:=by simpa[Y6] using h
  obtain⟨y,h1,h2⟩:=LB h;exact⟨y,by simpa using h1,by rw[h2,show n+1+i=n+(i+1) by lia]⟩
theorem LC:∀(ds:List c6) (n:Nat),(Y6 n ds).length=ds.length
 |[],_=>rfl
 |_::ds,n=>congrArg (· +1) (LC ds (n+1))
theorem KL{a:Rf}{tup:Bool}{ds:List c6}:Walk K (Ite K tup a) [(.ref a,if tup=true then .tup ds else .lst ds)] (Y6 0 ds):=by
 intro N H h;have r:=h _ (Az.mpr rfl);have fin:∀xs,IT K tup H a xs->b6 K N H xs ds->(∀(i:Nat) (d:c6),(Y6 0 ds)[i]?=some d->(Ite K tup a).go i H/\∀x H',(Ite K tup a).yld i H x H'->aH H H'/\bB K N H' N x d)/\(Ite K tup a).stop (Y6 0 ds).length H:=λxs sq r=>by
  refine⟨λi d e=>?_,xs,sq,by rw[r.length,LC]⟩;obtain⟨z,j,rfl⟩:=LB e;obtain⟨x,c,r1⟩:=r.get j;refine⟨⟨xs,x,sq,c⟩,λy H' f=>?_⟩;obtain⟨p,k,g,b,rfl,rfl⟩:=f;have:=g xs sq
  rw[c] at this;cases this;refine⟨cS b,.tup (UV.of cN) (.cons ?_ (.cons (r1.same (cS b)) .nil))⟩;rw[Ig];exact .int _
 cases tup with
 |true=>
  have r:bB K N H N (.ref a) (.tup ds):=r;cases r with
  |tup sq r=>exact fin _ sq r
 |false=>
  have r:bB K N H N (.ref a) (.lst ds):=r;cases r with
  |lst q n r=>exact fin _ (WT.of q) r
  |fzm q r=>exact fin _ q.sq r
theorem QD(m:X.K=K)(i:Gl X "enumerate")(g:X.mg "enumerate"=none)(h:PE X l (TV K ml pu true true f))(j:Ae (l::[]) X.env=(false,eval l X.env)::Ae [] X.env:=by rfl):
  PI X (.Tuple es tk db) (.Call (.Name "enumerate" p) [l] [] pos) (TIV K ml pu (P1 f)):=(mK (K:=K) m i g h j).imp λσ H R d=>by
 obtain⟨B,O,δ,ds,δ',S,q,k⟩:=d;unfold P1 at q;obtain⟨⟨x,δ1⟩,h1,q⟩:=Aa.mp q;refine⟨B,O,δ,x,δ1,S,h1,λv H1 b=>?_⟩;cases x with
 |lst c=>
  cases q;obtain⟨a,xs,rfl,sq,r⟩:=b.rep.lstE;exact⟨a,false,rfl,⟨xs,sq⟩,k _ [(.ref a,.lst c)] H1 (b.sta.keepV λp e=>by rw[Az.mp e];exact b.rep) b.frm b.pur (KL (tup:=false))⟩
 |tup c=>
  cases q;obtain⟨a,xs,rfl,sq,r⟩:=b.rep.tupE;exact⟨a,true,rfl,⟨xs,sq⟩,k _ [(.ref a,.tup c)] H1 (b.sta.keepV λp e=>by rw[Az.mp e];exact b.rep) b.frm b.pur (KL (tup:=true))⟩
 |_=>cases q
end
section
variable{prog:Bb}{w:Rl}{A:Cn}{E:Rc->Af->Prop}{s:Af}
theorem TF.ext{tup:Bool}{h h':Rn}{it a b:Rf}{i:Nat}(x:TF tup h it a i)(d:Jg b h h')(c:it≠b):TF tup h' it a i:=x.at λo e=>d _ _ c e
theorem PH.ext{tup:Bool}{h h':Rn}{a b:Rf}{xs:Array Rc}(x:PH tup h a xs)(d:Jg b h h')(c:a≠b):PH tup h' a xs:=by
 cases tup with
 |true=>obtain⟨o,e,r⟩:=x;exact⟨o,d _ _ c e,r⟩
 |false=>obtain⟨o,e,r⟩:=x;exact⟨o,d _ _ c e,r⟩
theorem QW{tup:Bool}{it a:Rf}{i:Nat}{xs:Array Rc}{x:Rc}{Q:Rc->Af->Prop}(hi:TF tup s.heap it a i)(c:PH tup s.heap a xs)(b:xs[i]?=some x)(d:∀h',TF tup h' it a (i+1)->Fa it s.heap h'->Q x {s with heap:=h'}):Rh (Rj prog w) A (By (.ref it)) Q E s:=by
 cases tup with
 |true=>exact Q4 hi c b d
 |false=>exact wpAny_nextOf_list_item hi c b d
theorem JY{tup:Bool}{it a:Rf}{i:Nat}{xs:Array Rc}{Q:Rc->Af->Prop}(d:A.handled=none)(hi:TF tup s.heap it a i)(c:PH tup s.heap a xs)(b:xs[i]?=none)(f:∀h' e,Jg it s.heap h'->(∃o,h'.get? e=some o/\o.cls=.type "StopIteration")->E (.ref e) {s with heap:=h'}):Rh (Rj prog w) A (By (.ref it)) Q E s:=by
 cases tup with
 |true=>exact P4 d hi c b f
 |false=>exact wpAny_nextOf_list_end d hi c b f
structure ZSt(t1 t2:Bool)(h:Rn)(z p q i1 i2 a b:Rf)(k:Nat)(f0:Rc):Prop where
 zip:IsZip h z p q f0
 its:IsPair h p (.ref i1) (.ref i2)
 res:∃u v,IsPair h q u v
 one:TF t1 h i1 a k
 two:TF t2 h i2 b k
theorem AE{t1 G:Bool}{z p q h f a b:Rf}{k:Nat}{xs ys:Array Rc}{x y:Rc}{Q:Rc->Af->Prop}(D:Ll z p q h f a b)(S:ZSt t1 G s.heap z p q h f a b k .none)(s1:PH t1 s.heap a xs)(s2:PH G s.heap b ys)(hx:xs[k]?=some x)(Z:ys[k]?=some y)(hQ:∀h',ZSt t1 G h' z p q h f a b (k+1) (rawInt s.heap.objs.size)->IsPair h' s.heap.objs.size x y->h'.objs.size=s.heap.objs.size+1->(∀c o,c≠z->c≠q->c≠h->c≠f->s.heap.get? c=some o->h'.get? c=some o)->Q (.ref s.heap.objs.size) {s with heap:=h'}):Rh (Rj prog w) A (Gb.«zip.__next__» ⟨[.ref z],[]⟩) (λfin s'=>∃v,fin=.done (.ret v)/\Q v s') E s:=by
 obtain⟨B,U,⟨u,v,gr⟩,g1,g2⟩:=S;show Rh _ _ (field (Bi z) 2>>=_) _ _ _;refine Ac (Eb B rfl (x:=.bool false) rfl ?_);show Rh _ _ (field (Bi z) 3>>=_) _ _ _;refine Ac (Eb B rfl (x:=.ref p) rfl (Ac (Eo U rfl ?_)));show Rh _ _ (Dt (Bi z)>>=_) _ _ _;refine Ac ?_
 (unfold Dt)
 refine Ac (Eb B rfl (x:=.none) rfl (Am ?_));simp only[if_true];refine Ac (Ht (Ac (Eb B rfl (x:=.ref q) rfl (Ac (Fe B (by simp) λha J j=>Ac ?_)))));have J:IsZip ha z p q .ellipsis:=J;simp only[Ox,Oa,Lq,Jf];refine Ac (Ac (Kl ?_));show Rh _ _ (By (Bi h)>>=_) _ _ _;refine Ac (QW (g1.ext j.extBut D.i1z) (s1.ext j.extBut D.l1z) hx λhb X m=>Am ?_);have R:IsPair hb q u v:=m.extBut _ _ D.TOi1 (j.extBut _ _ D.TOz gr);refine Ac (Eo R rfl (Ac (Im R λhc K l=>Ac (Oy (Am ?_)))));have K:IsPair hc q x v:=K;refine Ac (Ac (Kl ?_));show Rh _ _ (By (Bi f)>>=_) _ _ _;refine Ac (QW (((g2.ext j.extBut D.i2z).ext m.extBut D.i12.symm).ext l.extBut D.TOi2.symm) (((s2.ext j.extBut D.l2z).ext m.extBut D.l2i1).ext l.extBut D.l2TO) Z λhd W bd=>Am ?_);have P:IsPair hd q x v:=bd.extBut _ _ D.TOi2 K;refine Ac (Eo P rfl (Ac (Im P λd H C=>Ac (Oy (Am (Am ?_))))));have H:IsPair d q x y:=H;refine Ac (Eo H rfl (Ac (wpAny_newTuple ?_)));have e:d.objs.size=s.heap.objs.size:=by rw[C.1,bd.1,l.1,m.1,j.1]
 have O:IsZip d z p q .ellipsis:=C.extBut _ _ D.TOz.symm (bd.extBut _ _ D.i2z.symm (l.extBut _ _ D.TOz.symm (m.extBut _ _ D.i1z.symm J)));have T:∀c o,c≠z->c≠q->c≠h->c≠f->s.heap.get? c=some o->d.get? c=some o:=λc o i c2 M L g=>C.extBut _ _ c2 (bd.extBut _ _ L (l.extBut _ _ c2 (m.extBut _ _ M (j.extBut _ _ i g))));have e1:TF t1 d h a (k+1):=((X.ext l.extBut D.TOi1.symm).ext bd.extBut D.i12).ext C.extBut D.TOi1.symm;have e2:TF G d f b (k+1):=W.ext C.extBut D.TOi2.symm;have Y:IsPair d p (.ref h) (.ref f):=T _ _ D.TIz D.TITO D.TIi1 D.TIi2 U;have n:z<d.objs.size:=Ap O;show Rh _ _ (Gq (Bi z) (.ref d.objs.size)>>=_) _ _ _;refine Ac ?_
 (unfold Gq)
 have V:IsZip (d.push {cls:=.type "tuple",data:=.seq #[x,y]}) z p q .ellipsis:=Ad _ O;refine Ac (Fe V (by simp) λhg I N=>?_);have I:IsZip hg z p q (rawInt d.objs.size):=I;refine Fe I (by simp) λhk F bk=>?_;have F:IsZip hk z p q (rawInt d.objs.size):=F;have r:∀c o,c≠z->d.get? c=some o->hk.get? c=some o:=λc o i g=>bk.extBut _ _ i (N.extBut _ _ i (Ad _ g));have tk:IsPair hk d.objs.size x y:=bk.extBut _ _ (Gu n) (N.extBut _ _ (Gu n) (Av _ rfl));have t:hk.objs.size=d.objs.size+1:=by rw[bk.1,N.1,Dk]
 rw[e] at F tk t;refine Am ⟨_,rfl,?_⟩;show Q (.ref d.objs.size) _;rw[e];exact hQ hk ⟨F,r _ _ D.TIz Y,⟨x,y,r _ _ D.TOz H⟩,e1.at λo g=>r _ o D.i1z g,e2.at λo g=>r _ o D.i2z g⟩ tk t λc o i c2 M L g=>r c o i (T c o i c2 M L g)
theorem qQ{t1 J:Bool}{z p q t r a b:Rf}{k:Nat}{xs ys:Array Rc}{Q:Fin->Af->Prop}(L:A.handled=none)(D:Ll z p q t r a b)(S:ZSt t1 J s.heap z p q t r a b k .none)(s1:PH t1 s.heap a xs)(s2:PH J s.heap b ys)(V:xs[k]?=none∨ys[k]?=none)(M:∀h' e,(∀c o,c≠z->c≠q->c≠t->c≠r->s.heap.get? c=some o->h'.get? c=some o)->(∃o,h'.get? e=some o/\o.cls=.type "StopIteration")->E (.ref e) {s with heap:=h'}):Rh (Rj prog w) A (Gb.«zip.__next__» ⟨[.ref z],[]⟩) Q E s:=by
 obtain⟨j,W,⟨u,v,U⟩,N,X⟩:=S;show Rh _ _ (field (Bi z) 2>>=_) _ _ _;refine Ac (Eb j rfl (x:=.bool false) rfl ?_);show Rh _ _ (field (Bi z) 3>>=_) _ _ _;refine Ac (Eb j rfl (x:=.ref p) rfl (Ac (Eo W rfl ?_)));show Rh _ _ (Dt (Bi z)>>=_) _ _ _;refine Ac ?_
 (unfold Dt)
 refine Ac (Eb j rfl (x:=.none) rfl (Am ?_));simp only[if_true];refine Ac (Ht (Ac (Eb j rfl (x:=.ref q) rfl (Ac (Fe j (by simp) λT n d=>Ac ?_)))));have n:IsZip T z p q .ellipsis:=n;simp only[Ox,Oa,Lq,Jf];refine Ac (Ac (Kl ?_));show Rh _ _ (By (Bi t)>>=_) _ _ _;cases C:xs[k]? with
 |none=>
  refine Ac (JY L (N.ext d.extBut D.i1z) (s1.ext d.extBut D.l1z) C λF e f ⟨y,h,l⟩=>?_);have I:IsZip F z p q .ellipsis:=f _ _ D.i1z.symm n;have B:e≠z:=λw=>by subst w;rw[I] at h;cases h;simp at l
  exact Fe I (by simp) λhc _ i=>M hc e (λc o m _ G _ g=>i.extBut _ _ m (f _ _ G (d.extBut _ _ m g))) ⟨y,i.extBut _ _ B h,l⟩
 |some x=>
  have P:ys[k]?=none:=V.resolve_left λw=>by rw[C] at w;cases w
  refine Ac (QW (N.ext d.extBut D.i1z) (s1.ext d.extBut D.l1z) C λF n1 f=>Am ?_);have K:IsPair F q u v:=f.extBut _ _ D.TOi1 (d.extBut _ _ D.TOz U);refine Ac (Eo K rfl (Ac (Im K λhc Z i=>Ac (Oy (Am (Ac (Ac (Kl ?_))))))));show Rh _ _ (By (Bi r)>>=_) _ _ _;refine Ac (JY L (((X.ext d.extBut D.i2z).ext f.extBut D.i12.symm).ext i.extBut D.TOi2.symm) (((s2.ext d.extBut D.l2z).ext f.extBut D.l2i1).ext i.extBut D.l2TO) P λhd e bd ⟨y,h,l⟩=>?_);have H:IsZip hd z p q .ellipsis:=bd _ _ D.i2z.symm (i.extBut _ _ D.TOz.symm (f.extBut _ _ D.i1z.symm n));have B:e≠z:=λw=>by subst w;rw[H] at h;cases h;simp at l
  exact Fe H (by simp) λR _ O=>M R e (λc o m c2 G Y g=>O.extBut _ _ m (bd _ _ Y (i.extBut _ _ c2 (f.extBut _ _ G (d.extBut _ _ m g))))) ⟨y,O.extBut _ _ B h,l⟩
theorem DR{t1 f:Bool}{z p q e d a b:Rf}{k:Nat}{xs ys:Array Rc}{x y:Rc}{Q:Option Rc->Af->Prop}(D:Ll z p q e d a b)(S:ZSt t1 f s.heap z p q e d a b k .none)(s1:PH t1 s.heap a xs)(s2:PH f s.heap b ys)(h:xs[k]?=some x)(g:ys[k]?=some y)(i:∀h',ZSt t1 f h' z p q e d a b (k+1) (rawInt s.heap.objs.size)->IsPair h' s.heap.objs.size x y->h'.objs.size=s.heap.objs.size+1->(∀c o,c≠z->c≠q->c≠e->c≠d->s.heap.get? c=some o->h'.get? c=some o)->Q (some (.ref s.heap.objs.size)) {s with heap:=h'}):Rh (Rj prog w) A (pyNext (.ref z)) Q E s:=by
 have ty:s.TypeIs (.ref z) "zip":=⟨_,S.zip,rfl⟩
 (unfold pyNext)
 exact Ac (Mo (Dn (name:=Bj "__next__") ty Ji (Ed Ji ty Ob (AE D S s1 s2 h g λh' l a2 j a4=>Am (i h' l a2 j a4)) (Ng _))))
theorem gI{t1 g:Bool}{z p q f d a b:Rf}{k:Nat}{xs ys:Array Rc}{Q:Option Rc->Af->Prop}(h:A.handled=none)(D:Ll z p q f d a b)(S:ZSt t1 g s.heap z p q f d a b k .none)(s1:PH t1 s.heap a xs)(s2:PH g s.heap b ys)(j:xs[k]?=none∨ys[k]?=none)(i:∀h',(∀c o,c≠z->c≠q->c≠f->c≠d->s.heap.get? c=some o->h'.get? c=some o)->Q none {s with heap:=h'}):Rh (Rj prog w) A (pyNext (.ref z)) Q E s:=by
 have ty:s.TypeIs (.ref z) "zip":=⟨_,S.zip,rfl⟩
 (unfold pyNext)
 refine Ac (Mo (Dn (name:=Bj "__next__") ty Ji (Ed Ji ty Ob (qQ h D S s1 s2 j λh' e kk ⟨o,l,m⟩=>?_) (Ng _))));exact Ac (wpAny_isInstance (T:= "StopIteration") (b:=true) ⟨o,l,m⟩ isSubtype_stop (Am (i _ kk)))
end
noncomputable def kD(tup:Bool):String:=if tup=true then "tuple_iterator" else "list_iterator"
noncomputable abbrev zO(tup:Bool)(a:Rf):Ro:={cls:=.type (kD tup),data:=.fields #[.ref a,.int 0 0]}
theorem Ti{prog:Bb}{w:Rl}{A:Cn}{E:Rc->Af->Prop}{s:Af}{tup:Bool}{a:Rf}{xs:Array Rc}{Q:Rc->Af->Prop}(h:PH tup s.heap a xs)(b:Q (.ref s.heap.objs.size) {s with heap:=s.heap.push (zO tup a)}):Rh (Rj prog w) A (pyIter (.ref a)) Q E s:=by
 cases tup with
 |true=>exact Hb h b
 |false=>exact Fo h b
theorem PH.push{tup:Bool}{h:Rn}{a:Rf}{xs:Array Rc}(x:PH tup h a xs)(o:Ro):PH tup (h.push o) a xs:=by
 cases tup with
 |true=>obtain⟨o,e,r⟩:=x;exact⟨o,Ad _ e,r⟩
 |false=>obtain⟨o,e,r⟩:=x;exact⟨o,Ad _ e,r⟩
theorem Wy(t1 c:Bool)(a b:Rf)(xs ys:Array Rc):Meets (Gb.«zip.__new__» ⟨[.type "zip",.ref a,.ref b],[]⟩) (λ_ R s=>PH t1 s.heap a xs/\PH c s.heap b ys/\∀h1 h2 f e j,h1=s.heap.push (zO t1 a)->h2=h1.push (zO c b)->f=h2.push {cls:=.type "tuple",data:=.seq #[.ref s.heap.objs.size,.ref h1.objs.size]}->e=f.push {cls:=.type "tuple",data:=.seq #[.none,.none]}->j=e.push {cls:=.type "zip",data:=.fields #[.none,.bool false,.bool false,.ref h2.objs.size,.ref f.objs.size]}->R (.ok (.ret (.ref e.objs.size))) {s with heap:=j}):=by
 refine .of_wp λprog w A R s h=>?_;obtain⟨i,g,d,tk,os⟩:=s;obtain⟨n,m,h⟩:=h;have o:=sub_zip;have l:PH t1 (Ow ⟨i,g,d,tk,os⟩) a xs:=n;have k:PH c (Ow ⟨i.push (zO t1 a),g,d,tk,os⟩) b ys:=PH.push m _;wp_walk using Ti l,Ti k
 exact⟨_,rfl,h _ _ _ _ _ rfl rfl rfl rfl rfl⟩
theorem pJ{prog:Bb}{w:Rl}{A:Cn}{E:Rc->Af->Prop}{s:Af}{t1 e:Bool}{a b:Rf}{xs ys:Array Rc}{Q:Rc->Af->Prop}(J:PH t1 s.heap a xs)(I:PH e s.heap b ys)(h:∀h',ZSt t1 e h' (s.heap.objs.size+4) (s.heap.objs.size+2) (s.heap.objs.size+3) s.heap.objs.size (s.heap.objs.size+1) a b 0 .none->(∀c o,s.heap.get? c=some o->h'.get? c=some o)->Q (.ref (s.heap.objs.size+4)) {s with heap:=h'}):Rh (Rj prog w) A (call (.type "zip") [.ref a,.ref b]) Q E s:=by
 refine callType_new F.called_zip (by decide) (F.typeCall_zip_2 _ _) (F.newCall_zip_2 _ _) (λobj=>F.args_object_init_3 obj _ _) F.entry_zip_new (Wy t1 e a b xs ys) ⟨J,I,?_⟩;rintro h1 h2 f m d t r p n G;have j:h1.objs.size=s.heap.objs.size+1:=by rw[t,Dk]
 have i:h2.objs.size=s.heap.objs.size+2:=by rw[r,Dk,j]
 have g:f.objs.size=s.heap.objs.size+3:=by rw[p,Dk,i]
 have u:m.objs.size=s.heap.objs.size+4:=by rw[n,Dk,g]
 have v:∀c o,m.get? c=some o->d.get? c=some o:=λc o q=>by rw[G];exact Ad _ q
 have x:∀c o,f.get? c=some o->d.get? c=some o:=λc o q=>v c o (by rw[n];exact Ad _ q);have y:∀c o,h2.get? c=some o->d.get? c=some o:=λc o q=>x c o (by rw[p];exact Ad _ q);have z:∀c o,h1.get? c=some o->d.get? c=some o:=λc o q=>y c o (by rw[r];exact Ad _ q);have H:∀c o,s.heap.get? c=some o->d.get? c=some o:=λc o q=>z c o (by rw[t];exact Ad _ q);have k:d.get? m.objs.size=some {cls:=.type "zip",data:=.fields #[.none,.bool false,.bool false,.ref h2.objs.size,.ref f.objs.size]}:=by rw[G];exact Av _ rfl
 have B:d.get? f.objs.size=some {cls:=.type "tuple",data:=.seq #[.none,.none]}:=v _ _ (by rw[n];exact Av _ rfl);have C:d.get? h2.objs.size=some {cls:=.type "tuple",data:=.seq #[.ref s.heap.objs.size,.ref h1.objs.size]}:=x _ _ (by rw[p];exact Av _ rfl);have l:d.get? h1.objs.size=some (zO e b):=y _ _ (by rw[r];exact Av _ rfl);have D:d.get? s.heap.objs.size=some (zO t1 a):=z _ _ (by rw[t];exact Av _ rfl);show _/\_;rw[i,g,u] at k;rw[g] at B;rw[j,i] at C;rw[j] at l;rw[u];refine⟨⟨_,k,rfl⟩,h _ ⟨k,C,⟨_,_,B⟩,?_,?_⟩ H⟩
 ·cases t1 with
  |true=>exact⟨_,D,rfl,rfl⟩
  |false=>exact⟨_,D,rfl,rfl⟩
 ·cases e with
  |true=>exact⟨_,l,rfl,rfl⟩
  |false=>exact⟨_,l,rfl,rfl⟩
theorem eV(n a b:Nat)(d:a<n)(c:b<n):Ll (n+4) (n+2) (n+3) n (n+1) a b:=by
 have f:∀x y:Nat,x<y∨y<x->x≠y:=λx y h=>by lia
 exact⟨f _ _ (by lia),f _ _ (by lia),f _ _ (by lia),f _ _ (by lia),f _ _ (by lia),f _ _ (by lia),f _ _ (by lia),f _ _ (by lia),f _ _ (by lia),f _ _ (by lia),f _ _ (by lia),f _ _ (by lia),f _ _ (by lia),f _ _ (by lia),f _ _ (by lia),f _ _ (by lia),f _ _ (by lia),f _ _ (by lia)⟩
noncomputable def Itz(K:Al)(t1 c:Bool)(a b:Rf):It:=
  ⟨λi H=>∃xs ys x y,IT K t1 H a xs/\IT K c H b ys/\xs[i]?=some x/\ys[i]?=some y,λi H v H'=>∃p x y,(∀xs,IT K t1 H a xs->xs[i]?=some x)/\(∀ys,IT K c H b ys->ys[i]?=some y)/\H p=none/\H'=upd H p (.tup [x,y])/\v=.ref p,λi H=>∃xs ys,IT K t1 H a xs/\IT K c H b ys/\(xs.length<=i∨ys.length<=i)⟩
theorem Yp{P:Bb}{w:Rl}{K:Al}{es:List Rk}{k:Nat}{pos:Pos}(t1 B:Bool)(z p q l j a b:Rf)(D:Ll z p q l j a b):
  CY P w K (.Tuple es k pos) (Itz K t1 B a b) [z,p,q,l,j] z (λi h=>ZSt t1 B h z p q l j a b i .none) where
 mem:=by simp
 obj:=λi h st c hc=>by
  simp only[Aj,Aw,or_false] at hc;rcases hc with rfl|rfl|rfl|rfl|rfl
  ·exact⟨_,st.zip,λv e=>by cases e⟩
  ·exact⟨_,st.its,λv e=>by cases e⟩
  ·obtain⟨u,v,g⟩:=st.res
   exact⟨_,g,λv e=>by cases e⟩
  ·exact st.one.obj
  ·exact st.two.obj
 keep:=λi h h' st kk=>by obtain⟨u,v,g⟩:=st.res;exact⟨kk z (by simp) _ st.zip,kk p (by simp) _ st.its,⟨u,v,kk q (by simp) _ g⟩,st.one.at λo e=>kk l (by simp) o e,st.two.at λo e=>kk j (by simp) o e⟩
 item:=by
  intro X J hw L hc i aa s σ H E I t st F;subst J hw L;obtain⟨xs,ys,x,y,n,m,Q,O⟩:=F;obtain⟨us,r1,N,_⟩:=I.srcA n;obtain⟨vs,r2,M,_⟩:=I.srcA m;obtain⟨u,Y,V⟩:=r1.get Q;obtain⟨v,W,U⟩:=r2.get O;refine DR D st N M (by simpa using Y) (by simpa using W) λh1 f Z hsz hk=>⟨_,rfl,?_⟩;refine wpAny_letOwnedTupleGo_zip (s:={s with heap:=h1}) f.zip λh2 R C=>?_;have C:Fa z h1 h2:=C;have lt:∀c∈[z,p,q,l,j],c<s.heap.objs.size:=λc hc=>by
   simp only[Aj,Aw,or_false] at hc;rcases hc with rfl|rfl|rfl|rfl|rfl
   ·exact Ap st.zip
   ·exact Ap st.its
   ·obtain⟨u,v,g⟩:=st.res
    exact Ap g
   ·obtain⟨o,e,_⟩:=st.one.obj
    exact Ap e
   ·obtain⟨o,e,_⟩:=st.two.obj
    exact Ap e
  have r:∀c o,c≠z->h1.get? c=some o->h2.get? c=some o:=λc o G e=>(C.2 c G).trans e;have d:ZSt t1 B h2 z p q l j a b (i+1) .none:=by obtain⟨T,S,g⟩:=f.res;exact⟨R,r _ _ D.TIz f.its,⟨T,S,r _ _ D.TOz g⟩,f.one.at λo e=>r _ o D.i1z e,f.two.at λo e=>r _ o D.i2z e⟩
  have eg:h2.get? s.heap.objs.size=some {cls:=.type "tuple",data:=.seq #[u,v]}:=r _ _ (Gu (lt z (by simp))) Z;have c8:H s.heap.objs.size=none:=I.hok.fresh (Au _);have I0:cA X aa σ (upd H s.heap.objs.size (.tup [x,y])) {s with heap:=s.heap.push {cls:=.type "tuple",data:=.seq #[u,v]},toks:=s.toks}:=
   I.laid (λc o e=>Ad _ e) (Au _) ⟨by show 2<=sizeLine;decide,[u,v],.cons V (.cons U .nil),Jy _ _⟩
  have I1:cA X aa σ (upd H s.heap.objs.size (.tup [x,y])) {s with heap:=h2,toks:=s.toks}:=by
   refine cA.turnedL (s:={s with heap:=s.heap.push {cls:=.type "tuple",data:=.seq #[u,v]},toks:=s.toks}) (h':=h2) (t':=s.toks) (fp:=[z,p,q,l,j]) I0 (λc o hc e=>?_) (λc hc=>?_) λc hc=>⟨by rw[cL (Bg (lt c hc))];exact(t c hc).1,(t c hc).2⟩
   ·by_cases A:c=s.heap.objs.size
    ·subst A
     have e:(s.heap.push {cls:=.type "tuple",data:=.seq #[u,v]}).get? s.heap.objs.size=some o:=e;rw[Av _ rfl] at e;cases e;exact eg
    ·have e':=(Hy _ _ _ A).symm.trans e
     exact r c o (λw=>hc (by simp[w])) (hk c o (λw=>hc (by simp[w])) (λw=>hc (by simp[w])) (λw=>hc (by simp[w])) (λw=>hc (by simp[w])) e')
   ·simp only[Aj,Aw,or_false] at hc
    rcases hc with rfl|rfl|rfl|rfl|rfl
    ·exact⟨_,d.zip⟩
    ·exact⟨_,d.its⟩
    ·obtain⟨u,v,g⟩:=d.res
     exact⟨_,g⟩
    ·obtain⟨o,e,_⟩:=d.one.obj
     exact⟨o,e⟩
    ·obtain⟨o,e,_⟩:=d.two.obj
     exact⟨o,e⟩
  exact⟨.ref s.heap.objs.size,_,I1,rfl,⟨_,x,y,λzs hz=>by rw[I.sq_inj hz n];exact Q,λzs hz=>by rw[I.sq_inj hz m];exact O,c8,rfl,rfl⟩,d,λc hc=>by rw[cL (Bg (lt c hc))];exact(t c hc).1⟩
 done:=by
  intro X J hw L hc i aa s σ H E I t st F;subst J hw L;obtain⟨xs,ys,n,m,gk⟩:=F;obtain⟨us,r1,N,_⟩:=I.srcA n;obtain⟨vs,r2,M,_⟩:=I.srcA m;have l1:=r1.length;have l2:=r2.length;have he:us.toArray[i]?=none∨vs.toArray[i]?=none:=by
   rcases gk with z|z
   ·exact .inl (by simp;lia)
   ·exact .inr (by simp;lia)
  refine gI (I.ok.hd hc) D st N M he λh1 hk=>⟨rfl,?_⟩;have fq:∀c∈[z,q,l,j],c∈[z,p,q,l,j]:=λc hc=>by simp only[Aj,Aw,or_false] at hc⊢;rcases hc with w|w|w|w<;>simp[w]
  have I':=cA.turnedL' (s:=s) (h':=h1) (t':=s.toks) (fp:=[z,q,l,j]) I (λc o hc e=>hk c o (λw=>hc (by simp[w])) (λw=>hc (by simp[w])) (λw=>hc (by simp[w])) (λw=>hc (by simp[w])) e) λc hc=>t c (fq c hc);exact I'
 self:=λ_ i _ _ _ st h=>wpAny_pyIter_zip st.zip h
section
variable{X:Cx}{K:Al}{ml:List Nat}{l m:Rk}{pa ta ia pb tb ib:Bool}{f g:VF}{p pos db:Pos}{es:List Rk}{tk:Nat}{δ:Ev}
def iZp(K:Al)(tl d:TE):TI:=λσ H R=>tl σ H λx H1=>d σ H1 λy H2=>∃a b t1 c,x=.ref a/\y=.ref b/\(∃xs,IT K t1 H2 a xs)/\(∃ys,IT K c H2 b ys)/\R (Itz K t1 c a b) H2
theorem rA{tl n:TE}(C:Gl X "zip")(B:X.mg "zip"=none)(hl:PE X l tl)(A:PE X m n)(o:Ae (l::[m]) X.env=(false,eval l X.env)::Ae [m] X.env:=by rfl)(k:Ae (m::[]) X.env=(false,eval m X.env)::Ae [] X.env:=by rfl)(j:(Dx pos (Ae [m] X.env)).any (·.1)=false:=by rfl):PI X (.Tuple es tk db) (.Call (.Name "zip" p) [l,m] [] pos) (iZp X.K tl n):=by
 intro aa s σ H R I h;refine Ej (QV I C B mL ?_ (by decide) (by decide));refine Dz (ZB (bC hl (bC A ZE k) o pos aa s σ H (λvs H1=>match vs with
  |[x,y]=>∃a b t1 d,x=.ref a/\y=.ref b/\(∃xs,IT X.K t1 H1 a xs)/\(∃ys,IT X.K d H1 b ys)/\R (Itz X.K t1 d a b) H1
  |_=>False) I h) λus s1 ⟨vs,H1,f,r1,q1⟩=>?_) o j
 match vs,r1,q1 with
 |[x,y],r1,q1=>
  obtain⟨a,b,t1,d,rfl,rfl,⟨xs,i⟩,⟨ys,g⟩,G⟩:=q1;obtain⟨u,v,rfl,z,t⟩:=CJ r1;cases z;cases t;obtain⟨us,M,r,_⟩:=f.srcA i;obtain⟨vs,L,q,_⟩:=f.srcA g;refine pJ r q λh' st kp=>?_;have J:cA X aa σ H1 {s1 with heap:=h'}:=f.kept (t':=s1.toks) kp;have F:=r.lt;have E:=q.lt;have D:Ll (s1.heap.objs.size+4) (s1.heap.objs.size+2) (s1.heap.objs.size+3) s1.heap.objs.size (s1.heap.objs.size+1) a b:=by exact eV _ a b F E
  refine wpAny_pyIter_zip st.zip ⟨s1.heap.objs.size+4,[s1.heap.objs.size+4,s1.heap.objs.size+2,s1.heap.objs.size+3,s1.heap.objs.size,s1.heap.objs.size+1],_,Itz X.K t1 d a b,H1,rfl,J,Yp t1 d _ _ _ _ _ a b D,st,λc hc=>?_,G⟩;have e:s1.heap.objs.size<=c:=by simp only[Aj,Aw,or_false] at hc;rcases hc with w|w|w|w|w<;>rw[w]<;>first|exact Fz _ _|exact Au _
  exact f.fpOk e (f.hok.fresh e)
theorem Zm(h:X.K=K){tl c:TE}(f:Gl X "zip")(e:X.mg "zip"=none)(hl:PE X l tl)(d:PE X m c)(g:Ae (l::[m]) X.env=(false,eval l X.env)::Ae [m] X.env:=by rfl)(b:Ae (m::[]) X.env=(false,eval m X.env)::Ae [] X.env:=by rfl)(a:(Dx pos (Ae [m] X.env)).any (·.1)=false:=by rfl):PI X (.Tuple es tk db) (.Call (.Name "zip" p) [l,m] [] pos) (iZp K tl c):=by subst h;exact rA f e hl d g b a
noncomputable def RF:List c6->List c6->List c6
 |d::ds,e::es=>.tup [d,e]::RF ds es
 |_,_=>[]
noncomputable def iZip(f g:VF):VI:=λδ=>(f δ).bind λp=>(g p.2).bind λq=>(WR p.1).bind λds=>(WR q.1).map λes=>(RF ds es,q.2)
theorem GZ:∀{ds es:List c6} {i:Nat} {d:c6},(RF ds es)[i]?=some d->∃x y,ds[i]?=some x/\es[i]?=some y/\d=.tup [x,y]
 |[],_,_,_,h=>by simp[RF] at h
 |_::_,[],_,_,h=>by simp[RF] at h
 |x::ds,y::es,0,d,h=>by simp[RF] at h;exact⟨x,y,rfl,rfl,h.symm⟩
 |x::ds,y::es,i+1,d,h=>by obtain⟨b,a,h1,h2,c⟩:=GZ (ds:=ds) (es:=es) (i:=i) (d:=d) (by simpa[RF] using h);exact⟨b,a,by simpa using h1,by simpa using h2,c⟩
theorem G0:∀{ds es:List c6},ds.length<=(RF ds es).length∨es.length<=(RF ds es).length
 |[],_=>.inl (Dg _)
 |_::_,[]=>.inr (Dg _)
 |x::ds,y::es=>by
  rcases G0 (ds:=ds) (es:=es) with h|h
  ·exact .inl (Od h)
  ·exact .inr (Od h)
def gB:c6->Bool
 |.tup _=>true
 |_=>false
theorem bB.sqA{N M:Rf->Prop}{H:Hp}{v:V}{d:c6}{ds:List c6}(h:bB K N H M v d)(e:WR d=some ds):∃a tup xs,v=.ref a/\IT K tup H a xs/\b6 K N H xs ds/\tup=gB d:=by
  cases d<;>first
    | (cases e
       obtain⟨a,xs,h1,h2,b⟩:=h.tupE;exact⟨a,true,xs,h1,h2,b,rfl⟩)
    | (cases e
       obtain⟨a,xs,h1,h2,b⟩:=h.lstE;exact⟨a,false,xs,h1,h2,b,rfl⟩)
    |cases e
theorem Tk(hK:X.K=K)(hg:Gl X "zip")(hm:X.mg "zip"=none)(h:PE X l (TV K ml pa true true f))(h':PE X m (TV K ml pb true true g))(he:Ae (l::[m]) X.env=(false,eval l X.env)::Ae [m] X.env:=by rfl)(E:Ae (m::[]) X.env=(false,eval m X.env)::Ae [] X.env:=by rfl)
  (C:(Dx pos (Ae [m] X.env)).any (·.1)=false:=by rfl):PI X (.Tuple es tk db) (.Call (.Name "zip" p) [l,m] [] pos) (TIV K ml (pa&&pb) (iZip f g)):=(Zm (K:=K) hK hg hm h h' he E C).imp λσ H R A=>by
 obtain⟨B,O,δ,ds,δ2,S,q,k⟩:=A;unfold iZip at q;obtain⟨⟨x,δ1⟩,h1,q⟩:=Aa.mp q;cases h2:g δ1 with
 |none=>simp[h2] at q
 |some p2=>
  obtain⟨y,r⟩:=p2;simp only[Ak,h2] at q;obtain⟨xs,M,q⟩:=Aa.mp q;have q:(WR y).map (λes=>(RF xs es,r))=some (ds,δ2):=q;obtain⟨ys,L,q⟩:=At.mp q;cases q;refine⟨B,O,δ,x,δ1,S,h1,λt H1 o=>⟨B,O,δ1,y,_,o.sta,h2,λs H2 R2=>?_⟩⟩;have r1:=o.rep.fr R2.frm (λa z=>.inr z) λa z=>.inr z;obtain⟨a,t1,us,U,q1,w1,I⟩:=r1.sqA M;obtain⟨b,J,vs,T,q2,w2,G⟩:=R2.rep.sqA L;refine⟨a,b,t1,J,U,T,⟨us,q1⟩,⟨vs,q2⟩,k _ [(t,x),(s,y)] H2 (R2.sta.keepV λz hz=>?_) (o.frm.trans R2.frm) (λz=>?_) ?_⟩
  ·simp only[Aj,Aw,or_false] at hz
   rcases hz with rfl|rfl
   ·exact r1
   ·exact R2.rep
  ·obtain⟨Z,Y⟩:=(Ah _ _).mp z
   exact(o.pur Z).trans (R2.pur Y)
  ·intro N H h
   obtain⟨a',v,j,f1,f2,f3,f4⟩:=(h (t,x) (by simp)).sqA M;obtain⟨b',u,c,n,F,P,g4⟩:=(h (s,y) (by simp)).sqA L;have f1:t=.ref a':=f1;have n:s=.ref b':=n;rw[U] at f1;rw[T] at n;cases f1;cases n;have:v=t1:=f4.trans I.symm
   subst this;have:u=J:=g4.trans G.symm
   subst this;refine⟨λi d e=>?_,j,c,f2,F,?_⟩
   ·obtain⟨dx,dy,hx,hy,rfl⟩:=GZ e
    obtain⟨ux,ex,rx⟩:=f3.get hx;obtain⟨uy,Q,ry⟩:=P.get hy;refine⟨⟨j,c,ux,uy,f2,F,ex,Q⟩,λz H' hz=>?_⟩;obtain⟨pp,x',y',c1,c2,D,rfl,rfl⟩:=hz;have W:=c1 j f2;have V:=c2 c F;rw[ex] at W;rw[Q] at V;cases W;cases V;exact⟨cS D,.tup (UV.of cN) (.cons (rx.same (cS D)) (.cons (ry.same (cS D)) .nil))⟩
   ·rcases G0 (ds:=xs) (es:=ys) with w|w
    ·exact .inl (by rw[f3.length];exact w)
    ·exact .inr (by rw[P.length];exact w)
end
end L2
namespace L2
open PySem PySem.Spec PyProof.Rows PySem.W
section
variable{prog:Bb}{w:Rl}{A:Cn}{E:Rc->Af->Prop}{s:Af}
theorem EM{t:Rf}{items:Array Rc}{Q:List Rc->Af->Prop}(n:A.handled=none)(f:IsTup s.heap t items)(h1:1<=items.size)(hz:items.size<=16777216)(p:∀(x:Rc) (c:Rn) (tk:Nat),items[0]?=some x->(∀b o,s.heap.get? b=some o->c.get? b=some o)->Q [x,.ref c.objs.size] {s with heap:=c.push {cls:=.type "list",data:=.seq (items.toList.drop 1).toArray},toks:=tk}):Rh (Rj prog w) A (Jb (.ref t) 2 (some 1)) Q E s:=by
 have a:t≠s.heap.objs.size:=by obtain⟨o,e,_⟩:=f;exact Bg (Ap e)
 (unfold Jb)
 refine Ac ?_
 (unfold notIterableAtAll)
 refine Ac (wpAny_specialOf f.typeIs slot_tuple_iter.lookup (Am ?_));simp only[Fd,if_false];refine Ac (Cb (iter_tuple f (Ac (Cb (draw_tuple a 1 0 _ _ ⟨_,Av _ rfl,rfl,rfl⟩ (f.push _) (by lia) λg ia h=>?_)))));have ta:IsTup g t items:=(f.push _).extBut h.extBut a;have ia:g.IsTupleIter s.heap.objs.size t 1:=ia;obtain⟨G,v,_⟩:=id ia;obtain⟨F,q,_⟩:=id ta;have hsz:g.objs.size=s.heap.objs.size+1:=by rw[h.1,Dk]
 have l:((items.toList.drop 0).take 1).length=1:=by simp;lia
 rw[if_neg (show¬((items.toList.drop 0).take 1).length<1 by rw[l];exact Co _)];refine Ac (Cb (kun_collect (s:={s with heap:=g}) (T:= "tuple_iterator") (.inr (.inr (.inr rfl))) (Walks.tuple (A:=A.in1) n s.heap.objs.size t a items) (λj u st=>st.1.typeIs) (k:=1) h1 ⟨ia,ta⟩ (Ap v) (Ap q) (λc tk m=>?_) (by rw[Cm];exact hz)));have D:(items.toList.drop 1).length=items.size - 1:=by simp
 show Rh _ _ (if(items.toList.drop 1).length<2 - 1 - 1 then _ else _) _ _ _;rw[if_neg (Oz _)];show Rh _ _ (newList ((items.toList.drop 1).take ((items.toList.drop 1).length - (2 - 1 - 1)))>>=λd=>pure ((items.toList.drop 0).take 1++[d]++(items.toList.drop 1).drop ((items.toList.drop 1).length - (2 - 1 - 1)))) _ _ _;have C:(items.toList.drop 1).take ((items.toList.drop 1).length - (2 - 1 - 1))=items.toList.drop 1:=Cg (Au _);have B:(items.toList.drop 1).drop ((items.toList.drop 1).length - (2 - 1 - 1))=[]:=Ij;rw[C,B];refine Ac (Dm (Am ?_) (by show _<=sizeLine;rw[Cm];simp;lia));obtain⟨x,i⟩:∃x,items[0]?=some x:=⟨items[0],by simp[show 0<items.size by lia]⟩;have z:(items.toList.drop 0).take 1=[x]:=by
  rw[Lp];have:items.toList[0]?=some x:=by simpa using i
  cases hl:items.toList with
  |nil=>rw[hl] at this;cases this
  |cons y r=>rw[hl] at this;cases this;rfl
 rw[z];have keep:∀b o,s.heap.get? b=some o->c.get? b=some o:=λb o e=>m b o (Bg (Ap e)) (h.extBut b o (Bg (Ap e)) (Ad _ e));exact p x c tk i keep
end
section
variable{X:Cx}{K:Al}{ml:List Nat}{e a b c:Rk}{es:List Rk}{pa ta ia pb tb ib pc tc ic pu bt bi ps bs:Bool}{fa fb fc f:VF}{B B':Bs}{O:Nat->Option Rf}{H H0 H1 H':Hp}{σ:St}{δ δ':Ev}{v:V}{d:c6}{p:Rf}{pos:Pos}
def nR(K:Al)(i j:Nat):TG:=λv σ H Q=>∃a x xs,v=.ref a/\UV K H a (x::xs)/\∀p,H p=none->Q ((σ.set i (some x)).set j (some (.ref p))) (upd H p (.lst xs))
theorem nH{i j:Nat}{x y:Rg}{d c ps p:Pos}{k:Nat}(hc:X.calm=true)(n:X.N.Nodup)(hi:X.N[i]?=some x)(E:X.N[j]?=some y)(A:Loc X.env.scope x)(t:Loc X.env.scope y)(G:X.fn x=true∨X.env.scope.names.lookup x=some .local)(F:X.fn y=true∨X.env.scope.names.lookup y=some .local)(hl:(Rm [.Name x d,.Starred (.Name y c) ps] X.env).map (·.2)=[assign (.Name x d) X.env,assign (.Name y c) X.env])(D:(Rm [.Name x d,.Starred (.Name y c) ps] X.env).length=2)(g:(Rm [.Name x d,.Starred (.Name y c) ps] X.env).findIdx? (·.1)=some 1):PG X (.Tuple [.Name x d,.Starred (.Name y c) ps] k p) (nR X.K i j):=by
 intro aa s σ H v u Q I r hw;obtain⟨a,z,zs,J,C,q⟩:=hw;subst J;cases r;obtain⟨its,m,B,hz⟩:=I.tuple C;rw[assign_Tuple];refine Ac (Gj ?_)
 (unfold unpack)
 rw[D,g];have l:=m.length;rw[Ax] at l;have e:its.length<=16777216:=by rw[<-Cm,<-l];exact hz
 refine Ac (Cb (EM (I.ok.hd hc) B (by rw[An];lia) (by rw[An];exact e) λu h tk f kp=>?_));rw[hl];cases m with
 | @cons _ w _ ws rz b=>
  have f:some w=some u:=by simpa using f
  cases f;have o:cA X aa σ H {s with heap:=h,toks:=tk}:=I.kept kp;have O:=cA.lnew (s:={s with heap:=h,toks:=tk}) (t':=tk) o b (by rw[Cm];simp only[Ax] at e l;have:=b.length;lia);refine Dy (Hr (XS O n hi A rz (λR M=>?_) G));refine Dy (Hr (XS M n E t (v:=.ref h.objs.size) rfl (λP L=>Hs ⟨_,_,L,q _ (o.hok.fresh (Au _))⟩) F))
noncomputable def J6(i j:Nat)(f:VF):VS:=λδ=>(f δ).bind λp=>match p.1 with
 |.tup (d::ds)=>some (.nx ((p.2.set i (.va d)).set j (.va (.lst ds))))
 |_=>none
theorem CP{i j:Nat}{x y:Rg}{g b sp h:Pos}{k:Nat}(L:X.K=K)(hc:X.calm=true)(J:X.N.Nodup)(hi:X.N[i]?=some x)(F:X.N[j]?=some y)(G:i≠j)(A:Loc X.env.scope x)(w:Loc X.env.scope y)(I:PE X e (TV K ml pu true true f))(t:i∉ml:=by decide)(s:j∉ml:=by decide)(P:X.fn x=true∨X.env.scope.names.lookup x=some .local:=by first|exact .inl rfl|exact .inr rfl|assumption)(M:X.fn y=true∨X.env.scope.names.lookup y=some .local:=by first|exact .inl rfl|exact .inr rfl|assumption)(hl:(Rm [.Name x g,.Starred (.Name y b) sp] X.env).map (·.2)=[assign (.Name x g) X.env,assign (.Name y b) X.env]:=by rfl)(E:(Rm [.Name x g,.Starred (.Name y b) sp] X.env).length=2:=by rfl)(m:(Rm [.Name x g,.Starred (.Name y b) sp] X.env).findIdx? (·.1)=some 1:=by rfl)(C:Fb [.Tuple [.Name x g,.Starred (.Name y b) sp] k h] e pos.line X.env=pure false:=by rfl)(hw:Fc [.Tuple [.Name x g,.Starred (.Name y b) sp] k h] e X.env=pure none:=by rfl)(h1:(Rm [.Tuple [.Name x g,.Starred (.Name y b) sp] k h] X.env).map (·.2)=[assign (.Tuple [.Name x g,.Starred (.Name y b) sp] k h) X.env]:=by rfl):PS X (.Assign [.Tuple [.Name x g,.Starred (.Name y b) sp] k h] e pos) (TC K ml (J6 i j f)):=by
 subst L;refine(HZ I (nH hc J hi F A w P M hl E m) C hw h1).imp λD σ H n=>?_;obtain⟨B,O,δ,o,S,q,k⟩:=n;unfold J6 at q;obtain⟨⟨z,δ1⟩,h1,q⟩:=Aa.mp q;refine⟨B,O,δ,z,δ1,S,h1,λv H1 R=>?_⟩;cases z with
 |tup ds=>
  cases ds with
  |nil=>cases q
  |cons d ds=>
   cases q;obtain⟨a,xs,rfl,sq,r⟩:=R.rep.tupE;cases r with
   | @cons u vs _ _ r1 r2=>
    refine⟨a,u,vs,rfl,sq,λp l=>?_⟩;have S1:=(R.sta.same (cS (o:=.lst vs) l)).setVa t (r1.same (cS (o:=.lst vs) l));have N1:∀c,Nn B (λj=>if j=i then none else O j) c->Nn B O c:=NV (o:=none);refine k _ _ _ (S1.setVa s (.lst cN (λz=>R.sta.new l (N1 _ z)) ((r2.same (cS l)).mono N1)))
 |_=>cases q
end
end L2
namespace L2
open PySem PySem.Spec PyProof.Rows
section
variable{X:Cx}{K:Al}{ml:List Nat}{e a b c:Rk}{es:List Rk}{pa ta ia pb tb ib pc tc ic pu bt bi ps bs:Bool}{fa fb fc f:VF}{B B':Bs}{O:Nat->Option Rf}{H H0 H1 H':Hp}{σ:St}{δ δ':Ev}{v:V}{d:c6}{p:Rf}{pos:Pos}
def rInD(K:Al)(neg:Bool):R2:=λx y H Q=>∃d e ds,Dp K H x d/\Dp K H y e/\(e=.list ds∨e=.tuple ds)/\Ei d=true/\Ei e=true/\Q (.bl (if neg then !ds.any (λz=>Iw z d) else ds.any λz=>Iw z d)) H
theorem QA{d:Lo}(h:Ei d=true):d.canLay0=true/\d.depth<=64:=by unfold Ei at h;simp only[Ah,decide_eq_true_eq] at h;exact h
theorem Va(neg:Bool)(n:X.A.units+64<cLine):WB X (Cu (if neg then .NotIn else .In)) (rInD X.K neg):=by
 intro aa s σ H x y v u Q I l j h;obtain⟨d,e,ds,hd,m,hk,i,g,q⟩:=h;obtain⟨as,h1⟩:=I.reads hd l;obtain⟨bs,h2⟩:=I.reads m j;obtain⟨b,o⟩:=QA i;obtain⟨c2,c⟩:=QA g;have fin:∀k,(k=if neg then !ds.any (λz=>Iw z d) else ds.any λz=>Iw z d)->EP X aa σ Q (.bool k) s:=λk hk=>by subst hk;exact⟨.bl _,H,I,rfl,q⟩
 rcases hk with rfl|rfl
 ·have hc : Hz ds = true := by simpa [Ga] using c2
  have f:Et ds<=63:=by simp only[Ii] at c;lia
  have a:X.A.units+1+min (Et ds) d.depth<cLine:=by have:=Pa (Et ds) d.depth;lia
  cases neg with
  |false=>exact SeqAt.in_list_reads h2 h1 hc b a (fin _ rfl)
  |true=>exact SeqAt.notIn_list_reads h2 h1 hc b a (fin _ rfl)
 ·have hc : Hz ds = true := by simpa [Ga] using c2
  have f:Et ds<=63:=by simp only[Ii] at c;lia
  have a:X.A.units+1+min (Et ds) d.depth<cLine:=by have:=Pa (Et ds) d.depth;lia
  cases neg with
  |false=>exact SeqAt.in_tuple_reads h2 h1 hc b a (fin _ rfl)
  |true=>exact SeqAt.notIn_tuple_reads h2 h1 hc b a (fin _ rfl)
theorem TL(h:X.K=K)(a:X.A.units+64<cLine):WB X (Cu .In) (rInD K false):=by subst h;exact Va false a
theorem MZ(h:X.K=K)(a:X.A.units+64<cLine):WB X (Cu .NotIn) (rInD K true):=by subst h;exact Va true a
def JN(d:c6)(ds:List c6):Bool:=(pds ds).any λz=>Iw z d.pd
noncomputable def ZN(neg:Bool)(d e:c6):Option c6:=(WR e).bind λds=>if(J0 d&&J0 e)=true then some (.bl (if neg then !JN d ds else JN d ds)) else none
theorem YE{neg:Bool}:N8 K (rInD K neg) (ZN neg):=by
 intro H N N' M M' x y d e c Q g f h k;unfold ZN at h;obtain⟨ds,b,h⟩:=Aa.mp h;have h:(if(J0 d&&J0 e)=true then some (c6.bl (if neg then !JN d ds else JN d ds)) else none)=some c:=h;split at h
 ·rename_i a
  cases h;simp only[J0,Ah] at a;refine⟨d.pd,e.pd,pds ds,g.dp a.1.1,f.dp a.2.1,?_,a.1.2,a.2.2,k _ λ_ _ _=>.bl _⟩;cases e<;>first
   |(cases b;exact .inr rfl)
   |(cases b;exact .inl rfl)
   |cases b
 ·cases h
def Xq(K:Al)(td ty:TE):TE:=λσ H Q=>td σ H λx H1=>∃a,x=.ref a/\((IsD H1 a/\ty σ H1 λy H2=>∃o,NZ H2 a y o/\Q (o.getD .non) H2)∨∃D,KTab K a D/\ty σ H1 λy H2=>∃k,y=.str k/\Q ((Fi k D).getD .non) H2)
theorem Zy{ag af:Pos}{td ty:TE}(B:X.A.units+1<cLine)(C:PE X a td)(j:PE X e ty)(m:M1 X a "get" ag e af):PE X (.Call (.Attribute a "get" ag) [e] [] af) (Xq X.K td ty):=by
 intro aa s σ H Q I h;refine Mz m.base m.few m.line Kk Du Lg (ZB (C aa s σ H _ I h) λu s1 ⟨x,H1,d,v,l,ex,q1⟩=>?_);subst ex;obtain rfl:u=Bi l:=v;rcases q1 with⟨hd,q1⟩|⟨D,T,q1⟩
 ·obtain⟨t1,p,_⟩:=Uw d hd
  refine⟨t1,p,?_⟩;rw[m.trees];refine Gc rfl (Go (Gd (ZB (j aa s1 σ H1 _ d q1) λw s2 ⟨y,H2,c,f,O,g,q2⟩=>Hu ?_)));exact rF B c g f λw' N L i=>⟨_,H2,L,i,q2⟩
 ·obtain⟨r,o,M,P,hk,hex,R,_⟩:=id T
  refine⟨⟨o,d.kIn _ _ hk,hex.1⟩,λb q=>?_,?_⟩
  ·cases q
   exact⟨o,d.kIn _ _ hk,hex.2.1⟩
  rw[m.trees];refine Gc rfl (Go (Gd (ZB (j aa s1 σ H1 _ d q1) λw s2 ⟨y,H2,c,f,k,J,q2⟩=>Hu ?_)));subst J;obtain⟨t,rfl⟩:=f;have G:s2.TypeIs (.ref l) "dict":=⟨o,c.kIn _ _ hk,hex.1⟩;refine Ed Du G Ew ?_ (Hi _ _);show Rh _ _ (dictGet l (.str k t)>>=_) _ _ s2;refine Ac (FM c.kIn T (λd' n F z=>Am ⟨n,rfl,?_⟩) λE=>?_)
  ·rw[F] at q2
   exact⟨d',H2,c.tok _,z,q2⟩
  ·rw[E] at q2
   show Rh _ _ (Ly l (.str k t)>>=_) _ _ _;unfold Ly;rw[if_neg (by rw[r];exact Dr)];exact Ac (Am (Am ⟨.none,rfl,.non,H2,c.tok _,rfl,q2⟩))
noncomputable def Vd:c6->c6->Option c6
 |.dct ks ds,.str x=>some ((bN ks ds (.inr x)).getD .non)
 |_,_=>none
theorem fI{ag af:Pos}(M:X.K=K)(G:X.A.units+1<cLine)(L:PE X a (TV K ml pa ta ia fa))(J:PE X b (TV K ml pb tb ib fb))(m:M1 X a "get" ag b af)(f:(pb || (ta&&ia))=true:=by rfl):PE X (.Call (.Attribute a "get" ag) [b] [] af) (TV K ml (pa&&pb) ia ia (f2 Vd fa fb)):=by
 subst M;refine(Zy G L J m).imp λσ H Q t=>?_;obtain⟨B,O,δ,d,δ2,S,q,k⟩:=t;obtain⟨x,δ1,y,h1,h2,u⟩:=OF q;refine⟨B,O,δ,x,δ1,S,h1,λN H1 g=>?_⟩;have fin:∀j H2 (R2:Res X.K ml B O H1 σ pb tb ib H2 δ2 j y) o,bB X.K (av B O ia) H2 (av B O ia) o d->Q o H2:=λj H2 R2 o I=>k o H2 ⟨R2.sta,g.frm.trans R2.frm,λz=>by obtain⟨i,h⟩:=(Ah _ _).mp z;exact(g.pur i).trans (R2.pur h),I.mono (λ_ z=>z) Vs⟩
 cases x with
 |dct ks ds=>
  cases y with
  |str z=>
   cases u;generalize s:c6.dct ks ds=P at g;have r1:=g.rep;cases r1 with
   | @dct _ l kvs E p n r=>
    cases s;refine⟨l,rfl,.inl ⟨.inl ⟨_,Rd.of p⟩,B,O,δ1,_,δ2,g.sta,h2,λj H2 R2=>?_⟩⟩;have r2:=R2.rep;cases r2;have F:H2 l=some (.dK kvs)/\b6 X.K (av B O ia) H2 (kvs.map Ec) ds:=by
     cases pb with
     |true=>exact⟨R2.pur rfl _ _ p,r.same (R2.pur rfl)⟩
     |false=>
      have f:(ta&&ia)=true:=by simpa using f
      obtain⟨i,h⟩:=(Ah _ _).mp f;subst i h;exact⟨R2.frm _ _ p λw=>absurd (.inr w) n,r.fr R2.frm λa z=>.inr z⟩
    refine⟨_,NZ.k (k:=.inr z) F.1,fin _ _ R2 _ ?_⟩;rcases P2 (k:=.inr z) F.2 with⟨v,d',e,c,C⟩|⟨e,c⟩
    ·rw[e,c];exact C
    ·rw[e,c];exact .non
   | @ktb _ l D E T r=>
    cases s;refine⟨l,rfl,.inr ⟨D,T,B,O,δ1,_,δ2,g.sta,h2,λj H2 R2=>?_⟩⟩;have r2:=R2.rep;cases r2;refine⟨z,rfl,fin _ _ R2 _ ?_⟩;have r':b6 X.K (av B O ia) H2 (D.map Ec) ds:=by
     cases pb with
     |true=>exact r.same (R2.pur rfl)
     |false=>
      have f:(ta&&ia)=true:=by simpa using f
      obtain⟨i,h⟩:=(Ah _ _).mp f;subst i h;exact r.fr R2.frm λa z=>.inr z
    rcases OE (k:=z) r' with⟨v,d',e,c,C⟩|⟨e,c⟩
    ·rw[e,c];exact C
    ·rw[e,c];exact .non
   |_=>cases s
  |_=>cases u
 |_=>cases u
end
theorem C1:Bm "all"=some (.builtin "all"):=by decide+kernel
theorem Za:Bm "any"=some (.builtin "any"):=by decide+kernel
theorem AI:Bm "dict"=some (.type "dict"):=by decide+kernel
section
variable{X:Cx}{K:Al}{ml:List Nat}{e a b c:Rk}{es:List Rk}{pa ta ia pb tb ib pc tc ic pu bt bi ps bs:Bool}{fa fb fc f:VF}{B B':Bs}{O:Nat->Option Rf}{H H0 H1 H':Hp}{σ:St}{δ δ':Ev}{v:V}{d:c6}{p:Rf}{pos:Pos}
theorem gZ{ks:List Bool}{us:List Rc}(r:bS (ks.map V.bl) us){i:Nat}{u:Rc}(h:us[i]?=some u):∃k,ks[i]?=some k/\u=.bool k:=by
 have hl:=r.length;rw[Aq] at hl;have hi:i<us.length:=(Ag.mp h).1;have e:(ks.map V.bl)[i]?=some (.bl ks[i]):=by simp[hl▸hi]
 obtain⟨w,h1,h2⟩:=r.get e;rw[h] at h1;cases h1;exact⟨ks[i],by simp[hl▸hi],h2⟩
theorem pL{ks:List Bool}:(Bh ks.length).all (λi=>(ks[i]?).getD true)=ks.all id:=by
 induction ks with
 |nil=>rfl
 |cons k ks a=>
  rw[Ax,Ho,Qj,Qr,Qj,<-a];rfl
theorem lY{ks:List Bool}:(Bh ks.length).any (λi=>(ks[i]?).getD true)=ks.any id:=by
 induction ks with
 |nil=>rfl
 |cons k ks a=>
  rw[Ax,Ho,Gk,List.any_map,Gk,<-a];rfl
def L9(K:Al)(g:List Bool->Bool):RC:=λxs H Q=>∃p ks,xs=[.ref p]/\WT K H p (ks.map V.bl)/\Q (.bl (g ks)) H
theorem GO{prog:Bb}{w:Rl}{A:Cn}{ks:List Bool}{us:List Rc}(r:bS (ks.map V.bl) us):TruthOf prog w A (λi v=>us.toArray[i]?=some v) λi=>(ks[i]?).getD true:=by intro i v s Q E b a;obtain⟨k,h1,rfl⟩:=gZ r (by simpa using b);have a:Q ((ks[i]?).getD true) s:=a;rw[h1] at a;exact Ep a
theorem Yz(hc:X.calm=true):ZW X (.builtin "all") (L9 X.K λks=>ks.all id):=by
 intro aa s σ H xs us Q I r h;obtain⟨l,ks,rfl,f,q⟩:=h;obtain⟨u,rfl,e⟩:=S8 r;cases e;obtain⟨its,c,pl,hz⟩:=I.list f;have hl:=pl.isList;have a:l≠s.heap.objs.size:=by obtain⟨o,g,_⟩:=hl;exact Bg (Ap g)
 have d:=c.length;rw[Aq] at d;refine call_all_walk (Fo hl ⟨_,_,_,_,_,_,_,rfl,Qb (show X.A.in1.handled=none from I.ok.hd hc) s.heap.objs.size l a its.toArray,⟨⟨_,Av _ rfl,rfl,rfl⟩,?_⟩,GO c,λh' tk hk=>?_⟩)
 ·obtain⟨o,g,r⟩:=hl
  exact⟨o,Ad _ g,r⟩
 ·rw[An,<- d,pL]
  exact⟨.bl _,H,I.kept (t':=tk) λb o g=>hk b o (by simp;exact Bg (Ap g)) (Ad _ g),rfl,q⟩
theorem Yl(hc:X.calm=true):ZW X (.builtin "any") (L9 X.K λks=>ks.any id):=by
 intro aa s σ H xs us Q I r h;obtain⟨l,ks,rfl,f,q⟩:=h;obtain⟨u,rfl,e⟩:=S8 r;cases e;obtain⟨its,c,pl,hz⟩:=I.list f;have hl:=pl.isList;have a:l≠s.heap.objs.size:=by obtain⟨o,g,_⟩:=hl;exact Bg (Ap g)
 have d:=c.length;rw[Aq] at d;refine call_any_walk (Fo hl ⟨_,_,_,_,_,_,_,rfl,Qb (show X.A.in1.handled=none from I.ok.hd hc) s.heap.objs.size l a its.toArray,⟨⟨_,Av _ rfl,rfl,rfl⟩,?_⟩,GO c,λh' tk hk=>?_⟩)
 ·obtain⟨o,g,r⟩:=hl
  exact⟨o,Ad _ g,r⟩
 ·rw[An,<- d,lY]
  exact⟨.bl _,H,I.kept (t':=tk) λb o g=>hk b o (by simp;exact Bg (Ap g)) (Ad _ g),rfl,q⟩
theorem kAll(h:X.K=K)(hc:X.calm=true):ZW X (.builtin "all") (L9 K λks=>ks.all id):=by subst h;exact Yz hc
theorem kAny(h:X.K=K)(hc:X.calm=true):ZW X (.builtin "any") (L9 K λks=>ks.any id):=by subst h;exact Yl hc
noncomputable def OB:List c6->Option (List Bool)
 |[]=>some []
 |.bl k::ds=>(OB ds).map λks=>k::ks
 |_=>none
theorem AH{N:Rf->Prop}:∀{xs:List V} {ds:List c6} {ks:List Bool},b6 K N H xs ds->OB ds=some ks->xs=ks.map V.bl
 |_,_,_,.nil,h=>by cases h;rfl
 | _,_,_,@b6.cons _ _ _ v vs d ds h t,e => by
  cases d with
  |bl k=>
   cases h;have e:(OB ds).map (λks=>k::ks)=some _:=e;cases h2:OB ds with
   |none=>rw[h2] at e;cases e
   |some a=>
    rw[h2] at e;cases e;rw[AH t h2,As]
  |_=>cases e
noncomputable def BG(g:List Bool->Bool):c6->Option c6
 |.lst ds=>(OB ds).map λks=>.bl (g ks)
 |_=>none
noncomputable abbrev oAll:=BG λks=>ks.all id
noncomputable abbrev oAny:=BG λks=>ks.any id
theorem Tq{g:List Bool->Bool}:CalS K (L9 K g) (BG g):=by
 intro H N M x d c Q b h k;cases d with
 |lst ds=>
  have h:(OB ds).map (λks=>c6.bl (g ks))=some c:=h;obtain⟨ks,h1,h⟩:=At.mp h;cases h;obtain⟨a,xs,rfl,sq,r⟩:=b.lstE;have:=AH r h1
  subst this;exact⟨a,ks,rfl,sq,k _ λ_ _ _=>.bl _⟩
 |_=>cases h
theorem Sg:CalS K (L9 K λks=>ks.all id) oAll:=Tq
theorem Xd:CalS K (L9 K λks=>ks.any id) oAny:=Tq
noncomputable def TW:List c6->Option (List Int)
 |[]=>some []
 |.int i::ds=>(TW ds).map λns=>i::ns
 |_=>none
theorem LN{N:Rf->Prop}:∀{xs:List V} {ds:List c6} {ns:List Int},b6 K N H xs ds->TW ds=some ns->xs=ns.map V.int
 |_,_,_,.nil,h=>by cases h;rfl
 | _,_,_,@b6.cons _ _ _ v vs d ds h t,e => by
  cases d with
  |int k=>
   cases h;have e:(TW ds).map (λks=>k::ks)=some _:=e;cases h2:TW ds with
   |none=>rw[h2] at e;cases e
   |some a=>
    rw[h2] at e;cases e;rw[LN t h2,As]
  |_=>cases e
theorem GC{N:Rf->Prop}:∀ns:List Int,b6 K N H (ns.map V.int) (ns.map c6.int)
 |[]=>.nil
 |i::ns=>.cons (.int i) (GC ns)
theorem rngI{a:Int}{n:Nat}{acc:Array Rc}(h:ItemsOf (λi v=>∃t,v=.int (a+i*1) t) acc n):bS ((Bh n).map λi:Nat=>V.int (a+i)) acc.toList:=by
 obtain⟨h1,h2⟩:=h;have go:∀(m:Nat) (us:List Rc),us.length=m->∀k:Nat,(∀(i:Nat) (v:Rc),us[i]?=some v->∃t,v=.int (a+((k+i:Nat):Int)*1) t)->bS ((Bh m).map λi:Nat=>V.int (a+((k+i:Nat):Int))) us:=by
  intro m;induction m with
  |zero=>intro us hl k _;rw[Fv.mp hl];exact .nil
  |succ m c=>
   intro us hl k b;cases us with
   |nil=>cases hl
   |cons u us=>
    rw[Ho,As,Gi];obtain⟨t,d⟩:=b 0 u rfl;refine .cons ⟨t,by rw[d];simp⟩ ?_
    have:=c us (by simpa using hl) (k+1) λi v e=>by obtain⟨t,h⟩:=b (i+1) v (by simpa using e);exact⟨t,by rw[h,show k+(i+1)=k+1+i by lia]⟩
    have e:((λi:Nat=>V.int (a+((k+i:Nat):Int)))∘Nat.succ)=λi:Nat=>V.int (a+((k+1+i:Nat):Int)):=by funext i;simp only[Qk,Nat.succ_eq_add_one];rw[show k+(i+1)=k+1+i by lia]
    rw[e];exact this
 have:=go n acc.toList (by simpa using h1) 0 λi v e=>by
  have:=h2 i v (by simpa using e)
  simpa using this
 simpa using this
theorem E5:ZW X (.type "range") (λxs H Q=>∃j,xs=[.int j]/\∀p,H p=none->Q (.ref p) (upd H p (.ext (rngP p 0 j 1)))):=by intro aa s σ H xs us Q I r h;obtain⟨j,rfl,q⟩:=h;obtain⟨u,rfl,t,rfl⟩:=S8 r;refine call_range_1 ?_;have b:=I.hok.fresh (Au s.heap.objs.size);refine⟨.ref s.heap.objs.size,_,I.laid (a:=s.heap.objs.size) (o:=.ext (rngP s.heap.objs.size 0 j 1)) (t':=s.toks+1+1) (λ_ _ z=>Ad _ z) (Au _) ?_,rfl,q _ b⟩;exact⟨⟨_,_,_,Qx ..⟩,⟨_,Av _ rfl⟩,λh1 h2 ⟨t,u,v,z⟩ k=>⟨t,u,v,k _ z⟩⟩
theorem KQ(hc:X.calm=true):ZW X (.type "list") (λxs H Q=>∃(p:Rf) (j:Int),xs=[.ref p]/\H p=some (.ext (rngP p 0 j 1))/\(0<=j/\j<=16777216)/\∀l,H l=none->Q (.ref l) (upd H l (.lst ((Bh j.toNat).map λi:Nat=>V.int (0+i))))):=by
 intro aa s σ H xs us Q I r h;obtain⟨p,j,rfl,m,y,q⟩:=h;obtain⟨u,rfl,g⟩:=S8 r;cases g;obtain⟨⟨t,u,v,z⟩,_⟩:=I.hok p _ m;have n:Hc 0 j 1=(j.toNat:Int):=by
  unfold Hc;rw[if_pos (by decide)];split
  ·rw[Int.ediv_one]
   lia
  ·lia
 have d:(2:Int) ^ 62=4611686018427387904:=by decide
 have e:(2:Nat) ^ 24=16777216:=by decide
 have f:Qz 0 j 1=true:=small_one (a:=0) (b:=j) (by rw[d];decide) (by rw[d];decide) (by rw[d];lia) (by rw[d];lia);refine call_list_range (I.ok.hd hc) z f n (by rw[e];lia) λh' tk acc c kp w x=>?_;have k:=rngI x;refine⟨.ref s.heap.objs.size,_,I.laid (a:=s.heap.objs.size) (o:=.lst ((Bh j.toNat).map λi:Nat=>V.int (0+i))) (t':=tk) kp (Au _) ⟨?_,acc.toList,c,k,by simpa using w⟩,rfl,q _ (I.hok.fresh (Au _))⟩;rw[Aq,Hx,Cm];lia
noncomputable def RQ(f:VF):VF:=λδ=>(f δ).bind λp=>match p.1 with
 |.int j=>if 0<=j/\j<=16777216 then some (.lst (ZF 0 j.toNat),p.2) else none
 |_=>none
theorem Vy{N:Rf->Prop}(lo:Int)(n:Nat):b6 K N H ((Bh n).map λi:Nat=>V.int (lo+i)) (ZF lo n):=by
 unfold ZF;induction (Bh n) with
 |nil=>exact .nil
 |cons x xs a=>exact .cons (.int _) a
theorem AD{o p2 f:Pos}(hc:X.calm=true)(v:Gl X "list")(t:X.mg "list"=none)(r:Bm "list"=some (.type "list"))(m:Gl X "range")(i:X.mg "range"=none)(g:Bm "range"=some (.type "range"))(w:PE X a (TV K ml pa ta ia fa))(n:Ae (a::[]) X.env=(false,eval a X.env)::Ae [] X.env:=by rfl)(b:Ae (.Call (.Name "range" p2) [a] [] f::[]) X.env=(false,eval (.Call (.Name "range" p2) [a] [] f) X.env)::Ae [] X.env:=by rfl):PE X (.Call (.Name "list" o) [.Call (.Name "range" p2) [a] [] f] [] pos) (TN K ml pa (RQ fa)):=
 (UQ (KQ hc) v t r (bC (UQ E5 m i g (bC w ZE n) (by decide) (by decide) n) ZE b) (by decide) (by decide) b).imp λσ H Q h => by
  obtain⟨B,O,δ,d,δ',S,q,k⟩:=h;unfold RQ at q;obtain⟨⟨x,δ1⟩,h1,q⟩:=Aa.mp q;cases x with
  |int j=>
   have q:(if 0<=j/\j<=16777216 then some (c6.lst (ZF 0 j.toNat),δ1) else none)=some (d,δ'):=q;split at q
   ·rename_i u
    cases q;refine⟨B,O,δ,_,_,S,h1,λy H1 c=>?_⟩;have r1:=c.rep;cases r1;refine⟨j,rfl,λp s=>⟨p,j,rfl,cN,u,λl hl=>?_⟩⟩;have e:aH H1 (upd H1 p (.ext (rngP p 0 j 1))):=cS s;exact k l _ (mkN (c.sta.same e) (c.frm.trans e.fr) (λz=>(c.pur z).trans e) hl (Vy 0 j.toNat))
   ·cases q
  |_=>cases q
end
section
variable{X:Cx}{K:Al}{ml:List Nat}{e a b c:Rk}{es:List Rk}{pa ta ia pb tb ib pc tc ic pu bt bi ps bs:Bool}{fa fb fc f:VF}{B B':Bs}{O:Nat->Option Rf}{H H0 H1 H':Hp}{σ:St}{δ δ':Ev}{v:V}{d:c6}{p:Rf}{pos:Pos}
noncomputable def T9(n:Int):List Int->Option Nat
 |[]=>none
 |i::ns=>if i=n then some 0 else(T9 n ns).map (· +1)
theorem J1{n:Int}:∀{ns:List Int} {j:Nat},T9 n ns=some j->ns[j]?=some n/\∀m,m<j->ns[m]? ≠some n
 |[],_,h=>by cases h
 | i :: ns,j,h => by
  unfold T9 at h;split at h
  ·rename_i hi
   cases h;exact⟨by rw[hi];rfl,λm a=>absurd a (Oz _)⟩
  ·rename_i hi
   obtain⟨k,h1,h⟩:=At.mp h;cases h;obtain⟨h2,b⟩:=J1 h1;refine⟨by simpa using h2,λm a=>?_⟩;cases m with
   |zero=>simpa using hi
   |succ m=>simpa using b m (Nat.lt_of_succ_lt_succ a)
theorem GR{ns:List Int}{us:List Rc}(r:bS (ns.map V.int) us){m:Nat}{u:Rc}(h:us[m]?=some u):∃i t,ns[m]?=some i/\u=.int i t:=by
 have hl:=r.length;rw[Aq] at hl;have a:m<us.length:=(Ag.mp h).1;have e:(ns.map V.int)[m]?=some (.int ns[m]):=by simp[hl▸a]
 obtain⟨d,b,t,c⟩:=r.get e;rw[h] at b;cases b;exact⟨ns[m],t,by simp[hl▸a],c⟩
noncomputable def LO(n:Int):Rc->Bool
 |.int i _=>i==n
 |_=>false
theorem Ta{ns:List Int}{its:List Rc}{n:Int}{j:Nat}(r:bS (ns.map V.int) its)(h:T9 n ns=some j):∃e:j<its.toArray.size,LO n its.toArray[j]=true/\(∀m (a:m<its.toArray.size),m<j->LO n its.toArray[m]=false):=by
 obtain⟨h1,h2⟩:=J1 h;have hl:=r.length;rw[Aq] at hl;have e:j<ns.length:=(Ag.mp h1).1;have at_:∀(m:Nat) (a:m<its.toArray.size),∃i t,ns[m]?=some i/\its.toArray[m]=.int i t:=λm a=>by
  have d:m<its.length:=by simpa using a
  exact GR r (u:=its.toArray[m]) (by simp[d])
 refine⟨by simpa[<-hl] using e,?_,λm a c=>?_⟩
 ·obtain ⟨i,t',b,f⟩ := at_ j (by simpa [<- hl] using e)
  rw[h1] at b;cases b;rw[f];simp[LO]
 ·obtain⟨i,t',b,f⟩:=at_ m a
  have:=h2 m c
  rw[b] at this;rw[f];exact beq_eq_false_iff_ne.mpr λz=>this (by rw[z])
theorem Tl{ns:List Int}{its:List Rc}(r:bS (ns.map V.int) its){y:Rc}(b:y∈its.toArray):∃i t,y=.int i t:=by
 obtain⟨m,c,rfl⟩:=Array.mem_iff_getElem.mp b;have a:m<its.length:=by simpa using c
 obtain⟨i,t,_,e⟩:=GR r (m:=m) (u:=its.toArray[m]) (by simp[a]);exact⟨i,t,e⟩
def Ui(K:Al):V->List V->Hp->VK->Prop:=λx vs H Q=>∃(l:Rf) (ns:List Int) (n:Int) (j:Nat),x=.ref l/\vs=[.int n]/\WT K H l (ns.map V.int)/\T9 n ns=some j/\Q (.int j) H
theorem oN:MtM X "list.index" (Ui X.K):=by
 intro aa s σ H x vs v us Q I f g h;obtain⟨l,ns,n,j,rfl,rfl,m,p,q⟩:=h;cases f;obtain⟨u,rfl,t,rfl⟩:=g.one;obtain⟨its,r,⟨o,c,e,hc,hd,b⟩,hz⟩:=I.list m;obtain⟨cls,A,data,d⟩:=o;simp only at hc hd b;subst hc hd b;obtain⟨a,h1,h2⟩:=Ta r p;have hl:=r.length;refine Gw F.slot_list_index ⟨_,e,rfl⟩ F.entry_list_index (F.args_list_index_2 _ _) (SeqAt.list_indexAt l its.toArray c none d (.int n t) (LO n) j a (by
  have z:its.length<=16777216:=by rw[<-hl,<-Cm];exact hz
  have w:j<its.length:=by simpa using a
  lia) h1 h2) ⟨e,?_,?_⟩
 ·intro y k
  obtain⟨i,t',rfl⟩:=Tl r k;exact SeqAt.EqAt.int_int i t' n t
 ·exact⟨.int j,H,I.tok _,⟨_,rfl⟩,q⟩
theorem lQ(h:X.K=K):MtM X "list.index" (Ui K):=by subst h;exact oN
noncomputable def DT:c6->c6->Option c6
 |.lst ds,.int n=>(TW ds).bind λns=>(T9 n ns).map λj=>.int j
 |_,_=>none
theorem Yo{ag af:Pos}(m:X.K=K)(t:PE X a (TV K ml pa ta ia fa))(s:PE X b (TV K ml pb tb ib fb))(A:Ce a "index" X.env (eval a X.env)=eval a X.env:=by rfl)(w:((Dx af (Ae (b::[]) X.env)).all (λx=> !x.1)&&(Hf af (Es [] X.env)).all (λx=>x.1.isSome)&&decide ((b::([]:List Rk)).length+([]:List Gg).length+(if([]:List Gg).isEmpty then 0 else 1)<30))=true:=by rfl)(C:(ag.endLine==af.line)=true:=by rfl)(i:Ae (b::[]) X.env=(false,eval b X.env)::Ae [] X.env:=by rfl)(D:(Dx af (Ae [] X.env)).any (·.1)=false:=by rfl)(hl:(pb || (ta&&ia))=true:=by rfl):PE X (.Call (.Attribute a "index" ag) [b] [] af) (TV K ml (pa&&pb) true true (f2 DT fa fb)):=
 (kBm (K := K) m Hk PySem.F.slot_list_index PySem.F.type_list_index (lQ m) t (bC s ZE i) A w C i D).imp λσ H Q g => by
  obtain⟨B,O,δ,d,δ2,S,q,k⟩:=g;obtain⟨x,δ1,y,h1,h2,c⟩:=OF q;refine⟨B,O,δ,x,δ1,S,h1,λG H1 e=>?_⟩;cases x with
  |lst ds=>
   cases y with
   |int n=>
    have c:((TW ds).bind λns=>(T9 n ns).map λj=>c6.int j)=some d:=c;obtain⟨ns,u,c⟩:=Aa.mp c;have c:(T9 n ns).map (λj=>c6.int j)=some d:=c;cases h:T9 n ns with
    |none=>rw[h] at c;cases c
    |some j=>
     rw[h] at c;cases c;obtain⟨l,xs,rfl,sq,_⟩:=e.rep.lstE;refine⟨.inl ⟨rfl,xs,sq⟩,B,O,δ1,_,δ2,e.sta,h2,λE H2 R2=>?_⟩;have r2:=R2.rep;cases r2;obtain⟨I,r,v,f,r'⟩:=(R2.live hl e.rep).lstE;cases v;have:=LN r' u
     subst this;exact⟨l,ns,n,j,rfl,rfl,f,h,k _ H2 ⟨R2.sta,e.frm.trans R2.frm,λz=>by obtain⟨p,o⟩:=(Ah _ _).mp z;exact(e.pur p).trans (R2.pur o),.int _⟩⟩
   |_=>cases c
  |_=>cases c
def BX:V->List V->Hp->VK->Prop:=λx vs H Q=>∃(l:Rf) (ns:List Int) (n:Int) (j:Nat),x=.ref l/\vs=[.int n]/\H l=some (.lst (ns.map V.int))/\T9 n ns=some j/\Q .non (upd H l (.lst ((ns.eraseIdx j).map V.int)))
theorem JJ{α β:Type}(g:α->β):∀(l:List α) (j:Nat),(l.map g).eraseIdx j=(l.eraseIdx j).map g
 |[],_=>by simp
 |_::_,0=>by simp
 |x::l,j+1=>by simp[JJ g l j]
theorem eO:MtM X "list.remove" BX:=by
 intro aa s σ H x vs v us Q I f g h;obtain⟨l,ns,n,j,rfl,rfl,d,m,q⟩:=h;cases f;obtain⟨u,rfl,t,rfl⟩:=g.one;obtain⟨z,its,c,r,hl,e⟩:=I.lstM d;obtain⟨a,h1,h2⟩:=Ta r m;refine Gw F.slot_list_remove ⟨_,e,rfl⟩ F.entry_list_remove (F.args_list_remove_2 _ _) (MeetsSeq.list_remove l its.toArray c (.int n t) (LO n) (λy k=>?_) j a h1 h2 (by rw[An,<-hl];exact z)) ⟨e,?_⟩
 ·obtain⟨i,t',rfl⟩:=Tl r k
  exact Qu i n t' t
 ·have b : j < its.length := by simpa using a
  refine⟨.non,_,I.lset (its':=its.eraseIdx j) d e (by simp[Array.eraseIdxIfInBounds,b]) (ys:=(ns.eraseIdx j).map V.int) ?_ ?_,rfl,q⟩
  ·have:=bS.eraseIdx j r
   rwa[JJ] at this
  ·rw[Aq]
   have h1:=List.length_eraseIdx_le ns j;rw[Aq] at z;lia
noncomputable def mRem:List c6->List c6->Option (List c6)
 |ds,[.int n]=>(TW ds).bind λns=>(T9 n ns).map λj=>(ns.eraseIdx j).map c6.int
 |_,_=>none
theorem dG:MuV K BX mRem:=by
 intro H N l xs vs ds es a Q hl g b c h k;cases c with
 |nil=>cases h
 | @cons v vs d es hd t=>
  cases t with
  |cons _ _=>cases d<;>cases h
  |nil=>
   cases d with
   |int n=>
    cases hd;have h:((TW ds).bind λns=>(T9 n ns).map λj=>(ns.eraseIdx j).map c6.int)=some a:=h;obtain⟨ns,f,h⟩:=Aa.mp h;have h:(T9 n ns).map (λj=>(ns.eraseIdx j).map c6.int)=some a:=h;obtain⟨j,e,h⟩:=At.mp h;cases h;have:=LN b f
    subst this;exact⟨l,ns,n,j,rfl,rfl,hl,e,k _ _ (GC _)⟩
   |_=>cases h
end
section
variable{X:Cx}{K:Al}{ml:List Nat}{e:Rk}{es:List Rk}{pu bt bi bs:Bool}{f:VF}{fs:PJ}
theorem cW(h:PE X e (TV K ml pu bt bi f))(a:(bt&&bi)=true:=by rfl):PE X e (TV K ml pu true true f):=by obtain⟨h1,h2⟩:=(Ah _ _).mp a;subst h1 h2;exact h
theorem Rz(h:PE X e (TV K ml pu bt bi f))(a:bi=true:=by rfl):PE X e (TV K ml pu bt true f):=by subst a;exact h
theorem cE(h:PA X es (EW K ml pu bs fs))(a:bs=true:=by rfl):PA X es (EW K ml pu true fs):=by subst a;exact h
theorem UU{st:Rq}:PS X st (TC K ml λ_=>none):=λ_ _ _ _ _ _ ⟨_,_,_,_,_,q,_⟩=>nomatch q
variable{a b c:Rk}{pa ta ia pb tb ib pc tc ic:Bool}{fa fb fc:VF}{pos:Pos}{δ:Ev}
end
section
variable{X:Cx}{K:Al}{ml:List Nat}{e a b c:Rk}{pa ta ia pb tb ib pu:Bool}{fa fb fc f:VF}{B:Bs}{O:Nat->Option Rf}{H H':Hp}{σ:St}{δ δ':Ev}{v:V}{d:c6}{p:Rf}{pos:Pos}{ks:List (Option Rk)}{vs:List Rk}
theorem JV:∀{more acc:List (aG×V)},((acc++more).map Db).Nodup->LS acc more=acc++more
 |[],acc,_=>by simp[LS]
 |(k,v)::more,acc,a=>by
  have hk:∀q∈acc,q.1≠k:=λq b z=>by rw[Bq,As] at a;exact(List.nodup_append.mp a).2.2 q.1 (List.mem_map_of_mem b) k (by simp) z
  have c:RD acc k=none:=by unfold RD;rw[List.find?_eq_none.mpr λq b=>by simpa using hk q b];rfl
  show LS (WQ acc k v) more=_;rw[jD v c,JV (by simpa using a)];simp
end
theorem QI:∀(names:List (Rg×Rs)) (n:Nat) (acc:List (Rg×Rf)),Rr n names acc=Rr n names []++acc
 |[],_,_=>rfl
 | (x,k) :: r,n,acc => by
  unfold Rr;split
  ·rw[QI r (n+1) ((x,n)::acc),QI r (n+1) [(x,n)]]
   simp
  ·exact QI r n acc
theorem C7:∀{names:List (Rg×Rs)} {n:Nat} {x:Rg} {c:Rf},(x,c)∈Rr n names []->(x,Cf)∈names
 |[],_,_,_,h=>nomatch h
 | (y,k) :: r,n,x,c,h => by
  unfold Rr at h;split at h
  ·rename_i hk
   rw[QI] at h;rcases Bz.mp h with h|h
   ·exact Ar _ (C7 h)
   ·cases Az.mp h
    rw[show k=Cf from beq_iff_eq.mp hk];exact Ay
  ·exact Ar _ (C7 h)
theorem C6:∀{names:List (Rg×Rs)} {n:Nat} {x:Rg},(x,Cf)∈names->∃c,(x,c)∈Rr n names []
 | (y,k) :: r,n,x,h => by
  unfold Rr;rcases Aj.mp h with e|h
  ·cases e
   rw[if_pos (by decide),QI];exact⟨n,Bu _ (Az.mpr rfl)⟩
  ·split
   ·rw[QI]
    obtain⟨c,hc⟩:=C6 (n:=n+1) h;exact⟨c,Ch _ hc⟩
   ·exact C6 h
theorem LR:∀{l:List (Rg×Rf)} {x:Rg} {c:Rf},(x,c)∈l->∃b,l.lookup x=some b
 | (y,d) :: r,x,c,h => by
  rw[Bt];cases a:x==y with
  |true=>exact⟨d,rfl⟩
  |false=>
   rcases Aj.mp h with e|h
   ·cases e
    simp at a
   ·exact LR h
theorem X3:∀{l m:List (Rg×Rf)} {x:Rg} {c:Rf},(l++m).lookup x=some c->l.lookup x=some c∨(l.lookup x=none/\m.lookup x=some c)
 |[],_,_,_,h=>.inr ⟨rfl,h⟩
 |(y,d)::r,m,x,c,h=>by
  rw[Cy,Bt] at h;rw[Bt];cases a:x==y with
  |true=>rw[a] at h;exact .inl h
  |false=>rw[a] at h;exact X3 h
theorem QG:∀{l m:List (Rg×Rf)} {x:Rg},l.lookup x=none->(l++m).lookup x=m.lookup x
 |[],_,_,_=>rfl
 |(y,d)::r,m,x,h=>by
  rw[Bt] at h;rw[Cy,Bt];cases a:x==y with
  |true=>rw[a] at h;cases h
  |false=>rw[a] at h;exact QG h
theorem FW{M:Model}{A:Cn}{E:Rc->Af->Prop}{s:Af}{scope:Rt}{globals:Rf}{d:List (Rg×Rf)}{a:Rg}{outer:Env}{Q:Env->Af->Prop}(e:Q (newEnv scope s.heap.objs.size globals (Rr (s.heap.objs.size+1) scope.names d) a none .none (some outer) builtinsNs) {s with heap:=Pb (s.heap.push {cls:=.type "dict",data:=.dict #[]}) scope.names}):Rh M A (Lr scope globals d [] a none .none (some outer)) Q E s:=by simp only[Lr,Mm,if_true];refine Ac (wpAny_alloc ?_);refine Ac (wpAny_layCells _ (λname kind c=>by cases b:kind==Cf<;>simp[b]) _ _ _ _ ?_);rw[show({s with heap:=s.heap.push {cls:=.type "dict",data:=.dict #[]}}:Af).heap.objs.size=s.heap.objs.size+1 from Dk ..];rw[Lq];exact Ac (Am (Am e))
theorem SR:∀{l m:List (Rg×Rf)} {x:Rg} {c:Rf},l.lookup x=some c->(l++m).lookup x=some c
 |(y,d)::r,m,x,c,h=>by
  rw[Bt] at h;rw[Cy,Bt];cases a:x==y with
  |true=>rw[a] at h;exact h
  |false=>rw[a] at h;exact SR h
structure MR(X:Cx)(N':List Rg)(ix:List Nat)(scope:Rt):Prop where
 kind:scope.kind=.function
 cel:∀y∈scope.names,y.2=.cell->scope.names.lookup y.1=some .cell
 names:∀y∈scope.names,y.2=.local->scope.names.lookup y.1=some .local
 free:∀y∈scope.names,y.2=.free->X.env.kindOf y.1=some .cell∨X.env.kindOf y.1=some .free
 nd:N'.Nodup
 cap:∀j,j<ix.length->N'[j]?=(ix[j]?).bind λi=>X.N[i]?
 capf:∀x∈N'.take ix.length,scope.names.lookup x=some .free
noncomputable def Y5(X:Cx)(N':List Rg)(scope:Rt)(cl:List (Rg×Rf))(s1:Af)(H1:Hp)(fp:List Rf):Cx:=
 {X with N:=N',s₀:=s1,H₀:=H1,env:=compEnvC scope cl s1.heap.objs.size X.env,outer:=X.stack,stack:=X.stack,ex:=fp,fn:=λx=>scope.names.lookup x==some Cf,pn:=[],xe:=λ_ _=>False}
theorem UB{env:Env}{x:Rg}:∀{l:List (Rg×Rs)},((l.map λ(n,k)=>if(k==Br&&env.scope.kind== .function&&env.kindOf n==some .cell) then(n,Cf) else(n,k)).lookup x=some .cell∨(l.map λ(n,k)=>if(k==Br&&env.scope.kind== .function&&env.kindOf n==some .cell) then(n,Cf) else(n,k)).lookup x=some .free)->(x,Br)∈l∨(x,Cf)∈l
 |[],h=>by rcases h with z|z<;>cases z
 | (n,k) :: r,h => by
  have h:Fg x ((if(k==Br&&env.scope.kind== .function&&env.kindOf n==some .cell)=true then(n,Cf) else(n,k))::r.map λ(n,k)=>if(k==Br&&env.scope.kind== .function&&env.kindOf n==some .cell) then(n,Cf) else(n,k))=some .cell∨
   Fg x ((if(k==Br&&env.scope.kind== .function&&env.kindOf n==some .cell)=true then(n,Cf) else(n,k))::r.map λ(n,k)=>if(k==Br&&env.scope.kind== .function&&env.kindOf n==some .cell) then(n,Cf) else(n,k))=some .free:=h
  by_cases hc:(k==Br&&env.scope.kind== .function&&env.kindOf n==some .cell)=true
  ·rw[if_pos hc] at h
   by_cases a:x=n
   ·subst a
    have hk:k=.free:=by simp only[Ah] at hc;exact beq_iff_eq.mp hc.1.1
    subst hk;exact .inl Ay
   ·have b:(x==n)=false:=beq_eq_false_iff_ne.mpr a
    simp only[Bt,b] at h;rcases UB (env:=env) h with z|z
    ·exact .inl (Ar _ z)
    ·exact .inr (Ar _ z)
  ·rw[if_neg hc] at h
   by_cases a:x=n
   ·subst a
    rw[Dv] at h;rcases h with z|z
    ·cases z;exact .inr Ay
    ·cases z;exact .inl Ay
   ·have b:(x==n)=false:=beq_eq_false_iff_ne.mpr a
    simp only[Bt,b] at h;rcases UB (env:=env) h with z|z
    ·exact .inl (Ar _ z)
    ·exact .inr (Ar _ z)
theorem K8{X:Cx}{aa:List (Rf×Ro)}{σ:St}{H2:Hp}{s2:Af}{E:Rc->Af->Prop}{tg iter elt:Rk}{ifs:List Rk}{scope:Rt}{pos:Pos}{N':List Rg}{ix:List Nat}{nl:Nat}{g:TG}{tt:TT}{te:TE}{cl:List (Rg×Rf)}{J:It}{fp:List Rf}{it:Rf}{tn:Nat->Rn->Prop}{Q:V->Hp->Prop}{RR:Rc->Rf->Result->Af->Prop}(hc:X.calm=true)(S:MR X N' ix scope)(hnl:N'.length=ix.length+nl)(en:∀x c,cl.lookup x=some c->X.env.cells.lookup x=some c)(pk:∀x,(x,Br)∈scope.names->∃c,cl.lookup x=some c)(blk:∀(cl:List (Rg×Rf)) (s1:Af) (H1:Hp) (fp:List Rf),Blk (Y5 X N' scope cl s1 H1 fp) tg ifs elt g tt te)(I2:cA X aa σ H2 s2)(T:CY X.prog X.w X.K tg J fp it tn)(st2:tn 0 s2.heap)(f2:∀b∈fp,KM X aa H2 b)(h:∀D,H2 D=none->Tf D ix nl J g tt te σ H2 λH'=>Q (.ref D) H')(fin:∀(D C:Rf) (s':Af) (H':Hp),cA X aa σ H' s'->(∃m,s'.heap.Ns C m)->C≠X.env.locals->(∀x c,X.env.cells.lookup x=some c->c≠C)->(∀(k:St) (P:Af) (h'':Rn),cA X aa k H' P->Fa C P.heap h''->cA X aa k H' {P with heap:=h''})->Q (.ref D) H'->RR (.ref D) C (.ok .next) s'):Rh (Rj X.prog X.w) X.A (newList []) (λacc t=>Rh (Rj X.prog X.w) X.A (Lr scope X.env.globals cl [] X.env.qual none .none (some X.env)) (λqh s₄=>Kh (Rj X.prog X.w) X.A (.compStart (.ListComp elt [⟨tg,iter,ifs,0⟩] scope pos) 0 (.ref it) acc {qh with scope:=relabel scope X.env}) (RR acc qh.locals) s₄) E t) E s2:=by
 refine Dm (FW ?_);dsimp only;have f:cA X aa σ (upd H2 s2.heap.objs.size (.lst [])) {s2 with heap:=s2.heap.push {cls:=.type "list",dict:=none,data:=.seq ([]:List Rc).toArray}}:=
  I2.lnew (t':=s2.toks) (ys:=[]) (its:=[]) .nil (Dg _)
 have hDn:H2 s2.heap.objs.size=none:=I2.hok.fresh (Au _);obtain⟨W,⟨m0,w0⟩,turn⟩:=h _ hDn;generalize hs1:({s2 with heap:=s2.heap.push {cls:=.type "list",dict:=none,data:=.seq ([]:List Rc).toArray}}:Af)=s1 at f;have gj:s2.heap.push {cls:=.type "list",dict:=none,data:=.seq ([]:List Rc).toArray}=s1.heap:=by rw[<-hs1]
 rw[gj];have H:∀b o,s1.heap.get? b=some o->(Pb (s1.heap.push {cls:=.type "dict",data:=.dict #[]}) scope.names).get? b=some o:=λb o e=>pushCells_keeps _ _ _ _ (Ad _ e);have G:(Pb (s1.heap.push {cls:=.type "dict",data:=.dict #[]}) scope.names).Ns s1.heap.objs.size (λ_=>none):=(Heap.Ns.new s1.heap (.type "dict")).keeps λb o e=>pushCells_keeps _ _ _ _ e;have L:=cellsFrom_ok scope.names (s1.heap.push {cls:=.type "dict",data:=.dict #[]}) (s1.heap.objs.size+1) [] ⟨λ_ _ hm=>(nomatch hm),Na⟩ (by rw[Dk];exact Au _);rw[Dk] at L;generalize hz1:Pb (s1.heap.push {cls:=.type "dict",data:=.dict #[]}) scope.names=B at H G L;rw[QI];generalize hnc:Rr (s1.heap.objs.size+1) scope.names []=s at L;have F:∀x c,s.lookup x=some c->(x,Cf)∈scope.names/\B.IsCell c none/\s1.heap.objs.size+1<=c:=λx c e=>by have hm:=Ct e;exact⟨C7 (n:=s1.heap.objs.size+1) (by rw[hnc];exact hm),L.empty x c hm⟩
 have nch:∀x,(x,Cf)∈scope.names->∃c,s.lookup x=some c:=λx h=>by obtain⟨c,hc⟩:=C6 (n:=s1.heap.objs.size+1) h;rw[hnc] at hc;exact LR hc
 have jv:∀b∈fp,b<s2.heap.objs.size:=λb a=>by obtain⟨o,e,_⟩:=T.obj _ _ st2 b a;exact Ap e
 have ou:s1.heap.objs.size=s2.heap.objs.size+1:=by rw[<-gj,Dk]
 have qy:∀b o,s2.heap.get? b=some o->s1.heap.get? b=some o:=λb o e=>by rw[<-gj];exact Ad _ e
 have gn:∀x c,cl.lookup x=some c->c<s1.heap.objs.size:=λx c e=>by obtain⟨v,q⟩:=f.cell x c (en x c e);exact q.lt
 have ug:∀b∈frs X.stack,b<s1.heap.objs.size:=λb a=>by obtain⟨_,o,ho,_⟩:=(f.stack).mem a;exact Ap ho
 have R:(Y5 X N' scope (s++cl) s1 (upd H2 s2.heap.objs.size (.lst [])) fp).Ok:=by
  refine⟨f.ok.mod,S.kind,f.ok.glob,f.ok.blt,Au _,λx y c e1 O=>?_,λx hx=>?_,λx c hf e=>?_,f.ok.hd,f.ok.frames,.inl rfl,λb a=>⟨?_,λx c e=>?_⟩,λb o e=>?_,Em f.ok.bsz f.sz,λb o e a=>?_,λb a hb2=>?_,f.stack,f.stkFree⟩
  ·rcases X3 e1 with n1|⟨_,Z⟩
   ·rcases X3 O with n2|⟨_,o2⟩
    ·exact PySem.name_of_addr L.apart (Ct n1) (Ct n2)
    ·exact absurd (Bk (gn y c o2) (Ia (F x c n1).2.2)) (Co _)
   ·rcases X3 O with n2|⟨_,o2⟩
    ·exact absurd (Bk (gn x c Z) (Ia (F y c n2).2.2)) (Co _)
    ·exact f.ok.inj x y c (en x c Z) (en y c o2)
  ·cases q:s.lookup x with
   |some c=>exact⟨c,SR q⟩
   |none=>
    rcases UB hx with h|h
    ·obtain⟨c,hc⟩:=pk x h
     exact⟨c,(QG q).trans hc⟩
    ·obtain⟨c,hc⟩:=nch x h
     rw[q] at hc;cases hc
  ·have hx:(x,Cf)∈scope.names:=Ct (beq_iff_eq.mp hf)
   obtain⟨c',M⟩:=nch x hx;have:=SR (m:=cl) M
   have e:(s++cl).lookup x=some c:=e;rw[this] at e;cases e;exact Ia (F x c M).2.2
  ·exact Bg (Bk (jv b a) (by show s2.heap.objs.size<=s1.heap.objs.size;rw[ou];exact Gs _))
  ·rcases X3 e with n1|⟨_,Z⟩
   ·have h1:=jv b a
    have h2:=(F x c n1).2.2;rw[ou] at h2;exact λz=>absurd (z▸h2) (Nat.not_le_of_lt (Bk h1 (Em (Gs _) (Gs _))))
   ·exact(f2 b a).2.2.2.2.1 x c (en x c Z)
  ·exact f.bs b o e
  ·have:=(f2 b a)
   obtain⟨o',e',_⟩:=T.obj _ _ st2 b a;have hlt:=Bk (Ap e) f.ok.bsz;rcases this.2.2.2.1 with z|z
   ·exact f.ok.noex b o e z
   ·exact absurd (Bk hlt z) (Co _)
  ·rcases Aj.mp (f.stkSub b hb2) with z|z
   ·exact(f2 b a).2.1 z
   ·exact(f2 b a).2.2.1 z
 have jf:(X8 ix σ++Bn nl none).length=N'.length:=by rw[Ao,Lc,hnl];simp[X8]
 have IY:cA (Y5 X N' scope (s++cl) s1 (upd H2 s2.heap.objs.size (.lst [])) fp) [] (X8 ix σ++Bn nl none) (upd H2 s2.heap.objs.size (.lst [])) {s2 with heap:=B}:=by
  refine⟨R,?_,I2.bare,Un.kept H,⟨_,G,λj x v e1 O e3=>?_⟩,λx c e=>?_,f.hok.fresh (Au _),λx c e=>?_,λp hp=>absurd (show p∈([]:List (Rf×Ro)) from hp) (by simp),f.hok.kept H,jf⟩
  ·show s2.os=s1.os
   rw[<-hs1]
  ·have U:j<ix.length:=by
    by_cases U:j<ix.length
    ·exact U
    ·exfalso
     have hl:(X8 ix σ).length=ix.length:=by simp[X8]
     rw[Ba (by rw[hl];lia),Ea] at O;split at O<;>cases O
   have hl:(X8 ix σ).length=ix.length:=by simp[X8]
   rw[Ai (by rw[hl];exact U)] at O;have hci:=S.cap j U;obtain⟨i,hi⟩:∃i,ix[j]?=some i:=⟨ix[j],by simp[U]⟩;rw[hi] at hci;have hNi:X.N[i]?=some x:=by
    have:N'[j]?=X.N[i]? :=hci
    rw[<-this];exact e1
   have hσ:σ[i]?=some (some v):=by
    unfold X8 at O;rw[Dc,hi] at O;have Y:(σ[i]?).join=some v:=by simpa using O
    cases q:σ[i]? with
    |none=>rw[q] at Y;cases Y
    |some o=>rw[q] at Y;rw[show o=some v from Y]
   have hfl:scope.names.lookup x=some .free:=S.capf x (by rw[Li];exact⟨j,by rw[Df U];exact e1⟩)
   have c8:(x,Br)∈scope.names:=Ct hfl;have hpk:X.env.kindOf x=some .cell∨X.env.kindOf x=some .free:=by exact S.free (x,.free) c8 rfl
   have rq:Vis X.env.scope x:=by
    rcases hpk with z|z
    ·exact .inr (.inl z)
    ·exact .inr (.inr z)
   obtain⟨m,hn,sy⟩:=f.loc;obtain⟨u,ru,l⟩:=sy i x v hNi hσ rq;refine⟨u,ru,?_⟩;rcases l with⟨hk,_⟩|⟨hk,c,ec,z⟩
   ·rcases hpk with q|q<;>rw[hk] at q<;>cases q
   ·obtain⟨c',M⟩:=pk x c8
    have:c'=c:=by
     have:=en x c' M
     rw[ec] at this;exact(Bv this).symm
    subst this;have sr:s.lookup x=none:=by
     cases q:s.lookup x with
     |none=>rfl
     |some d=>
      have:=S.cel (x,.cell) (F x d q).1 rfl
      rw[hfl] at this;cases this
    refine .inr ⟨P8 hfl,c',(QG sr).trans M,?_⟩
    ·obtain⟨o,ho,hd⟩:=z
     exact⟨o,H _ _ ho,hd⟩
  ·rcases X3 e with n1|⟨_,Z⟩
   ·exact⟨none,(F x c n1).2.1⟩
   ·obtain⟨v,o,ho,hd⟩:=f.cell x c (en x c Z)
    exact⟨v,o,H _ _ ho,hd⟩
  ·rcases X3 e with n1|⟨_,Z⟩
   ·exact f.hok.fresh (Ia (F x c n1).2.2)
   ·exact f.freeC x c (en x c Z)
 have uc:∀{pY:List (Rf×Ro)} {k:St} {H':Hp} {s':Af},cA (Y5 X N' scope (s++cl) s1 (upd H2 s2.heap.objs.size (.lst [])) fp) pY k H' s'->cA X aa σ H' s':=λ{pY k H' s'} J'=>
  f.call' J'.os J'.base J'.hok J'.bare λb a=>⟨(f2 b a).2.2.2.1,(f2 b a).2.1,(f2 b a).2.2.2.2.1,(f2 b a).2.2.2.2.2⟩
 have stat:∀{H':Hp} {pY:List (Rf×Ro)},(∀b∈fp,H' b=none)->pY=[]->∀b∈fp,KM (Y5 X N' scope (s++cl) s1 (upd H2 s2.heap.objs.size (.lst [])) fp) pY H' b:=λ{H' pY} hn hp b a=>by subst hp;refine⟨hn b a,(R.exf b a).1,R.exfs b a,.inl a,(R.exf b a).2,λp hp=>absurd (show p∈([]:List (Rf×Ro)) from hp) (by simp)⟩
 have st1:tn 0 B:=T.keep 0 s2.heap B st2 λb a o e=>H b o (qy b o e);have fr1:∀b∈fp,(upd H2 s2.heap.objs.size (.lst [])) b=none:=λb a=>by rw[cL (Bg (jv b a))];exact(f2 b a).1
 have loop:∀t:Af,t={s2 with heap:=B}->
   Kh (Rj X.prog X.w) X.A (.compLoop (.ListComp elt [⟨tg,iter,ifs,0⟩] scope pos) 0 (.ref it) (.ref s2.heap.objs.size) (compEnvC scope (s++cl) s1.heap.objs.size X.env)) (RR (.ref s2.heap.objs.size) s1.heap.objs.size) t:=by
  rintro t rfl;refine kC (λn s'=>∃i k H' acc,cA (Y5 X N' scope (s++cl) s1 (upd H2 s2.heap.objs.size (.lst [])) fp) [] k H' s'/\k.take ix.length=X8 ix σ/\tn i s'.heap/\(∀b∈fp,H' b=none)/\W i n acc H') ?_ m0
   ⟨0,_,_,[],IY,by rw[Cz (by simp[X8])];exact Cg (by simp[X8]),st1,fr1,w0⟩
  rintro n s' ⟨i,k,H',acc,J',hσ,st',fr',w'⟩;have Jc:cA (Y5 X N' scope (s++cl) s1 (upd H2 s2.heap.objs.size (.lst [])) fp) [] (X8 ix σ++Bn nl none) H' s':=by
   refine J'.weak (by rw[jf];exact J'.len.symm) λj v e=>?_;have hl:(X8 ix σ).length=ix.length:=by simp[X8]
   by_cases U:j<ix.length
   ·rw [Ai (by rw [hl];exact U),<- hσ,Df U] at e
    exact e
   ·rw [Ba (by rw [hl];lia),Ea] at e
    split at e<;>cases e
  rcases turn i n acc H' w' with⟨stop,q⟩|⟨go,N,hN,step⟩
  ·refine Cs (T.done (Y5 X N' scope (s ++ cl) s1 (upd H2 s2.heap.objs.size (.lst [])) fp) rfl rfl rfl hc i [] s' _ H' (λ_ _ => False) Jc (stat fr' rfl) st' stop) (λr s4 ⟨hr,I4⟩ => ?_) λ_ _ z => z
   subst hr;have IX:=uc I4;obtain⟨m,hm,_⟩:=I4.loc;exact fin _ _ s4 H' IX ⟨m,hm⟩ (Gu f.lt) (λx c e z=>by
    obtain⟨v,q⟩:=f.cell x c e;have:=q.lt
    rw[z] at this;exact Co _ this) (λσ'' P h'' I'' sb=>cA.offNew f I'' I4.free λb o a e=>(sb.2 b a).trans e) q
  ·refine Cs (T.item (Y5 X N' scope (s ++ cl) s1 (upd H2 s2.heap.objs.size (.lst [])) fp) rfl rfl rfl hc i [] s' _ H' (λ_ _ => False) Jc (stat fr' rfl) st' go) (λr s4 ⟨u,hr,h4⟩ => ?_) λ_ _ z => z
   subst hr;refine Cs h4 (λ_ s5 ⟨x,H5,I5,r5,y5,st5,fr5⟩=>?_) λ_ _ z=>z;have I5':=I5.pinned (stat fr5 rfl) (T.obj _ _ st5);obtain⟨btg,bts,bel⟩:=blk (s++cl) s1 (upd H2 s2.heap.objs.size (.lst [])) fp;refine Cs (btg _ s5 _ H5 x u _ I5' r5 (step x H5 y5)) (λ_ s6 ⟨I,H6,I6,hσ6,q6⟩=>?_) λ_ _ z=>z;have XI:∀{H7:Hp} {s7:Af} {bp:List V},cA (Y5 X N' scope (s++cl) s1 (upd H2 s2.heap.objs.size (.lst [])) fp) ([]++LZ fp s5.heap) I H7 s7->N bp H7->
     ∃m,m<n/\∃i k H' acc,cA (Y5 X N' scope (s++cl) s1 (upd H2 s2.heap.objs.size (.lst [])) fp) [] k H' s7/\k.take ix.length=X8 ix σ/\tn i s7.heap/\(∀b∈fp,H' b=none)/\W i m acc H':=λ{H7 s7 bp} I7 n7=>by
    obtain⟨m',hm,w7⟩:=hN bp H7 n7;refine⟨m',hm,i+1,I,H7,bp,I7.unpinned,hσ6,T.keep _ _ _ st5 λb a o e=>(I7.pin (b,o) (Bu _ (Bu _ (T7 a e)))).1,λb a=>?_,w7⟩;obtain⟨o,e,d⟩:=T.obj _ _ st5 b a;exact(I7.pin (b,o) (Bu _ (Bu _ (T7 a e)))).2.1
   refine Cs (bts _ s6 I H6 _ I6 q6) (λokb s7 ⟨H7,I7,q7⟩=>?_) λ_ _ z=>z;cases okb with
   |false=>exact XI I7 q7
   |true=>
    refine Cs (bel _ s7 I H7 _ I7 q7) (λv s8 ⟨y,H8,I8,r8,hD8,hz8,n8⟩=>?_) λ_ _ z=>z;refine Cs (aM (X:=Y5 X N' scope (s++cl) s1 (upd H2 s2.heap.objs.size (.lst [])) fp) _ s8 I H8 (.ref s2.heap.objs.size) [y] (.ref s2.heap.objs.size) [v] (λ_ H9=>N (acc++[y]) H9) I8 rfl (.cons r8 .nil)
     ⟨s2.heap.objs.size,acc,y,rfl,rfl,hD8,hz8,n8⟩) (λ_ s9 ⟨_,H9,I9,_,n9⟩=>XI I9 n9) λ_ _ z=>z
 have he:({newEnv scope s1.heap.objs.size X.env.globals (s++cl) X.env.qual none .none (some X.env) builtinsNs with scope:=relabel scope X.env}:Env)=compEnvC scope (s++cl) s1.heap.objs.size X.env:=rfl;exact codeAny_compStart_list (loop _ rfl) (T.self _ 0 _ _ _ st1 (loop _ rfl))
theorem jF{X:Cx}{tg iter d:Rk}{a:List Rk}{scope:Rt}{pos:Pos}{N':List Rg}{ix:List Nat}{nl:Nat}{l:TI}{g:TG}{n:TT}{te:TE}(hc:X.calm=true)(S:MR X N' ix scope)(i:N'.length=ix.length+nl)(hi:PI X tg iter l)(k:∀(cl:List (Rg×Rf)) (s1:Af) (H1:Hp) (fp:List Rf),Blk (Y5 X N' scope cl s1 H1 fp) tg a d g n te)(v:∀x,Rp iter X.env x=pure x:=by intro _;rfl):PE X (.ListComp d [⟨tg,iter,a,0⟩] scope pos) (CF ix nl l g n te):=by intro aa s σ H Q I h;rw[eval_ListComp];obtain⟨cl,M,L,K⟩:=AM (env:=X.env) (scope:=scope) λy u B=>I.ok.has y.1 (S.free y u B);refine Kb (use:=none) (cl:=cl) rfl v M S.kind S.names (Cs (hi aa s σ H _ I h) (λP p c=>Cs c (λt o b=>?_) λ_ _ e=>e) λ_ _ e=>e);obtain⟨it,fp,R,J,H2,e,N,T,f,f2,q⟩:=b;subst e;refine K8 (Q:=Q) (RR:=λacc C=>compPost (Rj X.prog X.w) X.A X.xe none (EP X aa σ Q) acc C) hc S i L K k N T f f2 q ?_;intro D C s' H' O j G F E z;obtain⟨m,j⟩:=j;exact⟨m,j,λh'' r=>⟨.ref D,H',E σ s' h'' O r,rfl,z⟩⟩
section
variable{X:Cx}{K:Al}{ml:List Nat}{pi pt pe pu:Bool}{pos:Pos}{ix:List Nat}{nl:Nat}{f:VF}
noncomputable def K7(N N':List Rg)(ix:List Nat)(names:List (Rg×Rs))(k:Rg->Option Rs):Bool:=
 names.all (λy=>y.2 != .cell || names.lookup y.1==some .cell)&&(names.all (λy=>y.2 != .local || names.lookup y.1==some .local)&&(names.all (λy=>y.2 != .free || (k y.1==some .cell || k y.1==some .free)) &&
  (decide N'.Nodup&&((Bh ix.length).all (λj=>N'[j]? ==(ix[j]?).bind λi=>N[i]?)&&(N'.take ix.length).all λx=>names.lookup x==some .free))))
theorem V9{N':List Rg}{scope:Rt}(hk:scope.kind=.function)(h:K7 X.N N' ix scope.names X.env.kindOf=true):MR X N' ix scope:=by unfold K7 at h;simp only[Ah,Fy,Hj,bne_iff_ne,beq_iff_eq,decide_eq_true_eq,Ck] at h;obtain⟨h1,h2,f,d,c,b⟩:=h;exact⟨hk,λy a e=>(h1 y a).resolve_left λz=>z e,λy a e=>(h2 y a).resolve_left λz=>z e,λy a e=>(f y a).resolve_left λz=>z e,d,c,b⟩
abbrev BlkC(X:Cx)(K:Al)(N':List Rg)(ix:List Nat)(scope:Rt)(tg:Rk)(a:List Rk)(b:Rk)(gg:VG)(pt:Bool)(tb:VB)(pe:Bool)(fe:VF):Prop:=N'.Nodup->∀(cl:List (Rg×Rf)) (s1:Af) (H1:Hp) (fp:List Rf),Blk (Y5 X N' scope cl s1 H1 fp) tg a b (TGV K (Bh ix.length) gg) (TB K (Bh ix.length) pt tb) (TV K (Bh ix.length) pe true true fe)
theorem aA{tg iter c:Rk}{a:List Rk}{scope:Rt}{g:VI}{gg:VG}{tb:VB}{fe:VF}(N':List Rg)(ix:List Nat)(nl:Nat)(hi:PI X tg iter (TIV K ml pi g))(f:BlkC X K N' ix scope tg a c gg pt tb pe fe)(hc:X.calm=true:=by rfl)(hk:scope.kind=.function:=by rfl)(b:K7 X.N N' ix scope.names X.env.kindOf=true:=by rfl)(d:N'.length=ix.length+nl:=by rfl)(e:ix.Nodup:=by decide)(i:∀x,Rp iter X.env x=pure x:=by intro _;rfl):PE X (.ListComp c [⟨tg,iter,a,0⟩] scope pos) (TN K ml (pi&&pt&&pe) (ZR ix nl g gg tb fe)):=
 (jF hc (V9 hk b) d hi (f (V9 hk b).nd) i).imp λ_ _ _ h=>CH e h
theorem GA{i:Nat}{y:Rg}{d U:Pos}{tg iter c:Rk}{b:List Rk}{scope:Rt}{N':List Rg}{M:TI}{g:TG}{O:TT}{te:TE}(hN:X.N.Nodup)(B:X.N[i]?=some y)(k:X.env.scope.names.lookup y=some .local)(hc:X.calm=true)(S:MR X N' ix scope)(t:N'.length=ix.length+nl)(hi:PI X tg iter M)(K:∀(cl:List (Rg×Rf)) (s1:Af) (H1:Hp) (fp:List Rf),Blk (Y5 X N' scope cl s1 H1 fp) tg b c g O te)(o:Er (.ListComp c [⟨tg,iter,b,0⟩] scope pos) (some (.Name y d)) U.line X.env=pure true:=by rfl)(Z:∀x,Rp iter X.env x=pure x:=by intro _;rfl):PS X (.Assign [.Name y d] (.ListComp c [⟨tg,iter,b,0⟩] scope pos) U) (tAsg (CF ix nl M g O te) (AW i)):=by
 intro aa s σ H D I h;rw[exec_Assign_Name_used _ _ _ _ o];refine Ac (Gj (Ac ?_));show Rh _ X.A (do let _<-comprehension (.ListComp c [⟨tg,iter,b,0⟩] scope pos) scope X.env _ (newList []) false (eval iter X.env) (some (assign (.Name y d) X.env))) _ _ s;obtain⟨cl,e1,e2,e3⟩:=AM (env:=X.env) (scope:=scope) λy k hf=>I.ok.has y.1 (S.free y k hf);refine Ac (Cs (Kb (use:=some (assign (.Name y d) X.env)) (cl:=cl) (Q:=λ_ s'=>SP X aa D .next s') rfl Z e1 S.kind S.names
  (Cs (hi aa s σ H _ I h) (λxv R j=>Cs j (λY P f=>?_) λ_ _ e=>e) λ_ _ e=>e)) (λ_ s' r=>Am (Am r)) λ_ _ e=>e)
 obtain⟨it,fp,tn,J,H2,e,I2,T,l,f2,q⟩:=f;subst e;refine K8 (Q:=λv H'=>D.nx (σ.set i (some v)) H') (RR:=λacc C=>compPost (Rj X.prog X.w) X.A X.xe (some (assign (.Name y d) X.env)) (λ_ s'=>SP X aa D .next s') acc C) hc S t e2 e3 K I2 T l f2 q ?_;intro V C s' H' I' u G F hb r;obtain⟨m,u⟩:=u;show Rh _ X.A (assign (.Name y d) X.env (.ref V)) _ _ _;refine Hr (KA I' hN B (.inl k) (v:=.ref V) rfl (λn L ⟨a,p,ha⟩=>?_) (.inr k));have E:C≠a:=by
  rcases ha with z|z
  ·rw[z];exact G
  ·exact Cq (F y a z)
 exact⟨m,u.sameBut p E,λh'' W=>⟨_,H',hb _ n h'' L W,r⟩⟩
theorem pA{i:Nat}{y:Rg}{l m:Pos}{tg iter b:Rk}{a:List Rk}{scope:Rt}{j:VI}{gg:VG}{tb:VB}{fe:VF}(o:Bool)(r:X.N.Nodup)(N':List Rg)(ix:List Nat)(nl:Nat)(hi:PI X tg iter (TIV K ml pi j))(k:BlkC X K N' ix scope tg a b gg pt tb pe fe)(g:X.N[i]?=some y:=by rfl)(n:X.env.scope.names.lookup y=some .local:=by rfl)(hc:X.calm=true:=by rfl)(hk:scope.kind=.function:=by rfl)(c:K7 X.N N' ix scope.names X.env.kindOf=true:=by rfl)(e:N'.length=ix.length+nl:=by rfl)(f:ix.Nodup:=by decide)(q:i∉ml:=by decide)(d:Er (.ListComp b [⟨tg,iter,a,0⟩] scope pos) (some (.Name y l)) m.line X.env=pure true:=by rfl)(p:∀x,Rp iter X.env x=pure x:=by intro _;rfl):PS X (.Assign [.Name y l] (.ListComp b [⟨tg,iter,a,0⟩] scope pos) m) (TC K ml (aL i (if o then xO (ZR ix nl j gg tb fe) else xV (ZR ix nl j gg tb fe)))):=
 (GA r g n hc (V9 hk c) e hi (k (V9 hk c).nd) d p).imp λD σ H h=>Vj (λσ H Q z=>CH f (Vp (pu:=pi&&pt&&pe) z)) q h
end
section
variable{X:Cx}{K:Al}{ml:List Nat}{e a b c:Rk}{es:List Rk}{pi pt pe pu bt bi ps bs:Bool}{f:VF}{B B':Bs}{O:Nat->Option Rf}{H H0 H1 H':Hp}{σ:St}{δ δ':Ev}{v:V}{d:c6}{p:Rf}{pos:Pos}{ix:List Nat}{nl:Nat}
def Wm(K:Al)(N:Rf->Prop)(J:It)(H:Hp)(ds:List c6):Prop:=∃xs:List V,b6 K N H xs ds/\∀H2,aH H H2->(∀(i:Nat) (x:V),xs[i]?=some x->J.go i H2/\∀y a,J.yld i H2 y a->a=H2/\y=x)/\J.stop xs.length H2
def TIVp(K:Al)(ml:List Nat)(f:VI):TI:=λσ H R=>∃B O δ ds δ',Z6 K ml B O H σ δ/\f δ=some (ds,δ')/\∀J H',Z6 K ml B O H' σ δ'->aH H H'->Wm K (Nn B O) J H' ds->R J H'
theorem pU{fi:VI}{gg:VG}{tb:VB}{fe:VF}(hnd:ix.Nodup){Q:VK}(h:TN K ml true (ZR ix nl fi gg tb fe) σ H Q):CF ix nl (TIVp K ml fi) (TGV K (Bh ix.length) gg) (TB K (Bh ix.length) true tb) (TV K (Bh ix.length) true true true fe) σ H Q:=by
 obtain⟨B,O,δ,d,δ2,S,q,k⟩:=h;unfold ZR at q;obtain⟨⟨ds,δ1⟩,h1,q⟩:=Aa.mp q;have q:((ZZ ix.length nl gg tb fe ds [] (bL ix δ1)).map λq=>(c6.lst q.1,YC ix q.2 δ1))=some (d,δ2):=q;obtain⟨⟨res,g⟩,h2,q⟩:=At.mp q;cases q;refine⟨B,O,δ,ds,δ1,S,h1,λJ H0 F p0 wk D s=>?_⟩;obtain⟨els,N,wk⟩:=wk;have hDO:∀j,Oc ix O j≠some D:=λj e=>by unfold Oc at e;obtain⟨i,hi,e⟩:=Aa.mp e;obtain⟨o,q⟩:=F.nin (.inr ⟨i,e⟩);rw[s] at q;cases q
 have gf:∀kp j,ix.length<=j->(Bc ix B O H0 D kp).mu j=none:=λkp j T=>by show(ix[j]?).bind O=none;rw[Ci T];rfl
 refine⟨λi m acc H1=>m=ds.length - i/\i<=ds.length/\∃(f:List c6) (c:Ev),c.length=ix.length/\acc.length=f.length∧
   Z6 K (Bh ix.length) (Bc ix B O H0 D (acc.zip f)) (Oc ix O) H1 (X8 ix σ++Bn nl none) (c++HU nl)/\H1 D=some (.lst acc)/\aH H0 H1∧
   ZZ ix.length nl gg tb fe (ds.drop i) f c=some (res,g),
  ⟨ds.length,rfl,Dg _,[],bL ix δ1,by simp[bL],rfl,by rw[Nd];exact F.inner s hnd λp I=>(nomatch I),cN,cS s,h2⟩,?_⟩
 rintro i m acc H1 ⟨rfl,hi,f,c,R,Y,S1,E,X,hc⟩;have w:=wk H1 X;have r9:b6 K (Nn (Bc ix B O H0 D (acc.zip f)) (Oc ix O)) H1 els ds:=(N.away s _ _ NU).same X;by_cases A:i<ds.length
 ·obtain ⟨ex,ex1,ex2⟩ := r9.get (i := i) (d := ds[i]) (by simp [A])
  obtain⟨go,yl⟩:=w.1 i ex ex1;rw[Fj A] at hc;simp only[ZZ] at hc;obtain⟨M,g1,hc⟩:=Aa.mp hc;obtain⟨⟨kk,r⟩,g2,hc⟩:=Aa.mp hc;refine .inr ⟨go,λbp H'=>∃(f:List c6) (c:Ev),c.length=ix.length/\bp.length=f.length∧
   Z6 K (Bh ix.length) (Bc ix B O H0 D (bp.zip f)) (Oc ix O) H' (X8 ix σ++Bn nl none) (c++HU nl)/\H' D=some (.lst bp)/\aH H0 H'∧
   ZZ ix.length nl gg tb fe (ds.drop (i+1)) f c=some (res,g),λbp H' w'=>⟨ds.length - (i+1),by lia,rfl,A,w'⟩,λx H2 hy=>?_⟩
  obtain⟨rfl,rfl⟩:=yl x H2 hy;have rx:=ex2;have Z:=aH.refl H2;refine⟨_,_,_,ds[i],M,S1.same Z,rx,g1,λσ3 O3 S3 m3=>?_⟩;have y:=AK m3;have l:=KD y m3;refine⟨l,_,_,M,kk,r,S3,g2,λH4 G=>?_⟩;have W:H4 D=some (.lst acc):=G.frm _ _ (Z _ _ E) λz=>by
   obtain⟨j,e⟩:=z;have:=(G.sta.old j D e).1
   exact absurd (.inl (.inr rfl)) this
  have ln4:ix.length<=r.length:=by rw[<-G.sta.len];exact y
  cases kk with
  |false=>
   rw[if_neg Dr] at hc;refine HN ⟨f,r.take ix.length,by rw[Cw];lia,Y,G.sta.turn (gf _) (VR ix σ) l ln4,W,?_,hc⟩;exact(X.trans Z).trans (G.pur rfl)
  |true=>
   rw[if_pos rfl] at hc;obtain⟨⟨dv,u⟩,g3,hc⟩:=Aa.mp hc;split at hc
   ·rename_i hz
    refine HP ⟨_,_,r,dv,u,G.sta,g3,λv H5 t=>?_⟩;have V:H5 D=some (.lst acc):=t.frm _ _ W λz=>by
     obtain⟨j,e⟩:=z;have:=(t.sta.old j D e).1
     exact absurd (.inl (.inr rfl)) this
    have ln5:ix.length<=u.length:=by rw[<-t.sta.len];exact y
    have S6:=t.sta.turn (nl:=nl) (gf _) (VR ix σ) l ln5;have hv:bB K (Nn (Bc ix B O H0 D (acc.zip f)) (Oc ix O)) H5 (Nn (Bc ix B O H0 D (acc.zip f)) (Oc ix O)) v dv:=by
     have hN:∀a,Nn (Bc ix B O H0 D (acc.zip f)) (Oc ix O) a->av (Bc ix B O H0 D (acc.zip f)) O3 true a:=λa h=>by
      rcases h with h|⟨j,h⟩
      ·exact .inl h
      ·refine .inr ⟨j,?_⟩
       have T:j∈Bh ix.length:=t.sta.par.1 j a h;rw[t.sta.par.2 j T];exact h
     exact t.rep.mono hN hN
    have S7:=S6.withKp (kp:=(acc++[v]).zip (f++[dv])) λp I=>by
     rw[Ov Y] at I;rcases Bz.mp I with z|z
     ·exact S6.kep p z
     ·rw[Az.mp (show p∈[(v,dv)] from z)]
      exact hv
    refine⟨V,by rw[Y,Cm];exact hz,f++[dv],u.take ix.length,by rw[Cw];lia,by simp[Y],?_,cN,?_,hc⟩
    ·exact S7.writeZ (.inl (.inr rfl)) V s
    ·intro b o e
     have C:b≠D:=λz=>by rw[z,s] at e;cases e
     rw[cL C];exact((X.trans Z).trans ((G.pur rfl).trans (t.pur rfl))) b o e
   ·cases hc
 ·have e : i = ds.length := by lia
  subst e;rw[Ij] at hc;cases hc;refine .inl ⟨by rw[<-N.length];exact w.2,k D H1 ?_⟩;have fP:Fr (OA (Oc ix O)) H0 H1:=S1.frm;have U:∀a,OA (Oc ix O) a->OA O a:=λa q0=>by
   obtain⟨j,e⟩:=q0;unfold Oc at e;cases hi:ix[j]? with
   |none=>rw[hi] at e;cases e
   |some i=>rw[hi] at e;exact⟨i,e⟩
  have SL:=F.laid (o:=.lst acc) s;have fL:Fr (OA (Oc ix O)) (upd H0 D (.lst acc)) H1:=⟨λb o e n=>by
   by_cases C:b=D
   ·subst C
    rw[cN] at e;cases e;exact E
   ·rw[cL C] at e
    exact fP b o e n,λb _ _ _ _ _ _ _ _ e=>by
   by_cases C:b=D
   ·subst C
    rw[cN] at e;cases e
   ·rw[cL C] at e
    exact fP.ft _ _ _ _ _ _ _ _ _ e⟩
  refine⟨SL.call (UM) (λi=>?_) fL U,(p0.fr (P:=OA O)).trans (fP.mono U),λz=>?_,.lst E (UC Y λp I=>(S1.kep p I).mono OU OU),F.new s,F.fresh s⟩
  ·by_cases gh:i<δ1.length
   ·rcases UL (ix:=ix) (ss:=g) (δ:=δ1) i gh R.symm with⟨j,x,e1,e2,e3⟩|⟨e1,e2⟩
    ·have e4:(g++HU nl)[j]? =some (.ow x):=by rw[Ai (Ag.mp e2).1];exact e2
     obtain⟨a,e5,_,w⟩:=S1.ow j x e4;refine .inr ⟨a,x,?_,e3,w.mono OU⟩;unfold Oc at e5;rw[e1] at e5;exact e5
    ·refine .inl ⟨e2,λa ea ⟨j,L⟩ => ?_⟩
     obtain⟨x,ex⟩:=S1.dom j a L;unfold Oc at L;cases hi:ix[j]? with
     |none=>rw[hi] at L;cases L
     |some i'=>
      rw[hi] at L;have:i=i':=F.inj i i' a ea L
      subst this;have T:j<g.length:=by rw[R];exact(Ag.mp hi).1
      rw[Ai T] at ex;exact e1 j x hi ex
   ·refine .inl ⟨?_,λa ea => ?_⟩
    ·rw[Ci (by rw[UM];lia),Ci (by lia)]
    ·obtain⟨x,ex⟩:=F.dom i a ea
     exact absurd (Ag.mp ex).1 gh
  ·exact p0.trans X
theorem aH.sqT{a:Rf}{xs:List V}(s:aH H H')(h:UV K H a xs):UV K H' a xs:=Fr.tup (P:=λ_=>False) s.fr h
theorem dP{tg:Rk}(n:X.K=K)(h:PE X e (TV K ml true bt bi f))(o:bi=true:=by rfl):PI X tg e (TIVp K ml (WO f)):=by
 subst o;refine((Tp (K:=K) n h).or (Ug (K:=K) n h)).imp λσ H R g=>?_;obtain⟨B,O,δ,ds,δ',S,q,k⟩:=g;unfold WO at q;obtain⟨⟨x,δ1⟩,h1,q⟩:=Aa.mp q;cases x with
 |lst m=>
  cases q;refine .inl ⟨B,O,δ,_,δ1,S,h1,λv H1 c=>?_⟩;obtain⟨a,xs,rfl,sq,r⟩:=c.rep.lstE;refine⟨a,rfl,⟨xs,sq⟩,k _ H1 c.sta (c.pur rfl) ⟨xs,r,λH2 b=>⟨λi x ex=>⟨⟨xs,x,b.seq sq,ex⟩,λy p d=>?_⟩,xs,b.seq sq,Au _⟩⟩⟩;obtain⟨l,j⟩:=d;have:=j xs (b.seq sq)
  rw[ex] at this;cases this;exact⟨l,rfl⟩
 |tup m=>
  cases q;refine .inr ⟨B,O,δ,_,δ1,S,h1,λv H1 c=>?_⟩;obtain⟨a,xs,rfl,sq,r⟩:=c.rep.tupE;refine⟨a,rfl,⟨xs,sq⟩,k _ H1 c.sta (c.pur rfl) ⟨xs,r,λH2 b=>⟨λi x ex=>⟨⟨xs,x,b.sqT sq,ex⟩,λy p d=>?_⟩,xs,b.sqT sq,Au _⟩⟩⟩;obtain⟨l,j⟩:=d;have:=j xs (b.sqT sq)
  rw[ex] at this;cases this;exact⟨l,rfl⟩
 |_=>cases q
theorem lV{i:Nat}{y:Rg}{l m:Pos}{tg iter b:Rk}{a:List Rk}{scope:Rt}{j:VI}{gg:VG}{tb:VB}{fe:VF}(o:Bool)(s:X.N.Nodup)(N':List Rg)(ix:List Nat)(nl:Nat)(hi:PI X tg iter (TIVp K ml j))(k:BlkC X K N' ix scope tg a b gg pt tb pe fe)(g:X.N[i]?=some y:=by rfl)(n:X.env.scope.names.lookup y=some .local:=by rfl)(hc:X.calm=true:=by rfl)(hk:scope.kind=.function:=by rfl)(c:K7 X.N N' ix scope.names X.env.kindOf=true:=by rfl)(e:N'.length=ix.length+nl:=by rfl)(f:ix.Nodup:=by decide)(q:(pt&&pe)=true:=by rfl)(r:i∉ml:=by decide)(d:Er (.ListComp b [⟨tg,iter,a,0⟩] scope pos) (some (.Name y l)) m.line X.env=pure true:=by rfl)(p:∀x,Rp iter X.env x=pure x:=by intro _;rfl):PS X (.Assign [.Name y l] (.ListComp b [⟨tg,iter,a,0⟩] scope pos) m) (TC K ml (aL i (if o then xO (ZR ix nl j gg tb fe) else xV (ZR ix nl j gg tb fe)))):=by obtain⟨h1,h2⟩:=(Ah _ _).mp q;subst h1 h2;exact(GA s g n hc (V9 hk c) e hi (k (V9 hk c).nd) d p).imp λD σ H h=>Vj (λσ H Q z=>pU f (Vp (pu:=true) z)) r h
end
section
variable{X:Cx}{K:Al}{ml:List Nat}{e a b c:Rk}{es:List Rk}{pa ta ia pb tb ib pc tc ic pu bt bi ps bs:Bool}{fa fb fc f:VF}{B B':Bs}{O:Nat->Option Rf}{H H1 H':Hp}{σ:St}{δ δ':Ev}{v:V}{d:c6}{p:Rf}{pos:Pos}
structure CT(K:Al)(x qual:Rg)(st:Rq)(dV:Rc)(f:Rf)(fd:Ds):Prop where
 ex:∃(oc:Rc) (od:Option Rf) (kV doc pm:Rc) (an:Option Rf) (cdv ct:Rc) (osl:Array (Option Rc)),
  fd=Hm x qual (Z0 st) (aU st) (cV st) dV kV doc pm an cdv ct/\K.lookup f=some ⟨oc,od,.func fd,osl⟩/\Iq K cdv qual=true
 kp:Eu K (.ref f)=true
theorem pC{x a:Rg}{st:Rq}{g:Rc}{f:Rf}{i:Rc}{od h:Option Rf}{d:Array (Option Rc)}{kV doc e b ct:Rc}(l:K.lookup f=some ⟨i,od,.func (Hm x a (Z0 st) (aU st) (cV st) g kV doc e h b ct),d⟩)(c:Iq K b a=true)(k:Eu K (.ref f)=true):CT K x a st g f (Hm x a (Z0 st) (aU st) (cV st) g kV doc e h b ct):=⟨⟨i,od,kV,doc,e,h,b,ct,d,rfl,l,c⟩,k⟩
theorem CT.okV{P:Bb}{w:Rl}{mg:Rg->Option Rc}{base:Rn}{x a:Rg}{st:Rq}{n:Rc}{f:Rf}{fd:Ds}{N ps:List Rg}{k:Nat}{g:VS}(F:CT K x a st n f fd)(S:cM N ps (cV st))(d:ps.length<=N.length)(o:∀(b:Rc) (A:Cn) (outer:List Env) (s:Af) (H:Hp) (E:XK),ZD k (A.deeper (Js a (cV st) s.heap.objs.size f b))->PF (KS CX0 P w K mg base N a (cV st) f b A outer s H E).nox (aU st) (TC K ml g)):bO P w K mg base CX0 (k+1) f fd ps (spV K ml ps.length (bD N.length ml g)):=by obtain⟨q,od,kV,doc,p,t,b,ct,i,rfl,j,e⟩:=F.ex;refine Tx j e S (λvs H Q E h=>?_) λA outer s H vs Q E l c=>⟨_,(o b A outer s H E l).nox,Tn d c⟩;obtain⟨Z,ds,r,os,m,AV,_⟩:=h;rw[AV.len,m]
theorem CT.binds{x a:Rg}{st:Rq}{T f:Rf}{fd:Ds}{ps:List Rg}{o:Ro}{its:Array Rc}{n m:Nat}{ds:List Rc}(F:CT K x a st (.ref T) f fd)(i:K.lookup T=some o)(g:o.data=.seq its n)(h:∀(kV doc c:Rc) (d:Option Rf) (b ct:Rc) (us:List Rc),us.length=m->∃k,bindArgs (Hm x a (Z0 st) (aU st) (cV st) (.ref T) kV doc c d b ct) ⟨us,[]⟩=seqItems? (.ref T)>>=k/\k (some its)=pure (ps.zip (us++ds)))(r:m+ds.length=ps.length:=by rfl):WI K fd ps ds:=by obtain⟨p,od,kV,doc,c,d,b,ct,e,rfl,q,j⟩:=F.ex;intro s us l hl;obtain⟨k,h1,h2⟩:=h kV doc c d b ct us (by rw[Ao] at hl;lia);exact BindsTo.of_defaults rfl (l _ _ i) g h1 h2
structure DefD(P:Bb)(w:Rl)(K:Al)(mg:Rg->Option Rc)(base:Rn)(x:Rg)(k:Nat)(ps:List Rg)(sp:Sp)(f:Rf)(v0:V):Prop where
 at_:mg x=some (.ref f)
 ok:∃fd u0,bO P w K mg base CX0 k f fd ps sp/\WI K fd ps [u0]/\bR v0 u0
 kp:Eu K (.ref f)=true
def dflt(F:b8)(d:c6):b8:=λds=>F (ds++[d])
theorem kT{mF:List Nat}{m:Nat}{F:b8}{vs:List V}{Q:VK}{E:XK}(D:∀N H M,bB K N H M v d)(G:∀a,v≠ .ref a)(h:spV K mF m (dflt F d) vs H Q E):spV K mF (m+1) F (vs++[v]) H Q E:=by
 obtain⟨Z,ds,r,os,hl,A,I,k⟩:=h;have s:∀(i:Nat) (a:Rf),(vs++[v])[i]?=some (.ref a)->vs[i]?=some (.ref a):=λi a h=>by
  by_cases hi:i<vs.length
  ·rwa[Ai hi] at h
  ·rw [Ba (by lia)] at h
   cases b:i - vs.length with
   |zero=>rw[b] at h;cases h;exact absurd rfl (G a)
   |succ j=>rw[b] at h;simp at h
 have n:∀(i:Nat) (u:V),vs[i]?=some u->(vs++[v])[i]?=some u:=λi u h=>by rw[Ai (Ag.mp h).1];exact h
 have y:∀a,PK mF (vs++[v]) a->PK mF vs a:=λa ⟨i,hi,e⟩=>⟨i,hi,s i a e⟩;have q:∀a,PK mF vs a->PK mF (vs++[v]) a:=λa ⟨i,hi,e⟩=>⟨i,hi,n i _ e⟩;have p:∀a,Zp Z mF (vs++[v]) a->Zp Z mF vs a:=λa h=>h.imp id (y a);have g:∀a,Zp Z mF vs a->Zp Z mF (vs++[v]) a:=λa h=>h.imp id (q a);refine⟨Z,ds++[d],r,os,by simp[hl],⟨by simp[A.len],λi hi=>?_,λi x hi e=>?_,λi x hi e=>?_,λi j a hi b l t=>A.inj i j a hi b (s i a l) (s j a t),A.zin⟩,I,λu H' f w C=>k u H' (f.mono y) (λkk i a o l t J=>(w kk i a o l (n i _ t) J).mono g) (C.mono g g)⟩
 ·have:=A.mem i hi
  simp;lia
 ·by_cases c:i<ds.length
  ·rw[Ai c] at e
   obtain⟨u,l,r1⟩:=A.va i x hi e;exact⟨u,n i u l,r1.mono p p⟩
  ·rw [Ba (by lia)] at e
   cases b:i - ds.length with
   |zero=>
    rw[b] at e;cases e;have:i=vs.length:=by have:=A.len;lia
    subst this;exact⟨v,by rw[Ba (by lia)];simp,D _ _ _⟩
   |succ j=>rw[b] at e;simp at e
 ·have c:=A.mem i hi
  rw[Ai c] at e;obtain⟨u,l,B,z⟩:=A.ow i x hi e;exact⟨u,n i _ l,B.mono p,z⟩
theorem GU{x:Rg}{kk j m:Nat}{qs:List Rg}{mF:List Nat}{F:b8}{ff:Rf}{p':Pos}{fs:NM}(p:X.K=K)(D:DefD X.prog X.w K X.mg X.base x kk qs (spV K mF (m+1) F) ff v)(f:∀N H M,bB K N H M v d)(i:∀a,v≠ .ref a)(g:ZD j X.A)(hk:kk<=j)(l:Gl X x)(o:PA X (e::es) (CW K ml ps fs))(c:(x==("__debug__":Rg))=false:=by decide)(n:Ae (e::es) X.env=(false,eval e X.env)::Ae es X.env:=by rfl)(b:(Dx pos (Ae es X.env)).any (·.1)=false:=by rfl):PE X (.Call (.Name x p') (e::es) [] pos) (TV K ml (ps&&mF.isEmpty) true true (cQ m mF (dflt F d) fs)):=by subst p;obtain⟨fd,t,r,s,hd⟩:=D.ok;refine(BN r (g.mono hk) l D.at_ D.kp s (.cons hd .nil) F7 o c n b).imp λσ H Q h=>?_;obtain⟨B,O,δ,as,δ',S,q,k⟩:=M8 h;exact⟨B,O,δ,as,δ',S,q,λvs H' R=>kT f i (by have z:spV X.K mF m (dflt F d) (vs++[]) H' Q E0:=k vs H' R;rwa[Bp] at z)⟩
noncomputable def VZ:List (Rg×b8)->Rg->Option b8
 |[],_=>none
 |(y,F)::r,x=>if y=x then some F else VZ r x
def AG(X:Cx)(K:Al)(mF:List Nat)(n:Nat)(tb:List (Rg×b8)):Prop:=∀x F a,VZ tb x=some F->Ge K Ri x=some (some (.ref a))->FnAt X a (spV K mF n F)
theorem Xw{mF:List Nat}{n:Nat}:AG X K mF n []:=λ_ _ _ h=>nomatch h
theorem V0{x:Rg}{kk j n:Nat}{qs:List Rg}{mF:List Nat}{F:b8}{ff:Rf}{tb:List (Rg×b8)}(f:X.K=K)(d:∀x a,Ge K Ri x=some (some (.ref a))->X.mg x=some (.ref a))(c:ZD j X.A)
  (D:Def X.prog X.w K X.mg X.base x kk qs (spV K mF n F) ff) (hk:kk<=j) (t:AG X K mF n tb):AG X K mF n ((x,F)::tb):=λy G a h1 h2=>by
 unfold VZ at h1;split at h1
 ·rename_i b
  subst b;cases h1;have e:=(d x a h2).symm.trans D.at_;cases e;subst f;exact D.fnAt c hk
 ·exact t y G a h1 h2
noncomputable def LF(n:Nat)(mF:List Nat)(tb:List (Rg×b8))(i:Nat)(fs:NM):VF:=λδ=>match δ[i]? with
 |some (.va (.fn x))=>(VZ tb x).bind λF=>cQ n mF F fs δ
 |_=>none
theorem Xu{y:Rg}{i n:Nat}{mF:List Nat}{tb:List (Rg×b8)}{p':Pos}{fs:NM}(c:AG X K mF n tb)(f:PE X (.Name y p') (XT i))(j:PA X (e::es) (CW K ml ps fs))(g:Ae (e::es) X.env=(false,eval e X.env)::Ae es X.env:=by rfl)(a:(Dx pos (Ae es X.env)).any (·.1)=false:=by rfl):
  PE X (.Call (.Name y p') (e::es) [] pos) (TV K ml (ps&&mF.isEmpty) true true (LF n mF tb i fs)):=(Ym f j g a).imp λσ H Q h=>by
 obtain⟨B,O,δ,d,δ',S,q,k⟩:=h;unfold LF at q;split at q
 ·rename_i x b
  obtain⟨F,l,q⟩:=Aa.mp q;obtain⟨v,m,r⟩:=S.va i _ b;cases r with
  |fn h=>
   refine⟨_,m,_,_,rfl,c x F _ l h,?_⟩;obtain⟨B,O,δ,as,δ',S,q,k⟩:=M8 (F:=F) (fs:=fs) (K:=K) (ml:=ml) (ps:=ps) (n:=n) (mF:=mF) (σ:=σ) (H:=H) (Q:=Q) ⟨B,O,δ,d,δ',S,q,k⟩;exact⟨B,O,δ,as,δ',S,q,λvs H' R=>by have z:spV K mF n F (vs++[]) H' Q E0:=k vs H' R;rwa[Bp] at z⟩
 ·cases q
end
section
variable{X:Cx}{K:Al}{ml:List Nat}{e a b c:Rk}{es:List Rk}{pa ta ia pb tb ib pc tc ic pu bt bi ps bs:Bool}{fa fb fc f:VF}{pos p':Pos}{d:c6}{x:Rg}
theorem vv(i:Nat)(c:X.N[i]?=some x:=by rfl)(b:Vis X.env.scope x:=by first|exact Gx rfl|exact Fx (Gx rfl)|exact Fx (Fx rfl))(hd:(x==("__debug__":Rg))=false:=by decide)(a:(x==("__classdict__":Rg))=false:=by decide):PE X (.Name x pos) (TV K ml true true true (fV i)):=Ww (D0 c b hd a)
theorem vo(i:Nat)(c:X.N[i]?=some x:=by rfl)(b:Vis X.env.scope x:=by first|exact Gx rfl|exact Fx (Gx rfl)|exact Fx (Fx rfl))(hd:(x==("__debug__":Rg))=false:=by decide)(a:(x==("__classdict__":Rg))=false:=by decide):PE X (.Name x pos) (TV K ml true false true (fO i)):=lO (D0 c b hd a)
theorem aT(d:X.A.units+1<cLine)(g:PE X a (TV K ml pa ta ia fa))(f:PE X b (TV K ml pb tb ib fb))(h:X.K=K:=by rfl)(c:G1 b:=by exact λ_ _=>rfl)(e:(pb || (ta&&ia))=true:=by rfl):PE X (.Subscript a b pos) (TV K ml (pa&&pb) ia ia (f2 cH fa fb)):=
 jO (kIxA h d) Zl g f c e
theorem veq(c:X.A.units+64<cLine)(f:PE X a (TV K ml pa ta ia fa))(e:PE X b (TV K ml pb tb ib fb))(g:X.K=K:=by rfl)(d:(pb || (ta&&ia))=true:=by rfl):PE X (.Compare a [.Eq] [b] pos) (TV K ml (pa&&pb) true true (f2 XF fa fb)):=
 X6 (kEqD g c) s_eq f e (bQ _) d
theorem XV(c:X.A.units+64<cLine)(f:PE X a (TV K ml pa ta ia fa))(e:PE X b (TV K ml pb tb ib fb))(g:X.K=K:=by rfl)(d:(pb || (ta&&ia))=true:=by rfl):PT X (.Compare a [.Eq] [b] pos) (TB K ml (pa&&pb) (fB (f2 XF fa fb))):=
 bY (kEqD g c) s_eq f e (bQ _) d
theorem bT{kk j n:Nat}{qs:List Rg}{mF:List Nat}{F:b8}{ff:Rf}{fs:NM}(D:Def X.prog X.w K X.mg X.base x kk qs (spV K mF n F) ff)(c:ZD j X.A)(g:PA X (e::es) (CW K ml ps fs))(h:X.K=K:=by rfl)(hk:kk<=j:=by decide)(d:Gl X x:=by rfl)(b:(x==("__debug__":Rg))=false:=by decide)(f:Ae (e::es) X.env=(false,eval e X.env)::Ae es X.env:=by rfl)(a:(Dx pos (Ae es X.env)).any (·.1)=false:=by rfl):PE X (.Call (.Name x p') (e::es) [] pos) (TV K ml (ps&&mF.isEmpty) true true (cQ n mF F fs)):=mQ h D c hk d g b f a
theorem YV(b:X.mg "len"=none)(e:PE X a (TV K ml pa ta ia fa))(f:X.K=K:=by rfl)(c:Gl X "len":=by rfl)(d:Ae (a::[]) X.env=(false,eval a X.env)::Ae [] X.env:=by rfl):PE X (.Call (.Name "len" p') [a] [] pos) (TV K ml pa true true (f1 ZO fa)):=
 GS (lC f) mX c b fK e (by decide) (by decide) d
theorem vty{n:String}(c:X.mg x=none)(a:Bm x=some (.type n))(d:Gl X x:=by rfl)(b:x≠ "__name__":=by decide)(hd:(x==("__debug__":Rg))=false:=by decide):PE X (.Name x pos) (TV K ml true true true (fC (.ty n))):=
 AA (Wi (v:=.ty n) d c a rfl b hd) λ_ _ _=>.ty _
theorem MO(f:X.mg "isinstance"=none)(j:PE X a (TV K ml pa ta ia fa))(i:PE X b (TV K ml pb tb ib fb))(k:X.K=K:=by rfl)(g:Gl X "isinstance":=by rfl)(h:Ae (a::[b]) X.env=(false,eval a X.env)::Ae [b] X.env:=by rfl)(d:Ae (b::[]) X.env=(false,eval b X.env)::Ae [] X.env:=by rfl)(c:(Dx pos (Ae [b] X.env)).any (·.1)=false:=by rfl)(e:(pb || (ta&&ia))=true:=by rfl):PE X (.Call (.Name "isinstance" p') [a,b] [] pos) (TV K ml (pa&&pb) true true (f2 TQ fa fb)):=MN (kIsi k) Xr g f KP j i (by decide) (by decide) h d c e
end
def A4(K:Al)(x:Rg)(st:Rq)(f:Rf):Prop:=∃(d:Rc) (od:Option Rf) (kV doc c:Rc) (e:Option Rf) (a ct:Rc) (b:Array (Option Rc)),Ge K Ri x=some (some (.ref f))∧
 K.lookup f=some ⟨d,od,.func (Hm x x (Z0 st) (aU st) (cV st) .none kV doc c e a ct),b⟩/\Iq K a x=true/\Eu K (.ref f)=true
theorem a4{K:Al}{x:Rg}{st:Rq}{f:Rf}{i:Rc}{od:Option Rf}{kV doc h:Rc}{j:Option Rf}{e ct:Rc}{g:Array (Option Rc)}(a:Ge K Ri x=some (some (.ref f)))(b:K.lookup f=some ⟨i,od,.func (Hm x x (Z0 st) (aU st) (cV st) .none kV doc h j e ct),g⟩)(c:Iq K e x=true)(d:Eu K (.ref f)=true):A4 K x st f:=⟨i,od,kV,doc,h,j,e,ct,g,a,b,c,d⟩
theorem A4.ns{K:Al}{x:Rg}{st:Rq}{f:Rf}(p:A4 K x st f):Ge K Ri x=some (some (.ref f)):=by obtain⟨_,_,_,_,_,_,_,_,_,a,_⟩:=p;exact a
theorem Z4{P:Bb}{w:Rl}{K:Al}{mg:Rg->Option Rc}{base h:Rn}{x:Rg}{st:Rq}{f:Rf}{ps:List Rg}{sp:Sp}{k:Nat}(X:K.In h)(G:h.Ns Ri mg)(p:A4 K x st f)(ok:∀{fd:Ds},YH K x x st f fd->bO P w K mg base CX0 k f fd ps sp)(l:∀{kV doc g:Rc} {i:Option Rf} {e ct:Rc} (us:List Rc),us.length=ps.length->bindArgs (Hm x x (Z0 st) (aU st) (cV st) .none kV doc g i e ct) ⟨us,[]⟩=pure (ps.zip us)):Def P w K mg base x k ps sp f:=by obtain⟨m,od,kV,doc,g,i,e,ct,j,a,b,c,d⟩:=p;have U:=HH (st:=st) b c d;exact⟨Ft X G a,⟨_,ok U,U.binds λ_ _ _ _ _ _=>l⟩,d⟩
theorem XB(P:Bb)(w:Rl)(K:Al)(mg:Rg->Option Rc)(base:Rn){x a:Rg}{st:Rq}{f:Rf}{fd:Ds}(N ps:List Rg)(k:Nat)(g:VS)(ml:List Nat)(F:YH K x a st f fd)(S:cM N ps (cV st))(e:∀(b:Rc) (A:Cn) (outer:List Env) (s:Af) (H:Hp) (E:XK) (c:ZD k (A.deeper (Js a (cV st) s.heap.objs.size f b))) (_:(A.deeper (Js a (cV st) s.heap.objs.size f b)).units+64<cLine) (_:(A.deeper (Js a (cV st) s.heap.objs.size f b)).units+1<cLine),PF (KS CX0 P w K mg base N a (cV st) f b A outer s H E).nox (aU st) (TC K ml g))(d:ps.length<=N.length:=by decide):bO P w K mg base CX0 (k+1) f fd ps (spV K ml ps.length (bD N.length ml g)):=
 YH.okV F S d λb A outer s H E c=>e b A outer s H E c c.units (Tt c)
theorem aJ{N P:List Rg}{h:Rt}(a:h.kind=.function:=by rfl)(b:h.isCoroutine=false:=by rfl)(c:h.isGenerator=false:=by rfl)(d:N.Nodup:=by decide+kernel)(e:N.take P.length=P:=by rfl)(f:∀x∈P,h.names.lookup x=some .local∨h.names.lookup x=some .cell:=by decide+kernel)(g:∀y∈h.names,y.2≠Br:=by decide+kernel):cM N P h:=⟨a,b,c,d,e,f,g⟩
end L2
namespace TS
open PySem PySem.W PyProof.Rows
structure En where
 prog:Bb
 w:Rl
 A:Cn
 s:Af
 κ:Oh
 it:Array Keyed
def En.Ok(n:Nat)(ck:Nat->Nat->Bool)(e:En):Prop:=∀i j,i<n->j<n->∀C:Bool->Af->Prop,C (ck i j) e.s->kas_cmp e.prog e.w e.A e.κ e.it i j C e.s
abbrev En.at(e:En)(i:Nat):Keyed:=Km e.it i
abbrev En.of(e:En)(p:Array Nat):Array Keyed:=p.map (Km e.it)
structure Pu where
 p:Array Nat
 pd:Array (Nat×Nat×Nat)
 g:Nat
noncomputable def stO(e:En)(x:Pu):Io:=Kc e.κ (e.of x.p) x.pd x.g none
section
variable{n:Nat}{ck:Nat->Nat->Bool}
def D(n:Nat)(ck:Nat->Nat->Bool){α:Type}(f:En->StateT Io Rv α)(x:Pu)(a:En->α)(y:Pu):Prop:=
 ∀e:En,e.Ok n ck->∀(E:Rc->Af->Prop) (Q:α->Io->Af->Prop),Q (a e) (stO e y) e.s->kasC (Rj e.prog e.w) e.A E (f e) Q (stO e x) e.s
def X(n:Nat)(ck:Nat->Nat->Bool){α a:Type}(f:En->StateT Io Rv α)(x:Pu)(v:a->En->α)(R:a->Pu->Prop):Prop:=∃t y,R t y/\D n ck f x (v t) y
theorem D.pure{α:Type}{a:En->α}{x:Pu}:D n ck (λe=>Pc (a e)) x a x:=λe _ E Q h=>kasC_pure h
theorem D.bind{α β:Type}{f:En->StateT Io Rv α}{k:En->α->StateT Io Rv β}{x y z:Pu}{a:En->α}{b:En->β}(h1:D n ck f x a y)(h2:D n ck (λe=>k e (a e)) y b z):D n ck (λe=>f e>>=k e) x b z:=
 λe o E Q h=>Pd (h1 e o E _ (h2 e o E Q h))
theorem D.get{x:Pu}:D n ck (λ_=>MonadState.get) x (λe=>stO e x) x:=λe _ E Q h=>kasC_get h
theorem D.modify{F:En->Io->Io}{x y:Pu}(h:∀e,F e (stO e x)=stO e y):D n ck (λe=>modify (F e)) x (λ_=>⟨⟩) y:=λe _ E Q q=>Pe (by rw[h e];exact q)
theorem D.rule{r:String}{x:Pu}:D n ck (λ_=>(liftM (PySem.rule r):StateT Io Rv Unit)) x (λ_=>()) x:=λe _ E Q q=>kasC_lift (Ht q)
theorem D.elem{q:Array Nat}{i:Nat}{x:Pu}(hi:i<q.size):D n ck (λe=>elem' (e.of q) i) x (λe=>e.at (q.getD i 0)) x:=λe _ E Q h=>by
 have b:(e.of q)[i]?=some (e.at (q.getD i 0)):=by
  have a:q.getD i 0=q[i]:=by simp[Array.getD,hi]
  rw[a];simp[En.of,En.at,hi]
 show kasC _ _ _ (elem' (e.of q) i) Q _ _;rw[elem'_eq,b];exact kasC_pure h
theorem D.lt{i j:Nat}{x:Pu}(hi:i<n)(a:j<n):D n ck (λe=>lt' (e.at i) (e.at j)) x (λ_=>some (ck i j)) x:=λe o E Q h=>by show kasC _ _ _ (lt' (e.at i) (e.at j)) Q _ _;rw[lt'_eq];refine Pd (kasC_get ?_);refine Pd (kasC_lift (Mo (Cs (o i j hi a (λc s'=>c=ck i j/\s'=e.s) ⟨rfl,rfl⟩) (λc s' hc=>?_) λ_ _ b=>b.elim)));obtain⟨rfl,rfl⟩:=hc;exact kasC_pure h
theorem D.ltAt{i j:Nat}{x:Pu}(hi:i<x.p.size)(a:j<x.p.size)(bi:x.p.getD i 0<n)(b:x.p.getD j 0<n):D n ck (λ_=>ltAt' i j) x (λ_=>some (ck (x.p.getD i 0) (x.p.getD j 0))) x:=λe o E Q h=>by show kasC _ _ _ (ltAt' i j) Q _ _;rw[ltAt'_eq];refine Pd (kasC_get ?_);exact(D.bind (D.elem hi) (D.bind (D.elem a) (D.lt bi b)):D n ck (λe=>elem' (e.of x.p) i>>=λu=>elem' (e.of x.p) j>>=λv=>lt' u v) x _ x) e o E Q h
theorem D.rev{i j:Nat}{x:Pu}:D n ck (λ_=>reverseSlice' i j) x (λ_=>()) {x with p:=kas_rev x.p i j}:=λe o E Q h=>by show kasC _ _ _ (reverseSlice' i j) Q _ _;rw[reverseSlice'_eq];refine Pe ?_;have a:mirror (e.of x.p) i j ((j - i)/2)=e.of (mirror x.p i j ((j - i)/2)):=kas_swaps_map (Km e.it) (λk=>i+k) (λk=>j - 1 - k) _ x.p;show Q () (Kc e.κ (mirror (e.of x.p) i j ((j - i)/2)) x.pd x.g none) e.s;rw[a];exact h
theorem D.move{k l:Nat}{x:Pu}:D n ck (λ_=>moveDown' k l) x (λ_=>()) {x with p:=bubble x.p k (k - l)}:=λe o E Q h=>by show kasC _ _ _ (moveDown' k l) Q _ _;rw[moveDown'_eq];refine Pe ?_;have a:bubble (e.of x.p) k (k - l)=e.of (bubble x.p k (k - l)):=kas_swaps_map (Km e.it) (λi=>k - i) (λi=>k - i - 1) _ x.p;show Q () (Kc e.κ (bubble (e.of x.p) k (k - l)) x.pd x.g none) e.s;rw[a];exact h
theorem X.ret{α b:Type}{a:En->α}{x:Pu}{v:b->En->α}{R:b->Pu->Prop}(t:b)(h:R t x)(c:∀e,a e=v t e:=by intro e;rfl):X n ck (λe=>Pc (a e)) x v R:=
 ⟨t,x,h,by rw[show a=v t from funext c];exact D.pure⟩
theorem X.go{α β b:Type}{f:En->StateT Io Rv α}{k:En->α->StateT Io Rv β}{x y:Pu}{a:En->α}{v:b->En->β}{R:b->Pu->Prop}(h1:D n ck f x a y)(h2:X n ck (λe=>k e (a e)) y v R):X n ck (λe=>f e>>=k e) x v R:=by obtain⟨t,z,h,d⟩:=h2;exact⟨t,z,h,D.bind h1 d⟩
theorem X.bind{α β b a:Type}{f:En->StateT Io Rv α}{k:En->α->StateT Io Rv β}{x:Pu}{u:a->En->α}{S:a->Pu->Prop}{v:b->En->β}{R:b->Pu->Prop}(h1:X n ck f x u S)(h2:∀t y,S t y->X n ck (λe=>k e (u t e)) y v R):X n ck (λe=>f e>>=k e) x v R:=by obtain⟨t,y,h,d⟩:=h1;exact X.go d (h2 t y h)
noncomputable def sv{β a:Type}(v:a->En->β):a ⊕ a->En->ForInStep β
 |.inl t,e=>.yield (v t e)
 |.inr t,e=>.done (v t e)
def sR{a:Type}(I J:a->Pu->Prop):a ⊕ a->Pu->Prop
 |.inl t,x=>I t x
 |.inr t,x=>J t x
theorem X.loop{β a:Type}{v:a->En->β}{I:Nat->a->Pu->Prop}{J:a->Pu->Prop}{f:En->Nat->β->StateT Io Rv (ForInStep β)}(g:∀t x,I 0 t x->J t x):∀(l:List Nat) (t:a) (x:Pu),(∀i∈l,∀(k:Nat) (t:a) (x:Pu),I (k+1) t x->X n ck (λe=>f e i (v t e)) x (sv v) (sR (I k) J))->I l.length t x->X n ck (λe=>forIn l (v t e) (f e)) x v J
 |[],t,x,_,h=>⟨t,x,g t x h,λe o E Q q=>kasC_nil q⟩
 | i :: l,t,x,b,h => by
  obtain⟨r,y,c,d⟩:=b i Ay l.length t x h;cases r with
  |inr t'=>exact⟨t',y,c,λe o E Q q=>kasC_cons (d e o E _ q)⟩
  |inl t'=>
   obtain⟨u,z,j,m⟩:=X.loop g l t' y (λi hi=>b i (Ar _ hi)) c;exact⟨u,z,j,λe o E Q q=>kasC_cons (d e o E _ (m e o E Q q))⟩
theorem X.range{β g:Type}{v:g->En->β}{I:Nat->g->Pu->Prop}{J:g->Pu->Prop}{f:En->Nat->β->StateT Io Rv (ForInStep β)}{a b:Nat}{t:g}{x:Pu}{c:En->β}(l:∀t x,I 0 t x->J t x)(m:I (b - a) t x)(j:∀i,a<=i->i<b->∀(k:Nat) (t:g) (x:Pu),I (k+1) t x->X n ck (λe=>f e i (v t e)) x (sv v) (sR (I k) J))(hc:∀e,c e=v t e:=by intro e;rfl):X n ck (λe=>forIn [a:b] (c e) (f e)) x v J:=by
 rw[show c=v t from funext hc];obtain⟨u,z,h,d⟩:=X.loop l (List.range' a (b - a)) t x (λi hi=>by
  have:=List.mem_range'_1.mp hi
  exact j i this.1 (by omega)) (by rw[List.length_range'];exact m)
 exact⟨u,z,h,λe o E Q q=>kasC_range (d e o E Q q)⟩
theorem X.yield{β b:Type}{v:b->En->β}{I J:b->Pu->Prop}{a:En->β}{x:Pu}(t:b)(h:I t x)(c:∀e,a e=v t e:=by intro e;rfl):X n ck (λe=>Pc (Eh (a e))) x (sv v) (sR I J):=
 X.ret (.inl t) h λe=>by rw[c e];rfl
theorem X.done{β b:Type}{v:b->En->β}{I J:b->Pu->Prop}{a:En->β}{x:Pu}(t:b)(h:J t x)(c:∀e,a e=v t e:=by intro e;rfl):X n ck (λe=>Pc (ForInStep.done (a e))) x (sv v) (sR I J):=
 X.ret (.inr t) h λe=>by rw[c e];rfl
end
section
variable{n:Nat}{ck:Nat->Nat->Bool}
theorem X.ite{α d:Type}{c:Prop}{f:En->Decidable c}{a b:En->StateT Io Rv α}{x:Pu}{v:d->En->α}{R:d->Pu->Prop}(h1:c->X n ck a x v R)(h2:¬c->X n ck b x v R):X n ck (λe=> @_root_.ite _ c (f e) (a e) (b e)) x v R:=by
 by_cases h:c
 ·simpa only[if_pos h] using h1 h
 ·simpa only[if_neg h] using h2 h
def Pm(n:Nat)(p:Array Nat):Prop:=p.toList.Perm (Bh n)
theorem Pm.sz{p:Array Nat}(h:Pm n p):p.size=n:=by
 have:=h.length_eq
 simpa using this
theorem Pm.lt{p:Array Nat}(h:Pm n p){i:Nat}(hi:i<n):p.getD i 0<n:=by
 have b:=h.sz;have a:i<p.size:=by lia
 have e:p.getD i 0=p[i]:=by simp[Array.getD,a]
 rw[e];exact Ck.mp (h.mem_iff.mp (by simp))
theorem Pm.rev{p:Array Nat}(h:Pm n p)(i j:Nat):Pm n (kas_rev p i j):=Pf (Jq.mp (mirror_perm p i j _)) h
theorem Pm.move{p:Array Nat}(h:Pm n p)(i j:Nat):Pm n (bubble p i j):=Pf (Jq.mp (bubble_perm p i j)) h
theorem Pm.cmp{x:Pu}(h:Pm n x.p){i j:Nat}(hi:i<n)(a:j<n):D n ck (λ_=>ltAt' i j) x (λ_=>some (ck (x.p.getD i 0) (x.p.getD j 0))) x:=
 D.ltAt (by rw[h.sz];exact hi) (by rw[h.sz];exact a) (h.lt hi) (h.lt a)
theorem X.st{α a:Type}{f:En->StateT Io Rv α}{x z:Pu}{v:a->En->α}{R:a->Pu->Prop}{P:Pu->Pu->Prop}(h:∀z,P x z->X n ck f z v R)(hz:P x z):X n ck f z v R:=h z hz
def Kp(n:Nat)(x y:Pu):Prop:=Pm n y.p/\y.pd=x.pd
theorem count{lo m:Nat}{x:Pu}(d:Pm n x.p)(h1:1<=m)(f:lo+m<=n):X n ck (λ_=>countRun' lo m) x (λt _=>some t) (λt y=>1<=t/\t<=m/\Kp n x y):=by
 refine X.bind (u:=λ(t:Nat) _=>(none,t)) (S:=λt y=>1<=t/\t<=m/\y=x) ?_ ?_
 ·refine X.range (I := λk t y => 1 <= t /\ t + k = m /\ y = x) (t := 1) (λt y h => ⟨h.1,by lia,h.2.2⟩) ⟨by lia,by lia,rfl⟩ λi _ _ k t y ⟨b,c,a⟩ => ?_
  subst a;refine X.go (d.cmp (by lia) (by lia)) ?_;refine X.ite (λ_=>X.done t ⟨b,by lia,rfl⟩) λ_=>X.yield (t+1) ⟨by lia,by lia,rfl⟩
 ·rintro t y ⟨b,c,rfl⟩
  have e:Kp n y y:=⟨d,rfl⟩;refine X.ite (λ_=>X.ret t ⟨b,c,e⟩) λq0=>?_;have q1:t+1<=m:=by
   have:t≠m:=λz=>q0 (by rw[z];exact beq_self_eq_true _)
   lia
  refine X.ite (λq2=>X.go (d.cmp (by lia) (by lia)) (X.ite (λ_=>X.ret t ⟨b,c,e⟩) λ_=>X.go D.rev (X.st (P:=Kp n) (x:=y) ?_ ⟨d.rev _ _,rfl⟩))) λq2=>X.st (P:=Kp n) (x:=y) ?_ e
  all_goals
   intro z hz;refine X.go D.rule ?_;refine X.bind (u:=λ(t:Nat×Nat) _=>(none,t)) (S:=λt z=>1<=t.1/\t.1<=m/\Kp n y z) ?_ ?_
   ·refine X.range (I := λk t z => 1 <= t.1 /\ t.1 + k = m /\ Kp n y z) (t := (t + 1,0)) (λt y h => ⟨h.1,by lia,h.2.2⟩) ⟨by lia,by dsimp only;lia,hz⟩ λi _ _ k t y ⟨b,c,a⟩ => ?_
    obtain⟨t,q⟩:=t;dsimp only at b c;refine X.go (a.1.cmp (by dsimp only;lia) (by dsimp only;lia)) ?_;refine X.ite (λ_=>X.ite (λ_=>X.go D.rev (X.yield (t+1,0) ⟨by dsimp only;lia,by dsimp only;lia,a.1.rev _ _,a.2⟩)) λ_=>X.yield (t+1,0) ⟨by dsimp only;lia,by dsimp only;lia,a⟩) λ_=>?_;refine X.go (a.1.cmp (by dsimp only;lia) (by dsimp only;lia)) ?_;exact X.ite (λ_=>X.done (t,q) ⟨b,by dsimp only;lia,a⟩) λ_=>X.yield (t+1,q+1) ⟨by dsimp only;lia,by dsimp only;lia,a⟩
   ·rintro ⟨t,q⟩ z ⟨b,c,a⟩
    dsimp only at b c;refine X.ite (λ_=>X.go D.rev (X.st (P:=Kp n) (x:=y) ?_ ⟨a.1.rev _ _,a.2⟩)) λ_=>X.st (P:=Kp n) (x:=y) ?_ a
    all_goals
     intro z hz;refine X.go D.rev ?_;refine X.bind (u:=λ(t:Nat) _=>(none,t)) (S:=λt z=>1<=t/\t<=m/\Kp n y z) ?_ λt z h=>X.ret t h;refine X.range (I:=λk t z=>1<=t/\t+k=m/\Kp n y z) (t:=t) (λt y h=>⟨h.1,by lia,h.2.2⟩) ⟨by lia,by dsimp only;lia,hz.1.rev _ _,hz.2⟩ λi _ _ k t y ⟨b,c,a⟩=>?_;refine X.go (a.1.cmp (by lia) (by lia)) ?_;exact X.ite (λ_=>X.done t ⟨b,by lia,a⟩) λ_=>X.yield (t+1) ⟨by lia,by lia,a⟩
theorem bin{lo m ok:Nat}{x:Pu}(c:Pm n x.p)(g:lo+m<=n):X n ck (λ_=>binarySort' lo m ok) x (λ(_:Unit) _=>true) (λ_ y=>Kp n x y):=by
 refine X.bind (u:=λ(_:Unit) _=>(none,())) (S:=λ_ y=>Kp n x y) ?_ λt z h=>X.ret () h;refine X.range (I:=λ_ _ z=>Kp n x z) (t:=()) (λt y h=>h) ⟨c,rfl⟩ λj f e k t y b=>?_;refine X.bind (u:=λ(t:Nat×Nat) _=>(none,t)) (S:=λt z=>t.2<=j/\z=y) ?_ ?_
 ·refine X.range (I := λ_ t z => t.2 <= j /\ z = y) (t := (0,j)) (λt y h => h) ⟨Au _,rfl⟩ λi _ _ k t z ⟨a,d⟩ => ?_
  obtain⟨l,r⟩:=t;dsimp only at a;subst d;refine X.ite (λ_=>X.done (l,r) ⟨a,rfl⟩) λq=>?_;refine X.go (b.1.cmp (by dsimp only at q⊢;lia) (by dsimp only at q⊢;lia)) ?_;exact X.ite (λ_=>X.yield (l,(l+r)/2) ⟨by dsimp only at q⊢;lia,rfl⟩) λ_=>X.yield ((l+r)/2+1,r) ⟨a,rfl⟩
 ·rintro ⟨l,r⟩ z ⟨a,rfl⟩
  exact X.go D.move (X.yield () ⟨b.1.move _ _,b.2⟩)
end
section
variable{n:Nat}{ck:Nat->Nat->Bool}
theorem Wk(e:En)(o:Array Nat):(e.of o).size=o.size:=by simp[En.of]
end
theorem Pm.id(n:Nat):Pm n (Bh n).toArray:=by unfold Pm;simp
def xS(n:Nat):Pu:=⟨(Bh n).toArray,#[],7⟩
section
variable{prog:Bb}{w:Rl}{A:Cn}{E:Rc->Af->Prop}{s:Af}
theorem gD(vs:List Rc):(Bh vs.length).map (λi=>vs.getD i Value.none)=vs:=by
 refine Nc λi=>?_;by_cases h:i<vs.length
 ·simp[h]
 ·simp[h]
end
section
variable{prog:Bb}{w:Rl}{A:Cn}{E:Rc->Af->Prop}{s:Af}
noncomputable def FN(p q:Int×Int):Bool:=if p.1=q.1 then decide (p.2<q.2) else decide (p.1<q.1)
theorem kB{x y:Rf}{a b c d:Int}{t u t' j:Rx}{C:Bool->Af->Prop}(i:IsTup s.heap x #[.int a t,.int b u])(g:IsTup s.heap y #[.int c t',.int d j])(h:C (FN (a,b) (c,d)) s):Rh (Rj prog w) A (keyLt' (tuples' true) (.ref x) (.ref y)) C E s:=by
 obtain⟨o,i,_,n,dx⟩:=i;obtain⟨l,g,_,m,k⟩:=g;refine kat_lt i dx g k ?_;refine kat_cons (Ko (kat_go (λe=>kat_yes ?_) λe=>kat_no ?_))
 ·have e : a = c := by simpa using e
  refine kat_cons (Ko (kat_go (λf=>kat_yes (kat_nil ?_)) λf=>kat_no ?_))
  ·have f : b = d := by simpa using f
   have:FN (a,b) (c,d)=false:=by simp[FN,e,f]
   rw[this] at h;exact h
  ·refine kat_one _ _ (lt_int ?_)
   have:FN (a,b) (c,d)=decide (b<d):=by simp[FN,e]
   rw[this] at h;exact h
 ·have e : ¬ a = c := by simpa using e
  have:FN (a,b) (c,d)=decide (a<c):=by simp[FN,e]
  rw[this] at h;exact oneLt_int h
def PrI(h:Rn):List Rc->List (Int×Int)->Prop
 |[],[]=>True
 |v::vs,p::ps=>(∃a t u,v=.ref a/\IsTup h a #[.int p.1 t,.int p.2 u])/\PrI h vs ps
 |_,_=>False
theorem PrI.keep{h h':Rn}(k:∀b o,h.get? b=some o->h'.get? b=some o):∀{vs:List Rc} {ps:List (Int×Int)},PrI h vs ps->PrI h' vs ps
 |[],[],_=>trivial
 |_::_,_::_,⟨⟨a,t,u,e,q⟩,r⟩=>⟨⟨a,t,u,e,q.keeps k⟩,PrI.keep k r⟩
 |[],_::_,r=>r.elim
 |_::_,[],r=>r.elim
theorem PrI.at{h:Rn}:∀{vs:List Rc} {ps:List (Int×Int)} {i:Nat},PrI h vs ps->i<vs.length->∃a t u,vs.getD i Value.none=.ref a/\IsTup h a #[.int (ps.getD i (0,0)).1 t,.int (ps.getD i (0,0)).2 u]
 |[],[],i,_,hi=>by simp at hi
 |_::_,_::_,0,r,_=>r.1
 |v::vs,p::ps,i+1,r,hi=>by
  have:=PrI.at (i:=i) r.2 (by simpa using hi)
  simpa using this
 |[],_::_,i,r,_=>r.elim
 |_::_,[],i,r,_=>r.elim
theorem PrI.tups{h:Rn}:∀{vs:List Rc} {ps:List (Int×Int)},PrI h vs ps->∃fs,KatTups h vs fs/\fs.length=vs.length/\∀v∈fs,∃i t,v=.int i t
 |[],[],_=>⟨[],trivial,rfl,λ_ h=>by cases h⟩
 |_::_,_::_,⟨⟨a,t,u,e,o,d,c,n,hd⟩,r⟩=>by
  obtain⟨fs,h1,h2,f⟩:=PrI.tups r;subst e;refine⟨.int _ t::fs,KatTups.cons d c hd rfl h1,by simp[h2],λv b=>?_⟩;rcases Aj.mp b with rfl|b
  ·exact⟨_,_,rfl⟩
  ·exact f v b
 |[],_::_,r=>r.elim
 |_::_,[],r=>r.elim
noncomputable def ckP(ps:List (Int×Int))(i j:Nat):Bool:=FN (ps.getD i (0,0)) (ps.getD j (0,0))
end
end TS
namespace L2
open PySem PySem.Spec PyProof.Rows
variable{X:Cx}{K:Al}
noncomputable def prD:c6->Option (Int×Int)
 |.tup [.int a,.int b]=>some (a,b)
 |_=>none
noncomputable def L6:List c6->Option (List (Int×Int))
 |[]=>some []
 |d::ds=>(prD d).bind λp=>(L6 ds).map λps=>p::ps
def PrV(K:Al)(H:Hp):List V->List (Int×Int)->Prop
 |[],[]=>True
 |v::vs,p::ps=>(∃a,v=.ref a/\UV K H a [.int p.1,.int p.2])/\PrV K H vs ps
 |_,_=>False
theorem pT{d:c6}{p:Int×Int}(h:prD d=some p):d=.tup [.int p.1,.int p.2]:=by
 unfold prD at h;split at h
 ·cases h;rfl
 ·cases h
theorem BR{H:Hp}{N:Rf->Prop}:∀{xs:List V} {ds:List c6} {ps:List (Int×Int)},b6 K N H xs ds->L6 ds=some ps->PrV K H xs ps
 |_,_,_,.nil,h=>by cases h;trivial
 | _,_,ps,@b6.cons _ _ _ v vs d ds h t,e => by
  have e:(prD d).bind (λp=>(L6 ds).map λps=>p::ps)=some ps:=e;cases h1:prD d with
  |none=>rw[h1] at e;cases e
  |some p=>
   rw[h1] at e;have e:(L6 ds).map (λps=>p::ps)=some ps:=e;cases h2:L6 ds with
   |none=>rw[h2] at e;cases e
   |some qs=>
    rw[h2] at e;cases e;have:=pT h1
    subst this;refine⟨?_,BR t h2⟩;cases h with
    |tup sq r=>
     cases r with
     |cons r1 r=>
      cases r1;cases r with
      |cons r2 r=>
       cases r2;cases r;exact⟨_,rfl,sq⟩
theorem PrV.prI{H:Hp}{aa:List (Rf×Ro)}{σ:St}{s:Af}(I:cA X aa σ H s):∀{xs:List V} {us:List Rc} {ps:List (Int×Int)},PrV X.K H xs ps->bS xs us->TS.PrI s.heap us ps
 |[],_,[],_,.nil=>trivial
 | _ :: _,_,_ :: _,⟨⟨a,e,q⟩,r⟩,.cons h t => by
  subst e;cases h;obtain⟨its,b,d,_⟩:=I.tuple q;cases b with
  |cons r1 b=>
   obtain⟨t1,rfl⟩:=r1;cases b with
   |cons r2 b=>
    obtain⟨c,rfl⟩:=r2;cases b;exact⟨⟨a,t1,c,rfl,d⟩,PrV.prI I r t⟩
 |[],_,_::_,h,_=>h.elim
 |_::_,_,[],h,_=>h.elim
theorem PrV.len{H:Hp}:∀{xs:List V} {ps:List (Int×Int)},PrV K H xs ps->xs.length=ps.length
 |[],[],_=>rfl
 |_::_,_::_,r=>by simp[PrV.len r.2]
 |[],_::_,r=>r.elim
 |_::_,[],r=>r.elim
theorem KI{xs:List V}{us:List Rc}(r:bS xs us):∀l:List Nat,(∀i∈l,i<xs.length)->bS (l.map λi=>xs.getD i .non) (l.map λi=>us.getD i Value.none)
 |[],_=>.nil
 |i::l,h=>by
  have hi:=h i Ay;obtain⟨u,h1,h2⟩:=bS.get (i:=i) (x:=xs[i]) r (by simp[hi]);refine .cons ?_ (KI r l λj a=>h j (Ar _ a));have c:xs.getD i .non=xs[i]:=by simp[hi]
  have b:us.getD i Value.none=u:=by simp[h1]
  show bR (xs.getD i .non) (us.getD i Value.none);rw[c,b];exact h2
theorem J4{H:Hp}{N:Rf->Prop}{xs:List V}{ds:List c6}(r:b6 K N H xs ds):∀l:List Nat,b6 K N H (l.map λi=>xs.getD i .non) (l.map λi=>ds.getD i .non)
 |[]=>.nil
 | i :: l => by
  have one:∀{xs:List V} {ds:List c6} (i:Nat),b6 K N H xs ds->bB K N H N (xs.getD i .non) (ds.getD i .non):=by
   intro xs ds i r;induction r using b6.rec (motive_1:=λ_ _ _ _=>True) generalizing i with
   |nil=>simpa using bB.non
   |cons h t _ a=>cases i with
    |zero=>simpa using h
    |succ i=>simpa using a i
   |_=>trivial
  exact .cons (one i r) (J4 r l)
theorem Wr:typeLookup (.type "list") ("keys":Rg)=pure none:=am_miss_of_fast (by decide+kernel)
section
variable{prog:Bb}{w:Rl}{A:Cn}{E:Rc->Af->Prop}{s:Af}
theorem Xe{a:Rf}{o:Ro}{xs:Array Rc}{k:Nat}{Q:Option Rc->Af->Prop}(l:s.heap.get? a=some o)(hc:o.cls=.type "list")(n:o.data=.seq xs k)(hd:o.dict=none)(r:A.handled=none)(h:∀h' tk,(∀b j,s.heap.get? b=some j->h'.get? b=some j)->Q none {s with heap:=h',toks:=tk}):Rh (Rj prog w) A (getAttr? (.ref a) "keys") Q E s:=by
 obtain⟨c,dct,dat,p⟩:=o;simp only at hc n hd;subst hc n hd;obtain⟨q,g,d,tk,os⟩:=s;have m:∀f,(⟨q,g,d,f,os⟩:Af).TypeIs (.ref a) "list":=λ_=>⟨_,l,rfl⟩;have f1:=sub_AttributeError;have f3:=F.slot_list_getattribute.lookup;have x:=F.slot_list_getattribute.bind (.ref a);have v:=am_list_getattr_none;unfold getAttr? getAttrBy? getAttrBy
 (repeat (any_goals (first|assumption|exact m _|((with_reducible show Rh _ _ (call (Value.builtin "list.__getattribute__") _ _) _ _ _);refine Gw F.slot_list_getattribute (m _) am_entry_list_getattribute (F.args_list_getattribute_2 _ _) (meets_getattribute_miss_list a xs k p "keys" _ Wr (by decide) (by size_fits)) ⟨l,r,λh' f e i=>?_⟩)|wp_step)))
 obtain⟨t1,t,u⟩:=i.there;show(Rh _ _ (Mp _ _ _ _ _ _ _) _ _ _);unfold Mp
 (repeat (any_goals (first|assumption|wp_step)))
 exact h _ _ i.keeps
end
theorem JI:entryFor table "dict.update.loop"=some Gb.«dict.update.loop» :=entryFor_of_tree (by kernel_rfl)
theorem R0:plainId "dict.update.loop"=true:=by decide+kernel
def PrK(prog:Bb)(w:Rl)(h:Rn):List Rc->List (aG×Rc)->Prop
 |[],[]=>True
 |v::vs,p::ps=>(∃a key,v=.ref a/\IsTup h a #[key,p.2]/\(aI prog w).is p.1 key=true)/\PrK prog w h vs ps
 |_,_=>False
section
variable{prog:Bb}{w:Rl}{A:Cn}{E:Rc->Af->Prop}{s:Af}
theorem PrK.keep{h h':Rn}{C:Rf->Prop}(k:∀b o,C b->h.get? b=some o->h'.get? b=some o):∀{vs:List Rc} {ps:List (aG×Rc)},(∀a,Bi a∈vs->C a)->PrK prog w h vs ps->PrK prog w h' vs ps
 |[],[],_,_=>trivial
 |_::_,_::_,c,⟨⟨a,key,e,⟨o,d,r⟩,q⟩,r2⟩=>⟨⟨a,key,e,⟨o,k a o (c a (by rw[e];exact Ay)) d,r⟩,q⟩,PrK.keep k (λa f=>c a (Ar _ f)) r2⟩
 |[],_::_,_,r=>r.elim
 |_::_,[],_,r=>r.elim
theorem DX{a:Rf}{k v:Rc}{Q:List Rc->Af->Prop}(h:IsTup s.heap a #[k,v])(q:Q [k,v] s):Rh (Rj prog w) A (Kv (.ref a)) Q E s:=by obtain⟨o,b,hc,n,hd⟩:=h;unfold Kv;refine(Ac (Jt (T:= "tuple") ⟨o,b,hc⟩ ?_));rw[if_pos (by decide)];exact(Ac (Eo b hd (Am q)))
theorem Vf{R:Result->Af->Prop}{I D:Rf}{fp d:List Rf}{items:Array Rc}{St:Nat->Rn->Prop}(W:Walks prog w A.in1 I fp d items.size (λi v=>items[i]?=some v) St)(c:D∉fp):∀(vs:List Rc) (ps:List (aG×Rc)) (j:Nat) (i:Int) (s:Af) (kvs:List (aG×Rc)),items.toList.drop j=vs->j+vs.length=items.size->St j s.heap->s.heap.DictOf (aI prog w) D kvs->kvs.length+vs.length<=sizeLine->PrK prog w s.heap vs ps->(∀a,Bi a∈vs->a∉d/\a≠D)->(∀g tk,g.DictOf (aI prog w) D (ps.foldl (λl p=>Qp l p.1 p.2) kvs)->(∀b o,b∉d->b≠D->s.heap.get? b=some o->g.get? b=some o)->R (.ok (.ret .none)) {s with heap:=g,toks:=tk})->Kh (Rj prog w) A (.builtin "dict.update.loop" ⟨[.ref D,.ref I,rawInt i,.none],[]⟩) R s
 | [],ps,j,i,s,kvs,e,F,k,hd,hz,n,x,J => by
  have f:D∉d:=λz=>c (W.sub _ z);cases ps with
  |cons p ps=>exact n.elim
  |nil=>
   refine codeAny_builtin JI (by rw[Ln R0 _];show(Rh _ A.in1 (pyNext (.ref I)>>=_) _ _ s);refine(Ac (W.done s _ _ (by rw[show items.size=j by simpa using F.symm];exact k) λg tk kept=>?_));show(Rh _ A.in1 (Builtin.Dict.addKeywords D []>>=_) _ _ _);refine(Ac (Am (Am ?_)));obtain⟨o,es,K,E,r⟩:=hd;exact J g tk ⟨o,es,K,kept _ _ f E,r⟩ λb o m _ e=>kept b o m e)
 | v :: vs,ps,j,i,s,kvs,e,F,k,hd,hz,n,x,J => by
  have f:D∉d:=λz=>c (W.sub _ z);cases ps with
  |nil=>exact n.elim
  |cons p ps=>
   obtain⟨⟨a,key,rfl,Q,hk⟩,n⟩:=n;obtain⟨P,X⟩:=x a Ay;simp only[Ax] at F hz;have U:items[j]?=some (.ref a):=by
    have:=congrArg (λl=>l[0]?) e
    simpa using this
   have V:items.toList.drop (j+1)=vs:=by
    have:=congrArg List.tail e
    simpa using this
   refine codeAny_builtin JI (by
    rw[Ln R0 _];show(Rh _ A.in1 (pyNext (.ref I)>>=_) _ _ s);refine(Ac (W.item j s _ _ (by lia) k λv g tk pv M kept=>?_));obtain rfl:v=.ref a:=by rw[U] at pv;cases pv;rfl
    obtain⟨o,E,r⟩:=Q;obtain⟨O,es,K,B,r2⟩:=hd;refine(Ac (Cb (Ac (wpAny_tryCatch (DX (s:={s with heap:=g,toks:=tk}) ⟨o,kept _ _ P E,r⟩ ?_)))));refine(Cb (wpAny_dictSet_pairs (s:={s with heap:=g,toks:=tk}) (kvs:=kvs) hk ⟨O,es,K,kept _ _ f B,r2⟩ (λT H q=>?_) (by lia)));have L:∀b o,b∉d->b≠D->s.heap.get? b=some o->T.get? b=some o:=λb o m t e=>(q.2 b t).trans (kept b o m e);refine(Am ⟨plainId_quiet R0 _,Vf W c vs ps (j+1) (i+1) _ (Qp kvs p.1 p.2) V (by lia) (W.frame _ _ _ M λb u o e=>(q.2 b (λz=>c (by rw[<-z];exact u))).trans e) H ?_ (PrK.keep (C:=λb=>b∉d/\b≠D) (λb o u e=>L b o u.1 u.2 e) (λa h=>x a (Ar _ h)) n) (λa h=>x a (Ar _ h)) ?_⟩)
    ·have:=stored_length_le kvs p.1 p.2
     lia
    ·exact λS y G N=>J S y G λb o m t e=>N b o m t (L b o m t e))
end
section
variable{prog:Bb}{w:Rl}{A:Cn}{E:Rc->Af->Prop}{s:Af}
theorem C8{l:Rf}{vs:List Rc}{ps:List (aG×Rc)}{Q:Rc->Af->Prop}(L:A.handled=none)(pl:PlainL s.heap l vs.toArray)(hz:vs.length<=sizeLine)(u:PrK prog w s.heap vs ps)(h:∀g tk,g.DictOf (aI prog w) s.heap.objs.size (ps.foldl (λl p=>Qp l p.1 p.2) [])->(∀b o,s.heap.get? b=some o->g.get? b=some o)->Q (.ref s.heap.objs.size) {s with heap:=g,toks:=tk}):Rh (Rj prog w) A (call (.type "dict") [.ref l]) Q E s:=by
 refine(callType_codes (Q₁:=λobj d=>obj=.ref s.heap.objs.size/\d={s with heap:=s.heap.push {cls:=.type "dict",data:=.dict #[]}}) F.kt_called_dict (F.kt_typeCall_dict_1 _) F.entry_dict_init (kt_code_dict_new _ ⟨rfl,rfl⟩) ?_);rintro obj d ⟨rfl,rfl⟩;have I:(s.heap.push {cls:=.type "dict",data:=.dict #[]}).DictOf (aI prog w) s.heap.objs.size []:=Ot s.heap;obtain⟨o,n,K,hc,hd,M⟩:=pl;have r:(s.heap.push {cls:=.type "dict",data:=.dict #[]}).get? l=some o:=Ad _ K;refine⟨I.typeIs,F.args_dict_init_2 _ _,?_⟩;unfold Gb.«dict.__init__»;refine(Ac ?_);unfold Builtin.Dict.selfAndRest;refine(Ac (wpAny_notOrdered_dict I.typeIs ?_));show(Rh _ _ (pure (s.heap.objs.size,[Bi l])) _ _ _);refine(Am ?_);show(Rh _ _ (Kn "dict.__init__" s.heap.objs.size (.ref l) [] .none) _ _ _);unfold Kn;refine(Ac (Jt (T:= "list") ⟨o,r,hc⟩ ?_));rw[if_pos (by decide)];refine(Ac (Xe r hc M hd (by simp[L]) λf B y=>?_));simp only[Option.isNone_none,if_true];refine(Ac (Ht ?_));have O:f.get? l=some o:=y _ _ r;have od:f.get? s.heap.objs.size=some {cls:=.type "dict",data:=.dict #[]}:=y _ _ (Av _ rfl);have j:s.heap.objs.size<f.objs.size:=Ap od;have k:l<s.heap.objs.size:=Ap K;have x:f.IsList l vs.toArray:=⟨o,O,hc,n,M⟩;have J:∀b c,s.heap.get? b=some c->f.get? b=some c:=λb c q=>y b c (Ad _ q);have i:∀b c,s.heap.get? b=some c->b∉[f.objs.size]/\b≠s.heap.objs.size:=λb c q=>by
  have:=Ap q
  exact⟨λz=>by rw[Az.mp z] at this;exact absurd (Nt this j) (Co _),λz=>by rw[z] at this;exact Co _ this⟩
 have G:∀{vs:List Rc} {ps:List (aG×Rc)},PrK prog w s.heap vs ps->∀a,Bi a∈vs->∃c,s.heap.get? a=some c:=by
  intro vs;induction vs with
  |nil=>intro ps _ a t;cases t
  |cons v vs P=>
   intro ps u a t;cases ps with
   |nil=>exact u.elim
   |cons p ps=>
    rcases Aj.mp t with e|t
    ·obtain⟨⟨b,key,S,⟨c,m,_⟩,_⟩,_⟩:=u
     rw[S] at e;cases e;exact⟨c,m⟩
    ·exact P u.2 a t
 refine(Ac (Fo (s:={s with heap:=f,toks:=B}) x ?_));have W:=Qb (prog:=prog) (w:=w) (A:=A.in1.in1) (by simp[L]) f.objs.size l (Bg (Nt k j)) vs.toArray;refine(Am ⟨plainId_quiet R0 _,Vf (A:=A.in1) W (λz=>?_) vs ps 0 0 _ [] (by simp) (by simp) ⟨⟨_,Av _ rfl,rfl,rfl⟩,x.push _⟩ ?_ (by simpa using hz) (PrK.keep (C:=λ_=>True) (λb c _ q=>Ad _ (J b c q)) (λ_ _=>trivial) u) (λa t=>?_) λg tk H kept=>⟨rfl,h g tk H λb c q=>?_⟩⟩)
 ·rcases Aj.mp z with z|z
  ·exact absurd j (by rw[<-z];exact Co _)
  ·rw[<- Az.mp z] at k
   exact Co _ k
 ·obtain⟨N,es,R,D,r2⟩:=I
  exact⟨N,es,R,Ad _ (y _ _ D),r2⟩
 ·obtain⟨c,m⟩:=G u a t
  exact i a c m
 ·exact kept b c (i b c q).1 (i b c q).2 (Ad _ (J b c q))
end
variable{X:Cx}{K:Al}{H:Hp}{σ:St}{s:Af}{aa:List (Rf×Ro)}{ml:List Nat}{pa ta ia:Bool}{fa:VF}{a:Rk}{p' pos:Pos}
noncomputable def kprD:c6->Option (aG×c6)
 |.tup [k,v]=>(UO k).map λkk=>(kk,v)
 |_=>none
noncomputable def TY:List c6->Option (List (aG×c6))
 |[]=>some []
 |d::ds=>(kprD d).bind λp=>(TY ds).map λps=>p::ps
def G2(K:Al)(H:Hp):List V->List (aG×V)->Prop
 |[],[]=>True
 |v::vs,p::ps=>(∃a,v=.ref a/\UV K H a [kV p.1,p.2])/\G2 K H vs ps
 |_,_=>False
theorem Xp{d:c6}{p:aG×c6}(h:kprD d=some p):∃k,d=.tup [k,p.2]/\UO k=some p.1:=by
 unfold kprD at h;split at h
 ·rename_i k v
  cases e:UO k with
  |none=>rw[e] at h;cases h
  |some kk=>rw[e] at h;cases h;exact⟨k,rfl,e⟩
 ·cases h
theorem FL{N:Rf->Prop}:∀{xs:List V} {ds:List c6} {kds:List (aG×c6)},b6 K N H xs ds->TY ds=some kds->∃kvs:List (aG×V),G2 K H xs kvs/\kvs.map Db=kds.map Db/\b6 K N H (kvs.map Ec) (kds.map Ec)
 |_,_,_,.nil,h=>by cases h;exact⟨[],trivial,rfl,.nil⟩
 | _,_,kds,@b6.cons _ _ _ v vs d ds h t,e => by
  have e:(kprD d).bind (λp=>(TY ds).map λps=>p::ps)=some kds:=e;obtain⟨p,h1,e⟩:=Aa.mp e;have e:(TY ds).map (λps=>p::ps)=some kds:=e;obtain⟨qs,h2,e⟩:=At.mp e;cases e;obtain⟨kvs,r1,r2,c⟩:=FL t h2;obtain⟨k,rfl,hk⟩:=Xp h1;cases h with
  |tup sq r=>
   cases r with
   |cons b r=>
    cases r with
    |cons a r=>
     cases r;have f:=b.key hk;subst f;exact⟨(p.1,_)::kvs,⟨⟨_,rfl,sq⟩,r1⟩,by simp[r2],.cons a c⟩
theorem G2.prK(I:cA X aa σ H s):∀{xs:List V} {us:List Rc} {kvs:List (aG×V)},G2 X.K H xs kvs->bS xs us->∃ps:List (aG×Rc),KV kvs ps/\PrK X.prog X.w s.heap us ps
 |[],_,[],_,.nil=>⟨[],.nil,trivial⟩
 | _ :: _,_,p :: _,⟨⟨b,e,q⟩,r⟩,.cons h t => by
  subst e;cases h;obtain⟨ps,r1,r2⟩:=G2.prK I r t;obtain⟨its,a,f,_⟩:=I.tuple q;cases a with
  |cons d a=>
   cases a with
   |cons c a=>
    cases a;exact⟨(p.1,_)::ps,.cons ⟨rfl,c⟩ r1,⟨b,_,rfl,f,JR d⟩,r2⟩
 |[],_,_::_,h,_=>h.elim
 |_::_,_,[],h,_=>h.elim
theorem G2.len:∀{xs:List V} {ps:List (aG×V)},G2 K H xs ps->xs.length=ps.length
 |[],[],_=>rfl
 |_::_,_::_,r=>by simp[G2.len r.2]
 |[],_::_,r=>r.elim
 |_::_,[],r=>r.elim
def Vo(K:Al):RC:=λxs H Q=>∃(p:Rf) (ys:List V) (kvs:List (aG×V)),xs=[.ref p]/\WT K H p ys/\G2 K H ys kvs/\(kvs.map Db).Nodup/\∀l:Rf,H l=none->Q (.ref l) (upd H l (.dK kvs))
theorem kZ(h:X.K=K)(hc:X.calm=true):ZW X (.type "dict") (Vo K):=by subst h;intro aa s σ H xs us Q I r h;obtain⟨p,ys,kvs,rfl,i,d,f,q⟩:=h;obtain⟨u,rfl,e⟩:=S8 r;cases e;obtain⟨its,c,pl,hz⟩:=I.list i;have l:=c.length;have j:=d.len;obtain⟨ps,r1,r2⟩:=d.prK I c;refine C8 (I.ok.hd hc) pl (by lia) r2 λg tk hd kept=>?_;have k:LS [] kvs=kvs:=JV (acc:=[]) (by simpa using f);have b:=KV.merge r1 (kvs:=[]) (vs:=[]) .nil;rw[k] at b;exact⟨.ref s.heap.objs.size,_,I.laid (a:=s.heap.objs.size) (o:=.dK kvs) (t':=tk) kept (Au _) (Sy (by lia) (beq_eq_false_iff_ne.mpr (Cq (Bg I.big))) b hd),rfl,q _ (I.hok.fresh (Au _))⟩
noncomputable def JZ:c6->Option c6
 |.lst ds=>(TY ds).bind λkds=>if(kds.map Db).Nodup then some (.dct (kds.map Db) (kds.map Ec)) else none
 |_=>none
def CalD(K:Al)(r:RC)(o:c6->Option c6):Prop:=∀(H:Hp) (N M:Rf->Prop) (x:V) (d c:c6) (Q:VK),bB K N H M x d->o d=some c->
 (∀p (kvs:List (aG×V)) ds,H p=none->b6 K N H (kvs.map Ec) ds->c=.dct (kvs.map Db) ds->Q (.ref p) (upd H p (.dK kvs)))->r [x] H Q
theorem gG:CalD K (Vo K) JZ:=by
 intro H N M x d c Q g h k;cases d with
 |lst ds=>
  have h:((TY ds).bind λkds=>if(kds.map Db).Nodup then some (c6.dct (kds.map Db) (kds.map Ec)) else none)=some c:=h;obtain⟨kds,h1,h⟩:=Aa.mp h;have h:(if(kds.map Db).Nodup then some (c6.dct (kds.map Db) (kds.map Ec)) else none)=some c:=h;split at h
  ·rename_i f
   cases h;obtain⟨a,xs,rfl,sq,r⟩:=g.lstE;obtain⟨kvs,r1,r2,e⟩:=FL r h1;exact⟨a,xs,kvs,rfl,sq,r1,by rw[r2];exact f,λl b=>k l kvs _ b e (by rw[r2])⟩
  ·cases h
 |_=>cases h
theorem mkDK{B:Bs}{O:Nat->Option Rf}{H1:Hp}{δ':Ev}{p:Rf}{pu:Bool}{kvs:List (aG×V)}{ds:List c6}(S:Z6 K ml B O H1 σ δ')(f:Fr (OA O) H H1)(s:pu=true->aH H H1)(a:H1 p=none)(r:b6 K (Nn B O) H1 (kvs.map Ec) ds):ResN K ml B O H σ pu (upd H1 p (.dK kvs)) δ' p (.dct (kvs.map Db) ds):=
 ⟨S.laid a,f.trans (cS a).fr,λz=>(s z).trans (cS a),.dct cN ((r.away a _ _ WH).same (cS a)),S.new a,S.fresh a⟩
theorem KJ(r:X.K=K)(hc:X.calm=true)(n:Gl X "dict")(m:X.mg "dict"=none)(g:Bm "dict"=some (.type "dict"))(o:PE X a (TV K ml pa ta true fa))(l:("dict":Rg)≠ "__name__":=by decide)(e:(("dict":Rg)==("__debug__":Rg))=false:=by decide)(b:Ae (a::[]) X.env=(false,eval a X.env)::Ae [] X.env:=by rfl):PE X (.Call (.Name "dict" p') [a] [] pos) (TN K ml pa (f1 JZ fa)):=
 (UQ (kZ r hc) n m g (bC o ZE b) l e b).imp λσ H Q h=>by obtain⟨B,O,δ,d,δ',S,q,k⟩:=h;obtain⟨x,h1,h2⟩:=LD q;refine⟨B,O,δ,x,δ',S,h1,λf H1 c=>gG H1 _ _ f x d Q c.rep h2 λp kvs ds j i b=>?_⟩;subst b;exact k p _ (mkDK c.sta c.frm c.pur j i)
end L2
namespace TS
open PySem PySem.W PyProof.Rows
section
variable{n:Nat}{ck:Nat->Nat->Bool}
theorem DP:(Bh 64).all (λn=>(sortPriv% PySem.Builtin.minRun) n n 0==n)=true:=by decide+kernel
theorem jK{x:Pu}(h:Pm n x.p)(s:x.pd= #[])(h64:n<64):X n ck (λ_=>sortRuns') x (λ(_:Unit) _=>()) (λ_ y=>Pm n y.p):=by
 refine X.go D.get ?_;have o:∀e:En,(arrOf (stO e x)).size=n:=λe=>by show(e.of x.p).size=n;rw[Wk,h.sz]
 have b:∀(e:En) (y:Pu),pendingOf (stO e y)=y.pd:=λe y=>rfl;have f:(sortPriv% PySem.Builtin.minRun) n n 0=n:=beq_iff_eq.mp (Fy.mp DP n (Ck.mpr h64));simp only[o];generalize (sortPriv% PySem.Builtin.minRun) n n 0=a at f;subst f;refine X.bind (u:=λ(t:Nat) _=>(none,t)) (S:=λt y=>Pm a y.p/\y.pd.size<=1) ?_ ?_
 ·refine X.range (I := λ_ t y => Pm a y.p /\ (t = 0 /\ y.pd = #[] ∨ a <= t /\ y.pd.size <= 1)) (t := 0) (λt y h => ⟨h.1,by
   rcases h.2 with q|q
   ·rw[q.2];decide
   ·exact q.2⟩) ⟨h,.inl ⟨rfl,s⟩⟩ λi _ _ k lo y hw=>?_
  refine X.ite (λ_=>X.done lo ⟨hw.1,by
   rcases hw.2 with q|q
   ·rw[q.2];decide
   ·exact q.2⟩) λq=>?_
  dsimp only at q;obtain⟨rfl,j⟩:lo=0/\y.pd= #[]:=by
   rcases hw.2 with h|h
   ·exact h
   ·lia
  refine X.bind (count hw.1 (by dsimp only;lia) (by dsimp only;lia)) ?_;rintro m z ⟨A,r,hz⟩;dsimp only at r;have l:z.pd= #[]:=hz.2.trans j;refine X.ite (λ_=>X.go D.rule (X.bind (bin hz.1 (by dsimp only;lia)) λ_ g c=>X.ite (λv=>absurd v (by simp)) λ_=>?_)) λw=>?_
  ·have d:g.pd= #[]:=c.2.trans l
   refine X.go D.get ?_;simp only[b];rw[show g.pd.back? =none by rw[d];rfl];exact X.go (D.modify (y:={g with pd:=g.pd.push (0,(min (a - 0) a),0)}) λe=>rfl) (X.yield (0+(min (a - 0) a)) ⟨c.1,.inr ⟨by lia,by rw[d];exact Au 1⟩⟩)
  ·refine X.go D.get ?_
   simp only[b];rw[show z.pd.back? =none by rw[l];rfl];exact X.go (D.modify (y:={z with pd:=z.pd.push (0,m,0)}) λe=>rfl) (X.yield (0+m) ⟨hz.1,.inr ⟨by lia,by rw[l];exact Au 1⟩⟩)
 ·intro lo y hw
  refine X.bind (u:=λ(_:Unit) _=>(none,())) (S:=λ_ y=>Pm a y.p) ?_ λ_ y h=>X.ret () h;refine X.range (I:=λ_ _ y=>Pm a y.p/\y.pd.size<=1) (t:=()) (λt y h=>h.1) hw λi _ _ k _ y hw=>?_;refine X.go D.get ?_;simp only[b];refine X.ite (λ_=>X.done () hw.1) λq=>?_;exact absurd hw.2 (by lia)
theorem MB(n:Nat)(ck:Nat->Nat->Bool)(h64:n<64):∃y:Pu,Pm n y.p/\D n ck (λ_=>sortRuns') (xS n) (λ_=>()) y:=by obtain⟨t,y,h,d⟩:=jK (n:=n) (ck:=ck) (x:=xS n) (Pm.id n) rfl h64;exact⟨y,h,d⟩
noncomputable def srt0(n:Nat)(ck:Nat->Nat->Bool):List Nat:=if h:2<=n/\n<64 then(MB n ck h.2).choose.p.toList else Bh n
theorem J9(n:Nat)(ck:Nat->Nat->Bool):(srt0 n ck).Perm (Bh n):=by
 unfold srt0;split
 ·rename_i h
  exact(MB n ck h.2).choose_spec.1
 ·exact .refl _
end
section
variable{prog:Bb}{w:Rl}{A:Cn}{E:Rc->Af->Prop}{s:Af}
theorem EL{a:Rf}{vs:List Rc}{z:Nat}{κ:Oh}{ck:Nat->Nat->Bool}{P:PySem.Fin->Af->Prop}(g:s.heap.get? a=some (Gy "list" vs.toArray z))(hz:vs.length<=sizeLine)(h64:vs.length<64)(hk:2<=vs.length->∀h':Rn,(∀b o,b≠a->s.heap.get? b=some o->h'.get? b=some o)->∀u:Oh->Af->Prop,u κ {s with heap:=h'}->Rh (Rj prog w) A (keyKind' vs.toArray) u E {s with heap:=h'})(hc:∀h':Rn,(∀b o,b≠a->s.heap.get? b=some o->h'.get? b=some o)->∀i j,i<vs.length->j<vs.length->∀C:Bool->Af->Prop,C (ck i j) {s with heap:=h'}->Rh (Rj prog w) A (keyLt' κ (vs.getD i Value.none) (vs.getD j Value.none)) C (λ_ _=>False) {s with heap:=h'})(h:P (.done (.ret .none)) {s with heap:=sortedHeap s.heap a vs ((srt0 vs.length ck).map λi=>vs.getD i Value.none).toArray}):Rh (Rj prog w) A (Gb.«list.sort» ⟨[.ref a],[]⟩) P E s:=by
 have lt:=Ap g;have hsz:vs.toArray.size=vs.length:=by simp
 obtain⟨I,f⟩:∃k,(s.heap.update a (Ef λ_=> #[])).get? a=some (Gy "list" #[] k):=⟨_,get?_update_seq g (λ_=> #[])⟩;have keep:∀b o,b≠a->s.heap.get? b=some o->(((s.heap.update a (Ef λ_=> #[])).push (Gy "tuple" vs.toArray 0)).push (Gy "list" #[] 0)).get? b=some o:=λb o H m=>
  Ad _ (Ad _ (by rw[Lz _ _ _ _ H];exact m))
 have c:(((s.heap.update a (Ef λ_=> #[])).push (Gy "tuple" vs.toArray 0)).push (Gy "list" #[] 0)).get? a=some (Gy "list" #[] I):=Ad _ (Ad _ f);have J:∀l:List Rc,l.length=vs.length->l.toArray.size<=sizeLine+1:=λl hl=>by rw[An];lia
 rw[list_sort_plain];refine(Ac (listItems_at g rfl ?_));refine(Ac (Mq g rfl ?_ (by rw[An];lia) (Dg _)));refine(Ac (Pg f rfl ?_));refine(Ac (wpAny_newTuple ?_ (by show vs.length<=_;exact hz)));refine(Ac (wpAny_newList (Cb ?_) (Dg _)))
 ·show (Rh (Rj prog w) A _ P E { s with heap := (((s.heap.update a (Ef λ_ => #[])).push (Gy "tuple" vs.toArray 0)).push (Gy "list" #[] 0)) })
  dsimp only;have K:((srt0 vs.length ck).map λi=>vs.getD i Value.none).length=vs.length:=by rw[Aq,(J9 _ _).length_eq,Hx]
  by_cases h2:vs.toArray.size<2
  ·have G : ((srt0 vs.length ck).map λi => vs.getD i Value.none) = vs := by unfold srt0;rw[dif_neg (by lia)];exact gD vs
   rw[G] at h;rw[if_pos h2,if_pos h2];refine(Ac (Am ?_));rw[StateT.run_pure];refine(Ac (Am ?_));dsimp only;have D:(vs.toArray.zip vs.toArray).map (·.2)=vs.toArray:=by apply Oe.mp;simp;exact List.map_snd_zip (Au _)
   rw[D];refine(Ac (Pg c rfl (Ac (Mq c rfl ?_ (hsz2:=by rw[An];lia)))));simp only[bne_self_eq_false,Fd,if_false];exact Am h
  ·rw[if_neg h2,if_neg h2]
   refine(Ac (hk (by lia) _ keep _ ?_));have B:2<=vs.length:=by lia
   have spec:=(MB vs.length ck h64).choose_spec;have t:srt0 vs.length ck=(MB vs.length ck h64).choose.p.toList:=by unfold srt0;rw[dif_pos ⟨B,h64⟩]
   generalize (MB vs.length ck h64).choose=y at spec t;let e:En:=⟨prog,w,A,{s with heap:=(((s.heap.update a (Ef λ_=> #[])).push (Gy "tuple" vs.toArray 0)).push (Gy "list" #[] 0))},κ,Nh vs⟩
   have r:e.Ok vs.length ck:=λi j hi F C q=>by show Rh (Rj prog w) A (keyLt' κ (Km (Nh vs) i).1 (Km (Nh vs) j).1) C _ _;rw[Ph,Ph];exact hc _ keep i j hi F C q
   have n:Kc κ (vs.toArray.zip vs.toArray) #[] 7 none=stO e (xS vs.length):=by have q:=kas_range (Nh vs);rw[pairsOf_size] at q;show Kc κ (Nh vs) #[] 7 none=Kc κ ((List.toArray (Bh vs.length)).map (Km (Nh vs))) #[] 7 none;rw[q]
   rw[n];have v:(e.of y.p).map (·.2)=((srt0 vs.length ck).map λi=>vs.getD i Value.none).toArray:=by apply Oe.mp;rw[t,Array.map_map,Array.toList_map];exact Fw λi _=>by show(Km (Nh vs) i).2=_;rw[Ph]
   have run:=spec.2 e r E (λ_ d s'=>d=stO e y/\s'=e.s) ⟨rfl,rfl⟩;refine(Ac (Cs run ?_ λ_ _ x=>x));rintro ⟨⟨⟩,d⟩ s' ⟨rfl,rfl⟩;show(Rh (Rj prog w) A _ P E {s with heap:=(((s.heap.update a (Ef λ_=> #[])).push (Gy "tuple" vs.toArray 0)).push (Gy "list" #[] 0))});dsimp only;rw[show(arrOf (stO e y))=e.of y.p from rfl,v];refine(Ac (Pg c rfl (Ac (Mq c rfl ?_ (hsz2:=by rw[An];lia)))));rw[show failedOf (stO e y)=none from rfl];simp only[bne_self_eq_false,Fd,if_false];exact Am h
theorem IJ{l:Rf}{vs:List Rc}{κ:Oh}{ck:Nat->Nat->Bool}{Q:Rc->Af->Prop}(hl:s.heap.IsList l vs.toArray)(hz:vs.length<=sizeLine)(h64:vs.length<64)(hk:2<=vs.length->∀(A:Cn) (E:Rc->Af->Prop) (h':Rn),(∀b o,s.heap.get? b=some o->h'.get? b=some o)->∀e:Oh->Af->Prop,e κ {s with heap:=h'}->Rh (Rj prog w) A (keyKind' vs.toArray) e E {s with heap:=h'})(hc:∀(A:Cn) (h':Rn),(∀b o,s.heap.get? b=some o->h'.get? b=some o)->∀i j,i<vs.length->j<vs.length->∀C:Bool->Af->Prop,C (ck i j) {s with heap:=h'}->Rh (Rj prog w) A (keyLt' κ (vs.getD i Value.none) (vs.getD j Value.none)) C (λ_ _=>False) {s with heap:=h'})(h:Q (.ref (s.heap.objs.size+1)) {s with heap:=sortedAll s.heap vs ((srt0 vs.length ck).map λi=>vs.getD i Value.none).toArray}):Rh (Rj prog w) A (call (.builtin "sorted") [.ref l]) Q E s:=by
 refine(Calls.call_function_entry kind_sorted plain_sorted entry_sorted (args_sorted1 _) ?_);unfold Gb.«sorted»;refine(Ac (m:=checkCount "sorted" 1 1 _) (Am (Ac (collect_list hl (Ac (wpAny_newList ?_ (by exact hz))) hz))));have c:((s.heap.push (Gy "list" #[] 0)).update s.heap.objs.size (Ef (· ++vs.toArray))).objs.size=s.heap.objs.size+1:=by rw[Heap.size_update,size_push']
 have d:(((s.heap.push (Gy "list" #[] 0)).update s.heap.objs.size (Ef (· ++vs.toArray))).push (Gy "list" vs.toArray 0)).get? (s.heap.objs.size+1)=some (Gy "list" vs.toArray 0):=by rw[<-c];exact Av _ rfl
 have keep:∀b o,s.heap.get? b=some o->(((s.heap.push (Gy "list" #[] 0)).update s.heap.objs.size (Ef (· ++vs.toArray))).push (Gy "list" vs.toArray 0)).get? b=some o/\b≠s.heap.objs.size+1:=λb o q=>by have a:b<s.heap.objs.size:=Ap q;refine⟨?_,Bg (Ni a)⟩;rw[Hy _ _ _ (by rw[c];exact(Bg (Ni a))),Lz _ _ _ _ (Bg a),Hy _ _ _ (Bg a)];exact q
 show(Rh _ _ _ _ _ {s with heap:=((s.heap.push (Gy "list" #[] 0)).update s.heap.objs.size (Ef (· ++vs.toArray))).push (Gy "list" vs.toArray 0)});rw[c];refine(Ac (Cb (Ed slot_list_sort ⟨_,d,rfl⟩ entry_list_sort (EL (κ:=κ) (ck:=ck) d hz h64 (λf h' k'=>hk f _ _ h' λb o q=>k' b o (keep b o q).2 (keep b o q).1) (λh' k'=>hc _ h' λb o q=>k' b o (keep b o q).2 (keep b o q).1) ⟨_,rfl,?_⟩) (args_list_sort _))));exact(Am ⟨_,rfl,h⟩)
theorem KY{l:Rf}{vs:List Rc}{ps:List (Int×Int)}{Q:Rc->Af->Prop}(hl:s.heap.IsList l vs.toArray)(hz:vs.length<=sizeLine)(h64:vs.length<64)(c:PrI s.heap vs ps)(h:Q (.ref (s.heap.objs.size+1)) {s with heap:=sortedAll s.heap vs ((srt0 vs.length (ckP ps)).map λi=>vs.getD i Value.none).toArray}):Rh (Rj prog w) A (call (.builtin "sorted") [.ref l]) Q E s:=by
 refine IJ (κ:=tuples' true) hl hz h64 (λo A E h' k' p q=>?_) (λA h' k' i j hi f C q=>?_) h
 ·obtain⟨fs,h1,h2,g⟩:=(c.keep k').tups
  refine kat_kind (s:={s with heap:=h'}) (T:=.type "int") h1 (by lia) (λv e=>?_) (by decide) q;obtain⟨i,t,rfl⟩:=g v e;exact Looks.now
 ·obtain⟨a,t,u,m,t1⟩:=(c.keep k').at hi
  obtain⟨b,t',n,k,d⟩:=(c.keep k').at f;rw[m,k];exact kB (s:={s with heap:=h'}) t1 d q
end
end TS
namespace L2
open PySem PySem.Spec PyProof.Rows
variable{X:Cx}{K:Al}
noncomputable def GN(ps:List (Int×Int)):List Nat:=TS.srt0 ps.length (TS.ckP ps)
theorem R8(ps:List (Int×Int)):(GN ps).Perm (Bh ps.length):=TS.J9 _ _
def Vn(K:Al):RC:=λxs H Q=>∃(p:Rf) (ys:List V) (ps:List (Int×Int)),xs=[.ref p]/\WT K H p ys/\ys.length<64/\PrV K H ys ps/\∀l:Rf,H l=none->Q (.ref l) (upd H l (.lst ((GN ps).map λi=>ys.getD i .non)))
theorem dY(h:X.K=K):ZW X (.builtin "sorted") (Vn K):=by
 subst h;intro aa s σ H xs us Q I r h;obtain⟨p,ys,ps,rfl,g,h64,d,q⟩:=h;obtain⟨u,rfl,f⟩:=S8 r;cases f;obtain⟨its,c,pl,hz⟩:=I.list g;have m:=c.length;have j:=d.len;have k:H (s.heap.objs.size+1)=none:=I.hok.fresh (Gs _);refine TS.KY pl.isList (by lia) (by lia) (d.prI I c) ?_;rw[show its.length=ps.length by lia];obtain⟨e,l⟩:=sortedAll_at s.heap its ((TS.srt0 ps.length (TS.ckP ps)).map λi=>its.getD i Value.none).toArray;refine⟨.ref (s.heap.objs.size+1),_,I.laid (a:=s.heap.objs.size+1) (o:=.lst ((GN ps).map λi=>ys.getD i .non)) (t':=s.toks) (λb o=>sortedAll_old) (Gs _) ?_,rfl,q _ k⟩;refine⟨by rw[Aq,(R8 ps).length_eq,Hx];lia,(GN ps).map λi=>its.getD i Value.none,e,KI c _ λi hi=>?_,?_⟩
 ·have:=Ck.mp ((R8 ps).mem_iff.mp hi)
  lia
 ·rw[l]
  rfl
noncomputable def DU:c6->Option c6
 |.lst ds=>if ds.length<64 then(L6 ds).bind λps=>some (.lst ((GN ps).map λi=>ds.getD i .non)) else none
 |_=>none
theorem qE:CalN K (Vn K) DU:=by
 intro H N M x d c Q e h k;cases d with
 |lst ds=>
  have h:(if ds.length<64 then(L6 ds).bind λps=>some (c6.lst ((GN ps).map λi=>ds.getD i .non)) else none)=some c:=h;split at h
  ·rename_i h64
   cases h1:L6 ds with
   |none=>rw[h1] at h;cases h
   |some ps=>
    rw[h1] at h;cases h;obtain⟨a,xs,rfl,sq,r⟩:=e.lstE;exact⟨a,xs,ps,rfl,sq,by rw[r.length];exact h64,BR r h1,λl b=>k l _ _ b (J4 r _) rfl⟩
  ·cases h
 |_=>cases h
section
variable{X:Cx}{aa:List (Rf×Ro)}{σ:St}{H:Hp}{s:Af}{a C dx p q:Rf}{f g nm:Rg}{xs ys:List V}{v:V}{A:Cn}{E:Rc->Af->Prop}
theorem AR{P:Bb}{w:Rl}{h:Rn}(b:RL P w H h)(e:H a=some (.flt C dx f g p q xs ys)):∃mA,EV h a dx C mA/\(∀n,UK (([(f,.ref p),(g,.ref q)]:List (Rg×V)).lookup n) (mA n))/\Jr mA [f,g]:=by obtain⟨_,⟨d,_⟩,c,⟨mA,n,r,z⟩,_⟩:=(show ZY P w H h a (.flt C dx f g p q xs ys) from b a _ e);exact⟨mA,⟨c,n,d⟩,r,z⟩
theorem FG{b:Bool}{Q:Rc->Af->Prop}(I:cA X aa σ H s)(e:H a=some (.flt C dx f g p q xs ys))(c:Cls X.K C)(n:ZC X.K C nm)(l:([(f,.ref p),(g,.ref q)]:List (Rg×V)).lookup nm=some v)(h:∀u s',cA X aa σ H s'->bR v u->Q u s'):Rh (Rj X.prog X.w) A (getAttr (.ref a) nm b) Q E s:=by obtain⟨mA,O,r,_⟩:=AR I.hok e;obtain⟨u,i,d⟩:=UK.some_of (v:=v) (o:=mA nm) (by rw[<-l];exact r nm);exact Zi I.kIn O (c.get nm) c.hd n i (iC d) (h u _ (I.tok _) d)
theorem FH{m:Rg}{k:Rf}{pl:Rv Bool}{Q:Rc×List Rc->Af->Prop}(I:cA X aa σ H s)(e:H a=some (.flt C dx f g p q xs ys))(c:Cls X.K C)(b:Meth X.K C m k)(l:([(f,.ref p),(g,.ref q)]:List (Rg×V)).lookup m=none)(h:Q (.ref k,[.ref a]) s):Rh (Rj X.prog X.w) A (Mj (.ref a) m pl) Q E s:=by obtain⟨mA,O,r,_⟩:=AR I.hok e;have d:mA m=none:=UK.none_of (by rw[<-l];exact r m);exact oK I.kIn O (c.get m) b.at_ b.fn d h
end
def tPrt(K:Al)(ta:TE)(nm:Rg):TE:=λσ H Q=>ta σ H λx H1=>∃a C dx f g p q xs ys v,x=.ref a/\H1 a=some (.flt C dx f g p q xs ys)/\Cls K C/\ZC K C nm/\([(f,.ref p),(g,.ref q)]:List (Rg×V)).lookup nm=some v/\Q v H1
section
variable{X:Cx}{e:Rk}{nm:Rg}{pos:Pos}{ta:TE}
theorem DZ(d:PE X e ta)(i:Ce e nm X.env (eval e X.env)=eval e X.env):PE X (.Attribute e nm pos) (tPrt X.K ta nm):=by intro aa s σ H Q I h;refine lX i (ZB (d aa s σ H _ I h) λu s1 ⟨x,H1,m,b,a,C,dx,f,g,p,q,xs,ys,v,ex,j,c,n,l,k⟩=>?_);subst ex;obtain rfl:u=Bi a:=b;exact FG m j c n l λu s' o r=>⟨v,H1,o,r,k⟩
end
theorem lk1{f g:Rg}{p q:V}:([(f,p),(g,q)]:List (Rg×V)).lookup f=some p:=by rw[Bt];simp
theorem lk2{f g:Rg}{p q:V}(h:f≠g):([(f,p),(g,q)]:List (Rg×V)).lookup g=some q:=by
 rw[Bt,Bt];have:(g==f)=false:=by simpa using h.symm
 rw[this];simp
structure NA(K:Al)(x f g:Rg):Prop where
 cls:∀C,Ge K Ri x=some (some (.ref C))->Cls K C/\ZC K C f/\ZC K C g
 ne:f≠g
noncomputable def fA(x f g:Rg)(b:Bool)(i:Nat):VF:=λδ=>match δ[i]? with
 |some (.ow (.flt a c g' k ds))=>if a=x/\c=f/\g'=g then some (.lst (if b then ds.take k else ds.drop k),δ) else none
 |_=>none
section
variable{X:Cx}{K:Al}{ml:List Nat}{e:Rk}{pos:Pos}{x f g:Rg}
theorem Vi{i:Nat}(b:Bool)(v:X.K=K)(c:NA K x f g)(h:PE X e (XT i))(u:Ce e (if b then f else g) X.env (eval e X.env)=eval e X.env):PE X (.Attribute e (if b then f else g) pos) (TV K ml true false true (fA x f g b i)):=by
 subst v;refine(DZ h u).imp λσ H Q j=>?_;obtain⟨B,O,δ,d',δ',S,q,k⟩:=j;unfold fA at q;split at q
 ·rename_i D E g' n ds hd
  split at q
  ·rename_i t
   obtain⟨rfl,rfl,rfl⟩:=t;cases q;obtain⟨a,F,l,w⟩:=S.ow i _ hd;cases w with
   | @flt _ _ _ xs ys _ q r=>
    obtain⟨C,dx,p,d,e,⟨s,o⟩,y⟩:=q;obtain⟨m,c2,A⟩:=c.cls C y;cases b with
    |true=>
     refine⟨.ref a,l,a,C,dx,_,_,p,d,xs,ys,.ref p,rfl,e,m,c2,lk1,k _ H (Res.refl S (.fzm (xs:=xs) (.inr ⟨a,C,dx,_,_,p,d,xs,ys,s,e,λz=>z,.inl ⟨rfl,rfl⟩⟩) ?_))⟩;have:=r.take xs.length
     rw[Ie] at this;exact this
    |false=>
     refine⟨.ref a,l,a,C,dx,_,_,p,d,xs,ys,.ref d,rfl,e,m,A,lk2 c.ne,k _ H (Res.refl S (.fzm (xs:=ys) (.inr ⟨a,C,dx,_,_,p,d,xs,ys,o,e,λz=>z,.inr ⟨rfl,rfl⟩⟩) ?_))⟩;have:=r.drop xs.length
     rw[Ls] at this;exact this
  ·cases q
 ·cases q
end
def Vx:V->List V->Hp->VK->Prop:=λx vs H Q=>∃l a C dx f g p q xs ys y,x=.ref l/\vs=[y]/\H l=some (.own a)/\H a=some (.flt C dx f g p q xs ys)∧
 ((l=p/\xs.length<sizeLine/\Q .non (upd H a (.flt C dx f g p q (xs++[y]) ys)))∨(l=q/\ys.length<sizeLine/\Q .non (upd H a (.flt C dx f g p q xs (ys++[y])))))
section
variable{X:Cx}{aa:List (Rf×Ro)}{σ:St}{H:Hp}{s:Af}{a C dx p q:Rf}{f g:Rg}{xs ys:List V}
theorem AS{P:Bb}{w:Rl}{h h':Rn}{l:Rf}{i d:List V}(x:ZY P w H h a (.flt C dx f g p q xs ys))(A:H a=some (.flt C dx f g p q xs ys))(hl:H l=some (.own a))(hd:l≠dx)(k:∀b u,b≠l->h.get? b=some u->h'.get? b=some u)(y:i.length<=sizeLine/\∃(its:List Rc) (n:Nat),bS i its/\h'.get? p=some {cls:=.type "list",data:=.seq its.toArray n})(v:d.length<=sizeLine/\∃(its:List Rc) (n:Nat),bS d its/\h'.get? q=some {cls:=.type "list",data:=.seq its.toArray n}):ZY P w (upd H a (.flt C dx f g p q i d)) h' a (.flt C dx f g p q i d):=by obtain⟨⟨s,o,m⟩,t,e,⟨mA,⟨od,es,B,D,c⟩,r⟩,_,_⟩:=x;have j:∀b,H b=some (.own a)->b≠a:=λb h=>WK h A (λz=>nomatch z);exact⟨⟨by rw[cL (j _ s)];exact s,by rw[cL (j _ o)];exact o,by rw[cL (j _ m)];exact m⟩,t,k _ _ (j _ hl).symm e,⟨mA,⟨od,es,B,k _ _ hd.symm D,c⟩,r⟩,y,v⟩
theorem Yq:MtM X "list.append" Vx:=by
 intro aa s σ H x vs v us Q I K L h;obtain⟨l,a,C,dx,f,g,p,q,xs,ys,y,rfl,rfl,hl,d,z⟩:=h;cases K;obtain⟨u,rfl,B⟩:=L.one;have ok:ZY X.prog X.w H s.heap a (.flt C dx f g p q xs ys):=I.hok a _ d;obtain⟨_,⟨_,N,M,D,_⟩,_,_,⟨J,t,F,o,m⟩,G,r,E,n,j⟩:=ok;rcases z with⟨rfl,hz,k⟩|⟨rfl,hz,k⟩
 ·have O:=o.length
  refine Gw Ju ⟨_,m,rfl⟩ Je (Il _ _) (Ka l t.toArray F u (by rw[An];lia)) ⟨m,?_⟩;refine⟨.non,_,?_,rfl,k⟩;have i:=Ks m (λz=>z.push u);refine I.write (x:=a) (e:=l) (by rw[d];exact trivial) (.inr hl) (λA u c b=>(De s.heap _ (Cq c)).trans b) ⟨_,i⟩ ?_;refine AS (I.hok a _ d) d hl N (λA u c b=>(De s.heap _ (Cq c)).trans b) ⟨by rw[Ao,Dh];lia,t++[u],_,o.append (.cons B .nil),by simpa using i⟩ ⟨G,r,E,n,(De s.heap _ D).trans j⟩
 ·have O:=n.length
  refine Gw Ju ⟨_,j,rfl⟩ Je (Il _ _) (Ka l r.toArray E u (by rw[An];lia)) ⟨j,?_⟩;refine⟨.non,_,?_,rfl,k⟩;have i:=Ks j (λz=>z.push u);refine I.write (x:=a) (e:=l) (by rw[d];exact trivial) (.inr hl) (λA u c b=>(De s.heap _ (Cq c)).trans b) ⟨_,i⟩ ?_;refine AS (I.hok a _ d) d hl M (λA u c b=>(De s.heap _ (Cq c)).trans b) ⟨J,t,F,o,(De s.heap _ (Cq D)).trans m⟩ ⟨by rw[Ao,Dh];lia,r++[u],_,n.append (.cons B .nil),by simpa using i⟩
end
noncomputable def ownF(x f g:Rg)(δ:Ev)(i:Nat):Option (Nat×List c6):=match δ[i]? with
 |some (.ow (.flt a b g' k ds))=>if a=x/\b=f/\g'=g then some (k,ds) else none
 |_=>none
theorem OY{x f g:Rg}{δ:Ev}{i k:Nat}{ds:List c6}(h:ownF x f g δ i=some (k,ds)):δ[i]?=some (.ow (.flt x f g k ds)):=by
 unfold ownF at h;split at h
 ·rename_i e
  split at h
  ·rename_i z
   obtain⟨rfl,rfl,rfl⟩:=z;cases h;exact e
  ·cases h
 ·cases h
noncomputable def UR(b:Bool)(k:Nat)(ds:List c6)(d:c6):Nat×List c6:=if b then(k+1,ds.take k++d::ds.drop k) else(k,ds++[d])
noncomputable def NX(x f g:Rg)(b:Bool)(i:Nat)(fs:PJ):VS:=λδ=>(ownF x f g δ i).bind λ_=>(fs δ).bind λr=>(ownF x f g r.2 i).bind λz=>match r.1 with
 |[d]=>if z.2.length<16777216 then some (.nx (r.2.set i (.ow (.flt x f g (UR b z.1 z.2 d).1 (UR b z.1 z.2 d).2)))) else none
 |_=>none
section
variable{X:Cx}{K:Al}{ml:List Nat}{e:Rk}{es:List Rk}{pu:Bool}{pos:Pos}{x f g:Rg}{H:Hp}
theorem pB{N:Rf->Prop}{l C dx p q:Rf}{f g:Rg}{us ws d c:List V}{xs:List V}{ds:List c6}(e:H l=some (.flt C dx f g p q us ws))(m:N l)(h:b6 K N H xs ds):b6 K N (upd H l (.flt C dx f g p q d c)) xs ds:=
 h.fr (P:=λb=>b=l) ⟨λb u q n=>by
  by_cases i:b=l
  ·subst i
   rw[e] at q;cases q;exact absurd (n rfl) λz=>z
  ·rw[cL i]
   exact q,KN.upd λt o s g' p' r k j z=>by
  rw[e] at z;cases z;exact⟨_,_,rfl⟩⟩ λa z=>z▸m
theorem CL{i:Nat}{v:Rg}{aw ag af ai:Pos}{fs:PJ}(b:Bool)(hK:X.K=K)(c:NA K x f g)(ho:PE X (.Name v ai) (XT i))(ha:PA X (e::es) (EW K ml pu true fs))(I:Ce (.Name v ai) (if b then f else g) X.env (eval (.Name v ai) X.env)=eval (.Name v ai) X.env)(bm:Ce (.Attribute (.Name v ai) (if b then f else g) aw) "append" X.env (eval (.Attribute (.Name v ai) (if b then f else g) aw) X.env)=eval (.Attribute (.Name v ai) (if b then f else g) aw) X.env)(cf : ((Dx af (Ae (e :: es) X.env)).all (λx => !x.1) && (Hf af (Es [] X.env)).all (λx => x.1.isSome) && decide ((e::es).length+([]:List Gg).length+(if([]:List Gg).isEmpty then 0 else 1)<30))=true)(bh:(ag.endLine==af.line)=true)(hs:Ae (e::es) X.env=(false,eval e X.env)::Ae es X.env)(aq:(Dx af (Ae es X.env)).any (·.1)=false)(F:Er (.Call (.Attribute (.Attribute (.Name v ai) (if b then f else g) aw) "append" ag) (e::es) [] af) none pos.line X.env=pure false):PS X (.Expr (.Call (.Attribute (.Attribute (.Name v ai) (if b then f else g) aw) "append" ag) (e::es) [] af) pos) (TC K ml (NX x f g b i fs)):=by
 subst hK;refine(IA (kBm (K:=X.K) rfl Hk Be Bf Yq (DZ ho I) ha bm cf bh hs aq) F).imp λD σ H G=>?_;obtain⟨B,O,δ,o,S,q,k⟩:=G;unfold NX at q;obtain⟨⟨k0,ds0⟩,h0,q⟩:=Aa.mp q;obtain⟨⟨es',δ1⟩,h1,q⟩:=Aa.mp q;obtain⟨⟨E,ds⟩,h2,q⟩:=Aa.mp q;obtain⟨a,J,W,w⟩:=S.ow i _ (OY h0);split at q
 ·rename_i d hd
  simp only at hd;subst hd;split at q
  ·rename_i hz
   cases q;cases w with
   | @flt _ _ _ xs ys _ w0 r0=>
    obtain⟨C,dx,p,l,e,⟨P,N⟩,T⟩:=w0;obtain⟨Y,c2,c3⟩:=c.cls C T;have fin:∀vs H1,ResA X.K ml B O H σ pu true H1 δ1 vs [d]->∃us ws v,vs=[v]/\H1 a=some (.flt C dx f g p l us ws)/\us.length=E/\(us++ws).length<sizeLine/\∀j m,(b6 X.K (Nn B O) H1 (us++ws) ds->bB X.K (Nn B O) H1 (Nn B O) v d->b6 X.K (Nn B O) H1 (j++m) (UR b E ds d).2/\j.length=(UR b E ds d).1)->
      D.nx σ (upd H1 a (.flt C dx f g p l j m)):=λvs H1 R=>by
     obtain⟨s,y,n⟩:=R.frm.ft _ _ _ _ _ _ _ _ _ e;obtain⟨a',V,_,w1⟩:=R.sta.ow i _ (OY h2);rw[J] at V;cases V;have rr:=R.rep;cases rr with
     | @cons v _ _ _ u t=>
      cases t;cases w1 with
      | @flt _ _ _ us ws _ Z r2=>
       obtain⟨C',dx',p',q'',U,⟨M,L⟩,hC'⟩:=Z;rw[n] at U;cases U;have ah:=r2.length;refine⟨s,y,v,rfl,n,rfl,by rw[ah,Cm];exact hz,λj m hr=>?_⟩;obtain⟨r3,l3⟩:=hr r2 u;have Q:∀b,H1 b=some (.own a)->b≠a:=λb h=>WK h n (λz=>nomatch z);have ow:NL X.K (Nn B O) (upd H1 a (.flt C dx f g p l j m)) a (.flt x f g j.length (UR b s.length ds d).2):=
        .flt ⟨C,dx,p,l,cN,⟨by rw[cL (Q _ M)];exact M,by rw[cL (Q _ L)];exact L⟩,T⟩ (pB n (.inr ⟨i,J⟩) r3)
       rw[l3] at ow;exact k σ _ O (R.sta.wrote J (λz=>z) (λ_ _ _ _ _ _ _ _ z=>by rw[n] at z;cases z;exact⟨_,_,rfl⟩) ow)
    cases b with
    |true=>
     refine⟨.ref a,W,a,C,dx,_,_,p,l,xs,ys,.ref p,rfl,e,Y,c2,lk1,.inl ⟨rfl,_,.inl (.inl (.inr ⟨a,C,dx,_,_,p,l,xs,ys,P,e,.inl ⟨rfl,rfl⟩⟩))⟩,B,O,δ,[d],δ1,S,h1,λvs H1 R=>?_⟩;obtain⟨us,ws,v,rfl,n,hk,hl,fn⟩:=fin vs H1 R;refine⟨p,a,C,dx,_,_,p,l,us,ws,v,rfl,rfl,R.frm _ _ P λ_=>trivial,n,.inl ⟨rfl,by rw[Ao] at hl;lia,fn _ _ λr u=>⟨?_,by simp[UR,hk]⟩⟩⟩;have t1:=r.take us.length;have A:=r.drop us.length;rw[Ie] at t1;rw[Ls] at A;rw[hk] at t1 A;have:=(t1.snoc u).append A
     simpa[UR] using this
    |false=>
     refine⟨.ref a,W,a,C,dx,_,_,p,l,xs,ys,.ref l,rfl,e,Y,c3,lk2 c.ne,.inl ⟨rfl,_,.inl (.inl (.inr ⟨a,C,dx,_,_,p,l,xs,ys,N,e,.inr ⟨rfl,rfl⟩⟩))⟩,B,O,δ,[d],δ1,S,h1,λvs H1 R=>?_⟩;obtain⟨us,ws,v,rfl,n,hk,hl,fn⟩:=fin vs H1 R;refine⟨l,a,C,dx,_,_,p,l,us,ws,v,rfl,rfl,R.frm _ _ N λ_=>trivial,n,.inr ⟨rfl,by rw[Ao] at hl;lia,fn _ _ λr u=>⟨?_,by simp[UR,hk]⟩⟩⟩;have:=r.snoc u
     simpa[UR] using this
  ·cases q
 ·cases q
end
def Vq(C:Rf)(m:Rg)(sp:Sp)(dvs:List V)(E:XK)(ta:TE)(t:TA):TE:=λσ H Q=>ta σ H λx H1=>∃a dx f g p q xs ys,x=.ref a/\H1 a=some (.flt C dx f g p q xs ys)/\(f≠m/\g≠m)∧
 t σ H1 λvs H2=>sp (x::(vs++dvs)) H2 Q E
theorem lk0{f g m:Rg}{p q:V}(h:f≠m/\g≠m):([(f,p),(g,q)]:List (Rg×V)).lookup m=none:=by
 rw[Bt,Bt];have h1:(m==f)=false:=by simpa using h.1.symm
 have h2:(m==g)=false:=by simpa using h.2.symm
 rw[h1,h2];rfl
section
variable{X:Cx}{o e:Rk}{es:List Rk}{C f:Rf}{m:Rg}{ag pos:Pos}{CX:CXT}{k:Nat}{fd:Ds}{ps:List Rg}{sp:Sp}{ds:List Rc}{dvs:List V}{E:XK}{ta:TE}{t:TA}
theorem lE{pl:Rv Bool}(J:PE X o ta)(c:Cls X.K C)(j:Meth X.K C m f)(F:bO X.prog X.w X.K X.mg X.base CX k f fd ps sp)(G:ZD k X.A)(L:WI X.K fd ps ds)(hd:bS dvs ds)(B:N9 CX X E)(M:PA X (e::es) t)(b:Ae (e::es) X.env=(false,eval e X.env)::Ae es X.env:=by rfl)(d:(Dx pos (Ae es X.env)).any (·.1)=false:=by rfl)(D:eval (.Call (.Attribute o m ag) (e::es) [] pos) X.env=(do
   let i<-eval o X.env
   Mv ag.atName
   let (f,first)<-Jw [i] (Mj i m pl)
   callWith pos f first (Dx pos (Ae (e::es) X.env)) (Hf pos (Es [] X.env))):=by rfl):
  PE X (.Call (.Attribute o m ag) (e::es) [] pos) (Vq C m sp dvs E ta t):=by
 intro aa s σ H Q I h;refine W.methodCall_KW (pl:=pl) (ZB (J aa s σ H _ I h) λu s1 ⟨x,H1,v,y,a,dx,f,g,p,q,xs,ys,ex,N,l,z⟩=>?_) D;subst ex;obtain rfl:u=Bi a:=y;refine FH v N c j (lk0 l) ?_;refine Np (first:=[.ref a]) (h₀:=X.base) I.ok.mod.kin j.kp (ZB (M pos aa s1 σ H1 _ v z) λus s2 ⟨vs,H2,n,r,q2⟩=>⟨n.kIn,?_⟩) b d;exact D8 (us:=.ref a::us) (vs:=.ref a::vs) F G L hd B n (.cons rfl r) q2
end
noncomputable def Y7(x f g:Rg)(i n:Nat)(mF:List Nat)(F:b8)(fs:NM):VF:=λδ=>(ownF x f g δ i).bind λ_=>cQ n mF F (aO i fs) δ
section
variable{X:Cx}{K:Al}{ml:List Nat}{H:Hp}{σ:St}{ps:Bool}{x f g:Rg}
theorem nU{fs:NM}{j:Nat}{Q:List V->Hp->Prop}(h:CW K ml ps (aO j fs) σ H Q):∃v,σ[j]?=some (some v)/\CW K ml ps fs σ H λvs H1=>Q (v::vs) H1:=by obtain⟨B,O,δ,as,δ2,S,q,k⟩:=h;unfold aO at q;obtain⟨d,h1,q⟩:=Aa.mp q;have q:((fs δ).map λq=>(AV.o j::q.1,q.2))=some (as,δ2):=q;obtain⟨p2,h2,q⟩:=At.mp q;cases q;obtain⟨v,e⟩:=S.slot h1;exact⟨v,e,B,O,δ,_,_,S,h2,λvs H2 R2=>k _ H2 ⟨R2.sta,R2.frm,R2.pur,.o e R2.rep⟩⟩
theorem Wb{i n:Nat}{mF:List Nat}{F:b8}{fs:NM}{Q:VK}{C:Rf}{m:Rg}(s:Ge K Ri x=some (some (.ref C)))(r:f≠m/\g≠m)(h:TV K ml (ps&&mF.isEmpty) true true (Y7 x f g i n mF F fs) σ H Q):Vq C m (spV K mF n F) [] E0 (XT i) (CW K ml ps fs) σ H Q:=by
 obtain⟨B,O,δ,d,δ2,S,q,k⟩:=h;unfold Y7 at q;obtain⟨⟨z,u⟩,t,q⟩:=Aa.mp q;obtain⟨a,A,j,w⟩:=S.ow i _ (OY t);have h1:=M8 (ps:=ps) (Q:=Q) (show TV K ml (ps&&mF.isEmpty) true true (cQ n mF F (aO i fs)) σ H Q from⟨B,O,δ,d,δ2,S,q,k⟩);obtain⟨v,c,h2⟩:=nU h1;rw[j] at c;cases c;cases w with
 | @flt _ _ _ xs ys _ l y=>
  obtain⟨D,dx,p,o,e,_,b⟩:=l;rw[s] at b;cases b;exact⟨.ref a,j,a,dx,f,g,p,o,xs,ys,rfl,e,r,h2⟩
structure DefM(P:Bb)(w:Rl)(K:Al)(mg:Rg->Option Rc)(base:Rn)(x:Rg)(C:Rf)(m:Rg)(k:Nat)(ps:List Rg)(sp:Sp)(f:Rf):Prop where
 nm:Ge K Ri x=some (some (.ref C))
 cls:Cls K C
 at_:Meth K C m f
 ok:∃fd,bO P w K mg base CX0 k f fd ps sp/\WI K fd ps []
theorem oB{C ff:Rf}{m v:Rg}{kk j i n:Nat}{qs:List Rg}{mF:List Nat}{F:b8}{fs:NM}{ai ag pos:Pos}{e:Rk}{es:List Rk}{pl:Rv Bool}(q:X.K=K)(D:DefM X.prog X.w K X.mg X.base x C m kk qs (spV K mF n F) ff)(o:f≠m/\g≠m)(k:ZD j X.A)(hk:kk<=j)(l:PE X (.Name v ai) (XT i))(p:PA X (e::es) (CW K ml ps fs))(a:Ae (e::es) X.env=(false,eval e X.env)::Ae es X.env:=by rfl)(b:(Dx pos (Ae es X.env)).any (·.1)=false:=by rfl)(d:eval (.Call (.Attribute (.Name v ai) m ag) (e::es) [] pos) X.env=(do
   let c<-eval (.Name v ai) X.env
   Mv ag.atName
   let (f,first)<-Jw [c] (Mj c m pl)
   callWith pos f first (Dx pos (Ae (e::es) X.env)) (Hf pos (Es [] X.env))):=by rfl):
  PE X (.Call (.Attribute (.Name v ai) m ag) (e::es) [] pos) (TV K ml (ps&&mF.isEmpty) true true (Y7 x f g i n mF F fs)):=by
 subst q;obtain⟨fd,r,B⟩:=D.ok;exact(lE l D.cls D.at_ r (k.mono hk) B .nil F7 p a b d).imp λ_ _ _ h=>Wb D.nm o h
end
section
variable{X:Cx}{aa:List (Rf×Ro)}{σ:St}{H:Hp}{s:Af}{a C dx p q:Rf}{f g:Rg}{xs ys:List V}
noncomputable def WX(H:Hp)(a C dx:Rf)(f g:Rg)(p q:Rf)(xs ys:List V):Hp:=upd (upd (upd H p (.own a)) q (.own a)) a (.flt C dx f g p q xs ys)
theorem RL.pack{P:Bb}{w:Rl}{h:Rn}(ok:RL P w H h)(e:H a=some (.ins C dx [(f,.ref p),(g,.ref q)]))(k:H p=some (.lst xs))(j:H q=some (.lst ys))(n:p≠q)(m:f≠g):RL P w (WX H a C dx f g p q xs ys) h:=by
 have pa:p≠a:=WK k e (λz=>nomatch z);have qa:q≠a:=WK j e (λz=>nomatch z);obtain⟨d,z,s,A,mA,B,r,y⟩:=(show ZY P w H h a (.ins C dx [(f,.ref p),(g,.ref q)]) from ok a _ e);have dp:dx≠p:=WK d k (λz=>nomatch z);have x:dx≠q:=WK d j (λz=>nomatch z);have go:∀b,b≠a->b≠p->b≠q->WX H a C dx f g p q xs ys b=H b:=λb h1 h2 l=>by unfold WX;rw[cL h1,cL l,cL h2]
 have D:WX H a C dx f g p q xs ys a=some (.flt C dx f g p q xs ys):=cN;have v:WX H a C dx f g p q xs ys p=some (.own a):=by unfold WX;rw[cL pa,cL n,cN]
 have t:WX H a C dx f g p q xs ys q=some (.own a):=by unfold WX;rw[cL qa,cN]
 intro b u i;by_cases h1:b=a
 ·subst h1
  rw[D] at i;cases i;exact⟨⟨(go dx s dp x).trans d,v,t⟩,⟨s,dp.symm,x.symm,n,m⟩,A,⟨mA,B,r,y⟩,ok p _ k,ok q _ j⟩
 ·by_cases h2:b=p
  ·subst h2
   rw[v] at i;cases i;obtain⟨_,_,_,_,o⟩:=ok b _ k;exact⟨_,o⟩
  ·by_cases l:b=q
   ·subst l
    rw[t] at i;cases i;obtain⟨_,_,_,_,o⟩:=ok b _ j;exact⟨_,o⟩
   ·rw[go b h1 h2 l] at i
    refine(ok b u i).stay (λ_ _ _ z=>z) (λc hc=>?_) λc zs hc=>?_
    ·rw [go c (WK hc e λz => nomatch z) (WK hc k λz => nomatch z) (WK hc j λz => nomatch z)]
     exact hc
    ·rw [go c (WK hc e λz => nomatch z) (WK hc k λz => nomatch z) (WK hc j λz => nomatch z)]
     exact hc
theorem cA.pack(I:cA X aa σ H s)(e:H a=some (.ins C dx [(f,.ref p),(g,.ref q)]))(i:H p=some (.lst xs))(d:H q=some (.lst ys))(n:p≠q)(j:f≠g):cA X aa σ (WX H a C dx f g p q xs ys) s:=by
 have go:∀b,b≠a->b≠p->b≠q->WX H a C dx f g p q xs ys b=H b:=λb h1 h2 k=>by unfold WX;rw[cL h1,cL k,cL h2]
 have kp:∀b u,H b=some u->(∀C dx fs,u≠ .ins C dx fs)->(∀zs,u≠ .lst zs)->WX H a C dx f g p q xs ys b=some u:=λb u h h1 h2=>by rw[go b (WK h e (h1 _ _ _)) (WK h i (h2 _)) (WK h d (h2 _))];exact h
 have fr:∀b o,s.heap.get? b=some o->H b=none->WX H a C dx f g p q xs ys b=none:=λb o h c=>by rw[go b (aP e c).symm (aP i c).symm (aP d c).symm];exact c
 have u:Un X.fs [] H (WX H a C dx f g p q xs ys) s.heap s.heap:=⟨λb o h _ _ _=>h,λb o h _ _ _=>⟨o.slots,h⟩,λb o h c _=>fr b o h c,λb o h _=>⟨o,h⟩,λb zs h=>kp b _ h (λ_ _ _ z=>nomatch z) (λ_ z=>nomatch z),λb o v h=>kp b _ h (λ_ _ _ z=>nomatch z) (λ_ z=>nomatch z),λb zs h=>⟨#[],by simpa using kp b _ h (λ_ _ _ z=>nomatch z) (λ_ z=>nomatch z)⟩⟩;exact I.un (h':=s.heap) (t':=s.toks) u (I.hok.pack e i d n j)
end
noncomputable def DJ(H:Hp)(x C dx:Rf)(f g:Rg)(p q:Rf):Hp:=upd (upd (upd (upd H p (.lst [])) x (.ins C dx [(f,.ref p)])) q (.lst [])) x (.ins C dx [(f,.ref p),(g,.ref q)])
def spI(C:Rf)(f g:Rg):Sp:=λvs H Q _=>∃x dx,vs=[.ref x]/\H x=some (.ins C dx [])/\∀p q,H p=none->H q=none->p≠q->Q .non (DJ H x C dx f g p q)
noncomputable def KU(H:Hp)(x C dx:Rf)(f g:Rg)(p q:Rf):Hp:=WX (DJ (upd (upd H dx (.own x)) x (.ins C dx [])) x C dx f g p q) x C dx f g p q [] []
def Yc(C:Rf)(f g:Rg):TE:=λ_ H Q=>∀x dx p q,H x=none->H dx=none->H p=none->H q=none->dx≠x->p≠x->p≠dx->q≠x->q≠dx->p≠q->Q (.ref x) (KU H x C dx f g p q)
section
variable{X:Cx}{CX:CXT}{k:Nat}{ff C:Rf}{fd:Ds}{ps:List Rg}{f g y:Rg}{pn pos:Pos}
theorem Wu(M:Mk X.K C ff)(F:bO X.prog X.w X.K X.mg X.base CX0 k ff fd ps (spI C f g))(t:ZD (k+1) X.A)(D:Gl X y)(B:X.mg y=some (.ref C))(E:WI X.K fd ps [])(e:f≠g)(i:(y==("__debug__":Rg))=false:=by decide):PE X (.Call (.Name y pn) [] [] pos) (Yc C f g):=by
 intro aa s σ H Q I h;have base:=kN (p:=pn) (pos:=pos) M F t D B E .nil F7 i aa s σ H (λv H2=>∃x dx p q,v=.ref x/\H2=DJ (upd (upd H dx (.own x)) x (.ins C dx [])) x C dx f g p q/\dx≠x/\p≠x/\p≠dx/\q≠x/\q≠dx/\p≠q/\Q v (KU H x C dx f g p q)) I (λx dx h1 h2 m=>by
  refine⟨x,dx,rfl,cN,λp q b a n=>⟨rfl,x,dx,p,q,rfl,rfl,m,?_⟩⟩;have d:p≠x:=λz=>by rw[z,cN] at b;cases b
  have qx:q≠x:=λz=>by rw[z,cN] at a;cases a
  rw[cL d] at b;rw[cL qx] at a;have pd:p≠dx:=λz=>by rw[z,cN] at b;cases b
  have c:q≠dx:=λz=>by rw[z,cN] at a;cases a
  rw[cL pd] at b;rw[cL c] at a;exact⟨d,pd,qx,c,n,h x dx p q h1 h2 b a m d pd qx c n⟩)
 refine ZB base λu s' ⟨v,H2,L,o,x,dx,p,q,J,G,P,l,O,r,N,j,k⟩=>?_;subst J;subst G;refine⟨.ref x,_,L.pack (f:=f) (g:=g) (p:=p) (q:=q) (xs:=[]) (ys:=[]) cN ?_ ?_ j e,o,k⟩
 ·unfold DJ
  rw[cL l,cL j,cL l,cN]
 ·unfold DJ
  rw[cL r,cN]
theorem oE{H:Hp}{x C dx p q:Rf}(c:p≠x)(b:q≠x)(a:p≠q):KU H x C dx f g p q x=some (.flt C dx f g p q [] [])/\KU H x C dx f g p q p=some (.own x)/\KU H x C dx f g p q q=some (.own x):=by unfold KU WX;exact⟨cN,by rw[cL c,cL a,cN],by rw[cL b,cN]⟩
theorem qC{H:Hp}{x C dx p q b:Rf}(h1:b≠x)(h2:b≠dx)(c:b≠p)(a:b≠q):KU H x C dx f g p q b=H b:=by unfold KU WX DJ;rw[cL h1,cL a,cL c,cL h1,cL a,cL h1,cL c,cL h1,cL h2]
def AQ(y f g:Rg):VF:=λδ=>some (.flt y f g 0 [],δ)
theorem Xj{K:Al}{ml:List Nat}(v:X.K=K)(M:Mk K C ff)(F:bO X.prog X.w K X.mg X.base CX0 k ff fd ps (spI C f g))(s:ZD (k+1) X.A)(u:Gl X y)(t:X.mg y=some (.ref C))(z:Ge K Ri y=some (some (.ref C)))(a:WI K fd ps [])(j:f≠g)(l:(y==("__debug__":Rg))=false:=by decide):PE X (.Call (.Name y pn) [] [] pos) (TN K ml true (AQ y f g)):=by
 subst v;refine(Wu M F s u t a j l).imp λσ H Q i=>?_;obtain⟨B,O,δ,d,δ',S,q,k⟩:=i;cases q;intro x dx p q h1 h2 E D L r J n I m;obtain⟨ex,G,eq⟩:=oE (H:=H) (C:=C) (dx:=dx) (f:=f) (g:=g) r n m;have h:aH H (KU H x C dx f g p q):=λb o e=>by rw[qC (aP e h1) (aP e h2) (aP e E) (aP e D)];exact e
 have c:aH (upd H x (.flt C dx f g p q [] [])) (KU H x C dx f g p q):=λb o e=>by
  by_cases a:b=x
  ·subst a
   rw[cN] at e;cases e;exact ex
  ·rw[cL a] at e
   exact h b o e
 exact k x _ ⟨(S.laid h1).same c,h.fr,λ_=>h,.flt (xs:=[]) (ys:=[]) ⟨C,dx,p,q,ex,⟨G,eq⟩,z⟩ .nil,S.new h1,S.fresh h1⟩
end
theorem kH{P:Bb}{w:Rl}{K:Al}{mg:Rg->Option Rc}{base:Rn}{y b:Rg}{st:Rq}{ff C:Rf}{fd:Ds}{k:Nat}{f g:Rg}(F:YH K y b st ff fd)(S:cM ["self"] ["self"] (cV st))(c:Cls K C)(r:ZC K C f)(o:ZC K C g)(j:f≠g)(u:∀(d:Rc) (A:Cn) (outer:List Env) (s:Af) (H:Hp) (E:XK),ZD k (A.deeper (Js b (cV st) s.heap.objs.size ff d))->PF (KS CX0 P w K mg base ["self"] b (cV st) ff d A outer s H E).nox (aU st) (tSeq (sFld K (XT 0) (tLst KZ) f) (sFld K (XT 0) (tLst KZ) g))):bO P w K mg base CX0 (k+1) ff fd ["self"] (spI C f g):=by
 refine F.ok S (λvs H Q E h=>?_) λd A outer s H vs Q E t h=>⟨_,u d A outer s H E t,?_⟩
 ·obtain⟨x,dx,rfl,_⟩:=h
  rfl
 ·obtain⟨x,dx,rfl,m,k⟩:=h
  have i:(start ["self"] [V.ref x])[0]?=some (some (V.ref x)):=rfl;refine⟨Dg _,λp n=>⟨.ref x,i,x,C,dx,[],rfl,?_,c,r,by simp,?_⟩⟩
  ·rw[cL (aP m n)]
   exact m
  ·refine ⟨Dg _,λq a => ⟨.ref x,i,x,C,dx,[(f,.ref p)],rfl,?_,c,o,by simp,?_⟩⟩
   ·have a:upd (upd H p (.lst [])) x (.ins C dx (UA f (.ref p) [])) q=none:=a
    have qx:q≠x:=λz=>by rw[z,cN] at a;cases a
    rw[cL (Cq qx),cN];rfl
   ·have a:upd (upd H p (.lst [])) x (.ins C dx (UA f (.ref p) [])) q=none:=a
    have qx:q≠x:=λz=>by rw[z,cN] at a;cases a
    rw[cL qx] at a;have l:q≠p:=λz=>by rw[z,cN] at a;cases a
    rw[cL l] at a;have e:UA g (.ref q) [(f,V.ref p)]=[(f,.ref p),(g,.ref q)]:=by show(if f=g then _ else _)=_;rw[if_neg j];rfl
    have:=k p q n a (Cq l)
    unfold DJ at this;rw[e];exact this
section
variable{X:Cx}{K:Al}{ml:List Nat}{a:Rk}{es:List Rk}{pos:Pos}{x f g:Rg}{ps bs:Bool}
theorem kK{i:Nat}{fs:PJ}(b:Bool)(P:X.K=K)(c:NA K x f g)(N:PE X a (XT i))(M:Ce a (if b then f else g) X.env (eval a X.env)=eval a X.env)(J:PA X es (EW K ml ps bs fs))(I:Ae (.Attribute a (if b then f else g) pos::es) X.env=(false,eval (.Attribute a (if b then f else g) pos) X.env)::Ae es X.env)(hl:ps=true:=by rfl)(L:i∉ml:=by decide):PA X (.Attribute a (if b then f else g) pos::es) (EW K ml ps false (cZ (fA x f g b i) fs)):=by
 subst P;refine(bC (DZ N M) J I).imp λσ H Q m=>?_;obtain⟨B,O,δ,d,δ2,S,q,k⟩:=m;obtain⟨y,δ1,xs,h1,h2,rfl⟩:=OG q;unfold fA at h1;split at h1
 ·rename_i U V g' n ds hd
  split at h1
  ·rename_i G
   obtain⟨rfl,rfl,rfl⟩:=G;cases h1;obtain⟨o,A,v,w⟩:=S.ow i _ hd;have s:¬av B O false o:=λz=>by
    rcases z.2 with z|⟨j,z⟩
    ·exact(S.old i o A).1 z
    ·have u:=S.par.1 j o z
     have:O j=some o:=(S.par.2 j u).trans z
     exact L (S.inj j i o this A▸u)
   have t:∀z,av B O false z->Nn B O z:=λz h=>h.1;cases w with
   | @flt _ _ _ us ws _ q0 r=>
    obtain⟨C,dx,p,l,e,⟨F,E⟩,R⟩:=q0;obtain⟨D,c2,T⟩:=c.cls C R;cases b with
    |true=>
     refine⟨.ref o,v,o,C,dx,_,_,p,l,us,ws,.ref p,rfl,e,D,c2,lk1,B,O,δ,xs,δ2,S,h2,λvs H2 R2=>k _ H2 ⟨R2.sta,R2.frm,R2.pur,.cons (bB.same (R2.pur hl) (.fzm (xs:=us) (.inr ⟨o,C,dx,_,_,p,l,us,ws,F,e,s,.inl ⟨rfl,rfl⟩⟩) ?_)) (R2.rep.mono (T1 (b:=false) λz=>nomatch z))⟩⟩;have:=(r.mono t).take us.length
     rw[Ie] at this;exact this
    |false=>
     refine⟨.ref o,v,o,C,dx,_,_,p,l,us,ws,.ref l,rfl,e,D,T,lk2 c.ne,B,O,δ,xs,δ2,S,h2,λvs H2 R2=>k _ H2 ⟨R2.sta,R2.frm,R2.pur,.cons (bB.same (R2.pur hl) (.fzm (xs:=ws) (.inr ⟨o,C,dx,_,_,p,l,us,ws,E,e,s,.inr ⟨rfl,rfl⟩⟩) ?_)) (R2.rep.mono (T1 (b:=false) λz=>nomatch z))⟩⟩;have:=(r.mono t).drop us.length
     rw[Ls] at this;exact this
  ·cases h1
 ·cases h1
end
noncomputable def recV(f:b8->b8):Nat->b8
 |0=>λ_=>none
 |n+1=>f (recV f n)
theorem HW{P:Bb}{w:Rl}{K:Al}{mg:Rg->Option Rc}{base:Rn}{k n:Nat}{f:Rf}{fd:Ds}{ps:List Rg}{ml:List Nat}:bO P w K mg base CX0 k f fd ps (spV K ml n λ_=>none):=by
 refine⟨λvs H Q E h=>?_,λA outer s H args us vs Q E _ _ _ _ h=>?_⟩<;>
 ·obtain⟨_,_,_,_,_,_,h,_⟩:=h
  cases h
def TD(P:Bb)(w:Rl)(K:Al)(mg:Rg->Option Rc)(base:Rn)(x m:Rg)(k:Nat)(ps:List Rg)(mF:List Nat)(n:Nat)(F:b8)(f:Rf):Prop:=∃C,DefM P w K mg base x C m k ps (spV K mF n F) f
def A4m(K:Al)(c x q:Rg)(st:Rq)(f:Rf):Prop:=∃(C:Rf) (e:Rc) (od:Option Rf) (kV doc d:Rc) (g:Option Rf) (a ct:Rc) (b:Array (Option Rc)),
 Ge K Ri c=some (some (.ref C))/\Cls K C/\Ic K (.ref C) x=some (some (.ref f))/\W.isFn K (.ref f)=true∧
 K.lookup f=some ⟨e,od,.func (Hm x q (Z0 st) (aU st) (cV st) .none kV doc d g a ct),b⟩/\Iq K a q=true/\Eu K (.ref f)=true
theorem JX{P:Bb}{w:Rl}{K:Al}{mg:Rg->Option Rc}{base:Rn}{c x q:Rg}{st:Rq}{f:Rf}{ps:List Rg}{mF:List Nat}{n:Nat}{F:b8}{k:Nat}(p:A4m K c x q st f)(ok:∀{fd:Ds},YH K x q st f fd->bO P w K mg base CX0 k f fd ps (spV K mF n F))(l:∀{kV doc g:Rc} {h:Option Rf} {e ct:Rc} (us:List Rc),us.length=ps.length->bindArgs (Hm x q (Z0 st) (aU st) (cV st) .none kV doc g h e ct) ⟨us,[]⟩=pure (ps.zip us)):TD P w K mg base c x k ps mF n F f:=by obtain⟨C,o,od,kV,doc,g,h,e,ct,j,a,z,m,i,b,c,d⟩:=p;have U:=HH (st:=st) b c d;exact⟨C,a,z,⟨m,i,d⟩,_,ok U,U.binds λ_ _ _ _ _ _=>l⟩
def NewF(P:Bb)(w:Rl)(K:Al)(mg:Rg->Option Rc)(base:Rn)(y f g:Rg):Prop:=∃C ff fd ps,Mk K C ff/\bO P w K mg base CX0 1 ff fd ps (spI C f g)/\mg y=some (.ref C)/\Ge K Ri y=some (some (.ref C))/\WI K fd ps []
section
variable{X:Cx}{K:Al}{ml:List Nat}{e:Rk}{es:List Rk}{ps pu:Bool}{x f g m v:Rg}{pos ai ag aw af:Pos}{i j kk n:Nat}{fs:PJ}
theorem iE{pn:Pos}(h:NewF X.prog X.w K X.mg X.base x f g)(c:NA K x f g)(b:ZD j X.A)(i:X.K=K:=by rfl)(d:2<=j:=by decide)(e:Gl X x:=by rfl)(a:(x==("__debug__":Rg))=false:=by decide):PE X (.Call (.Name x pn) [] [] pos) (TN K ml true (AQ x f g)):=by obtain⟨C,ff,fd,ps,M,F,h1,h2,k⟩:=h;exact Xj i M F (b.mono d) e h1 h2 k c.ne a
theorem So(c:NA K x f g)(h:PE X e (XT i))(b:X.K=K:=by rfl)(a:Ce e f X.env (eval e X.env)=eval e X.env:=by rfl):PE X (.Attribute e f pos) (TV K ml true false true (fA x f g true i)):=Vi true b c h a
theorem Tg(c:NA K x f g)(h:PE X e (XT i))(b:X.K=K:=by rfl)(a:Ce e g X.env (eval e X.env)=eval e X.env:=by rfl):PE X (.Attribute e g pos) (TV K ml true false true (fA x f g false i)):=Vi false b c h a
theorem mU(c:NA K x f g)(h:PE X (.Name v ai) (XT i))(j:PA X (e::es) (EW K ml pu true fs))(k:X.K=K:=by rfl)(b:Ce (.Name v ai) f X.env (eval (.Name v ai) X.env)=eval (.Name v ai) X.env:=by rfl)(m:Ce (.Attribute (.Name v ai) f aw) "append" X.env (eval (.Attribute (.Name v ai) f aw) X.env)=eval (.Attribute (.Name v ai) f aw) X.env:=by rfl)(l:((Dx af (Ae (e::es) X.env)).all (λx=> !x.1)&&(Hf af (Es [] X.env)).all (λx=>x.1.isSome)&&decide ((e::es).length+([]:List Gg).length+(if([]:List Gg).isEmpty then 0 else 1)<30))=true:=by rfl)(n:(ag.endLine==af.line)=true:=by rfl)(d:Ae (e::es) X.env=(false,eval e X.env)::Ae es X.env:=by rfl)(o:(Dx af (Ae es X.env)).any (·.1)=false:=by rfl)(a:Er (.Call (.Attribute (.Attribute (.Name v ai) f aw) "append" ag) (e::es) [] af) none pos.line X.env=pure false:=by rfl):PS X (.Expr (.Call (.Attribute (.Attribute (.Name v ai) f aw) "append" ag) (e::es) [] af) pos) (TC K ml (NX x f g true i fs)):=CL true k c h j b m l n d o a
theorem Ur(c:NA K x f g)(h:PE X (.Name v ai) (XT i))(j:PA X (e::es) (EW K ml pu true fs))(k:X.K=K:=by rfl)(b:Ce (.Name v ai) g X.env (eval (.Name v ai) X.env)=eval (.Name v ai) X.env:=by rfl)(m:Ce (.Attribute (.Name v ai) g aw) "append" X.env (eval (.Attribute (.Name v ai) g aw) X.env)=eval (.Attribute (.Name v ai) g aw) X.env:=by rfl)(l:((Dx af (Ae (e::es) X.env)).all (λx=> !x.1)&&(Hf af (Es [] X.env)).all (λx=>x.1.isSome)&&decide ((e::es).length+([]:List Gg).length+(if([]:List Gg).isEmpty then 0 else 1)<30))=true:=by rfl)(n:(ag.endLine==af.line)=true:=by rfl)(d:Ae (e::es) X.env=(false,eval e X.env)::Ae es X.env:=by rfl)(o:(Dx af (Ae es X.env)).any (·.1)=false:=by rfl)(a:Er (.Call (.Attribute (.Attribute (.Name v ai) g aw) "append" ag) (e::es) [] af) none pos.line X.env=pure false:=by rfl):PS X (.Expr (.Call (.Attribute (.Attribute (.Name v ai) g aw) "append" ag) (e::es) [] af) pos) (TC K ml (NX x f g false i fs)):=CL false k c h j b m l n d o a
theorem vaP2{bs:Bool}(c:NA K x f g)(j:PE X e (XT i))(b:PA X es (EW K ml ps bs fs))(k:X.K=K:=by rfl)(h:Ce e g X.env (eval e X.env)=eval e X.env:=by rfl)(a:Ae (.Attribute e g pos::es) X.env=(false,eval (.Attribute e g pos) X.env)::Ae es X.env:=by rfl)(hl:ps=true:=by rfl)(d:i∉ml:=by decide):PA X (.Attribute e g pos::es) (EW K ml ps false (cZ (fA x f g false i) fs)):=kK false k c j h b a hl d
theorem VJ{ff:Rf}{qs:List Rg}{mF:List Nat}{F:b8}{gs:NM}{pl:Rv Bool}(D:TD X.prog X.w K X.mg X.base x m kk qs mF n F ff)(h:ZD j X.A)(k:PE X (.Name v ai) (XT i))(o:PA X (e::es) (CW K ml ps gs))(p:X.K=K:=by rfl)(l:f≠m/\g≠m:=by decide)(hk:kk<=j:=by decide)(a:Ae (e::es) X.env=(false,eval e X.env)::Ae es X.env:=by rfl)(b:(Dx pos (Ae es X.env)).any (·.1)=false:=by rfl)(d:eval (.Call (.Attribute (.Name v ai) m ag) (e::es) [] pos) X.env=(do
   let c<-eval (.Name v ai) X.env
   Mv ag.atName
   let (f,first)<-Jw [c] (Mj c m pl)
   callWith pos f first (Dx pos (Ae (e::es) X.env)) (Hf pos (Es [] X.env))):=by rfl):
  PE X (.Call (.Attribute (.Name v ai) m ag) (e::es) [] pos) (TV K ml (ps&&mF.isEmpty) true true (Y7 x f g i n mF F gs)):=by
 obtain⟨C,D⟩:=D;exact oB p D l h hk k o a b d
end
theorem mH(l b:Rf)(u v:Array Rc)(n m:Nat)(a:Array (Option Rc))(f:¬(!u.isEmpty&&Fs (u.size+v.size))=true)(h1:u.size<=sizeLine)(h2:(u++v).size<=sizeLine+1):Meets (Gb.«list.extend» ⟨[.ref l,.ref b],[]⟩) (λ_ R s=>s.heap.get? l=some ⟨.type "list",none,.seq u n,#[]⟩/\s.heap.get? b=some ⟨.type "list",none,.seq v m,a⟩/\R (.ok (.ret .none)) {s with heap:=s.heap.update l (Ef λx=>x++v)}):=
 .of_wp λprog w A R s h=>by
  obtain⟨e,g,d,tk,os⟩:=s;obtain⟨hl,c,h⟩:=h;have f1:=AutoSeq1.idx_int;have f2:=AutoSeq1.sub_tuple_tuple;have f3:=AutoSeq1.sub_list_list;have j:=AutoSeq1.sub_tuple_list;have i:=AutoSeq1.sub_list_tuple;wp_walk using(wpAny_updateSeq hl rfl (hz:=h1) (_hz':=h2)),Ek hl,Ek c
  exact⟨_,rfl,h⟩
def Sk(K:Al):V->List V->Hp->VK->Prop:=λx vs H Q=>∃l b xs zs,x=.ref l/\vs=[.ref b]/\H l=some (.lst xs)/\WT K H b zs/\xs.length+zs.length<=sizeLine/\Q .non (upd H l (.lst (xs++zs)))
theorem iD{X:Cx}:MtM X "list.extend" (Sk X.K):=by
 intro aa s σ H x vs v us Q I g i h;obtain⟨l,b,xs,zs,rfl,rfl,c,o,hz,q⟩:=h;cases g;obtain⟨u,rfl,j⟩:=i.one;cases j;obtain⟨z,its,n,r,hl,e⟩:=I.lstM c;obtain⟨a,r2,⟨⟨cls,t,data,f⟩,k,p,hc,hd,d⟩,_⟩:=I.list o;simp only at hc hd d;subst hc hd d;have m:=r2.length;have hsz:its.toArray.size+a.toArray.size<=sizeLine:=by rw[An,An];lia
 refine Gw F.slot_list_extend ⟨_,e,rfl⟩ F.entry_list_extend (F.args_list_extend_2 _ _) (mH l b its.toArray a.toArray n k f (by rw[We hsz,Bool.and_false];exact Dr) (by rw[An];lia) (by rw[Array.size_append];lia)) ⟨e,p,?_⟩
 refine⟨.non,_,I.lset (its':=its++a) c e (by simp) (r.append r2) ?_,rfl,q⟩;rw[Ao];lia
theorem Tz{X:Cx}{K:Al}(h:X.K=K):MtM X "list.extend" (Sk K):=by subst h;exact iD
noncomputable def mExt:List c6->List c6->Option (List c6)
 |ds,[.lst es]=>if ds.length+es.length<=16777216 then some (ds++es) else none
 |_,_=>none
theorem To{K:Al}:MuV K (Sk K) mExt:=by
 intro H N l xs vs ds es e Q hl f a c h k;cases c with
 |nil=>cases h
 | @cons v vs d es hd t=>
  cases t with
  |cons _ _=>cases d<;>cases h
  |nil=>
   cases d with
   |lst es=>
    simp only[mExt] at h;split at h
    ·rename_i hz
     cases h;obtain⟨b,zs,rfl,sq,r⟩:=hd.lstE;exact⟨l,b,xs,zs,rfl,rfl,hl,sq,by rw[a.length,r.length,Cm];exact hz,k _ _ (a.append r)⟩
    ·cases h
   |_=>cases h
noncomputable def QY{α:Type}(k:Nat)(xs:List α):List α:=(Bn k xs).flatten
theorem gY{α:Type}(k:Nat)(xs:List α):(QY k xs).length=xs.length*k:=by
 unfold QY;induction k with
 |zero=>simp
 |succ k a=>rw[Di,Fu,Ao,a,Nat.mul_succ,Nu]
theorem bS.repV{xs:List V}{us:List Rc}(r:bS xs us)(k:Nat):bS (QY k xs) (QY k us):=by
 unfold QY;induction k with
 |zero=>exact .nil
 |succ k a=>rw[Di,Di,Fu,Fu];exact r.append a
theorem b6.rep{K:Al}{N:Rf->Prop}{H:Hp}{xs:List V}{ds:List c6}(r:b6 K N H xs ds)(k:Nat):b6 K N H (QY k xs) (QY k ds):=by
 unfold QY;induction k with
 |zero=>exact .nil
 |succ k a=>rw[Di,Di,Fu,Fu];exact r.append a
section
variable{X:Cx}{K:Al}
def Sa(K:Al):R2:=λx y H Q=>∃l xs k,x=.ref l/\y=.int k/\WT K H l xs/\(0<=k/\k<2 ^ 62)/\xs.length*k.toNat<=16777216/\∀p,H p=none->Q (.ref p) (upd H p (.lst (QY k.toNat xs)))
theorem jJ:WB X (Fk .Mult) (Sa X.K):=by
 intro aa s σ H x y v u Q I g f h;obtain⟨l,xs,x,rfl,rfl,i,⟨k,j⟩,hz,q⟩:=h;cases g;obtain⟨t,rfl⟩:=f;obtain⟨its,r,⟨⟨cls,p,data,c⟩,n,a,hc,hd,d⟩,_⟩:=I.list i;simp only at hc hd d;subst hc hd d;have hl:=r.length;have hsz:its.toArray.size*x.toNat<=16777216:=by rw[An,<-hl];exact hz
 refine wpAny_binaryOp_repeat_ref (T:= "list") (U:= "int") (by decide) ⟨_,a,rfl⟩ (λs'=>Pz s' x t) noFill_list_mul F.fills_int_mul Pj repeat_list F.slot_int_index.lookup
  (Gw Pj (Pz s x t) F.entry_int_rmul (F.args_int_rmul_2 _ _) (lm_int_rmul_list_any x t l its.toArray n none c) ⟨a,rfl,⟨_,a,rfl⟩,?_⟩)
 refine Gw F.slot_list_mul ⟨_,a,rfl⟩ F.entry_list_mul (F.args_list_mul_2 _ _) (lm_list_mul_any l its.toArray n none c x t (by simp[Builtin.List.listFitsIndex];lia) (by lia) (by simp[Fs,sizeLine];lia)) ⟨a,?_⟩;rw[listMul_foldl_if];refine⟨.ref s.heap.objs.size,_,I.laid (t':=s.toks) (o:=.lst (QY x.toNat xs)) (λb m e=>Ad _ e) (Au _) ?_,rfl,q _ (I.hok.fresh (Au _))⟩;exact⟨by rw[gY,Cm];exact hz,QY x.toNat its,0,r.repV _,Av _ rfl⟩
theorem kRep(h:X.K=K):WB X (Fk .Mult) (Sa K):=by subst h;exact jJ
noncomputable def BJ:c6->c6->Option c6
 |.lst ds,.int k=>if(0<=k/\k<2 ^ 62)/\ds.length*k.toNat<=16777216 then some (.lst (QY k.toNat ds)) else none
 |_,_=>none
theorem kW:OpC K (Sa K) BJ:=by
 intro H N M M' x y d e c Q g f h k;cases d with
 |lst ds=>
  cases e with
  |int i=>
   simp only[BJ] at h;split at h
   ·rename_i hz
    cases h;obtain⟨a,xs,rfl,q1,r1⟩:=g.lstE;cases f;exact⟨a,xs,i,rfl,rfl,q1,hz.1,by rw[r1.length];exact hz.2,λp b=>k _ _ (cS b) λM j=>.lst cN (λz=>by obtain⟨o,q⟩:=j _ z;rw[b] at q;cases q) ((r1.rep _).same (cS b))⟩
   ·cases h
  |_=>cases h
 |_=>cases h
end
theorem iW{P:Bb}{w:Rl}{K:Al}{mg:Rg->Option Rc}{base h:Rn}{y q f g:Rg}{st:Rq}{ff:Rf}(X:K.In h)(G:h.Ns Ri mg)(c:NA K y f g)(p:A4m K y "__init__" q st ff)(mk:∀C,Ge K Ri y=some (some (.ref C))->Kz K C=true/\Eu K (.ref C)=true)(ok:∀{C:Rf} {fd:Ds},YH K "__init__" q st ff fd->Cls K C->ZC K C f->ZC K C g->bO P w K mg base CX0 1 ff fd ["self"] (spI C f g))(n:∀{kV doc j:Rc} {k:Option Rf} {e ct:Rc} (us:List Rc),us.length=1->bindArgs (Hm "__init__" q (Z0 st) (aU st) (cV st) .none kV doc j k e ct) ⟨us,[]⟩=pure ((["self"]:List Rg).zip us)):NewF P w K mg base y f g:=by obtain⟨C,t,od,kV,doc,j,k,e,ct,l,a,z,m,i,b,s,d⟩:=p;have U:=HH (st:=st) b s d;obtain⟨r,c2,o⟩:=c.cls C a;exact⟨C,ff,_,["self"],⟨(mk C a).1,m,i,(mk C a).2⟩,ok U r c2 o,Ft X G a,a,U.binds λ_ _ _ _ _ _=>n⟩
theorem ini2{X:Cx}{K:Al}{f g v:Rg}{a p2 i h e d c b:Pos}(h1:PE X (.Name v a) (XT 0))(h2:PE X (.Name v p2) (XT 0))(j:X.K=K:=by rfl)(s1:Er (.List [] i) (some (.Attribute (.Name v a) f h)) e.line X.env=pure false:=by rfl)(s2:Er (.List [] d) (some (.Attribute (.Name v p2) g c)) b.line X.env=pure false:=by rfl):PF X [.Assign [.Attribute (.Name v a) f h] (.List [] i) e,.Assign [.Attribute (.Name v p2) g c] (.List [] d) b] (tSeq (sFld K (XT 0) (tLst KZ) f) (sFld K (XT 0) (tLst KZ) g)):=by subst j;exact L7 (Ve h1 (DY ZE) s1) (gL (Ve h2 (DY ZE) s2))
theorem clsF{K:Al}{x f g:Rg}{C:Rf}(h:Ge K Ri x=some (some (.ref C)))(c:Cls K C)(d:ZC K C f)(b:ZC K C g)(a:f≠g:=by decide):NA K x f g:=⟨λe h'=>by rw[h] at h';cases h';exact⟨c,d,b⟩,a⟩
theorem mksF{K:Al}{x:Rg}{C:Rf}(h:Ge K Ri x=some (some (.ref C)))(h1:Kz K C=true)(h2:Eu K (.ref C)=true):∀C,Ge K Ri x=some (some (.ref C))->Kz K C=true/\Eu K (.ref C)=true:=λa h'=>by rw[h] at h';cases h';exact⟨h1,h2⟩
end L2
namespace L2
open PySem
section
variable{α β:Type}{d x y z c:c6}{δ δ1 δ':Ev}{fa fb fc:VF}{o o':c6->c6->Option c6}{i j k n:Nat}{s:Sl}{b:Bool}{ds:List c6}
noncomputable def q0(r:Option α)(δ:Ev):Option (α×Ev):=r.map λc=>(c,δ)
@[simp] theorem q0_s{a:α}:q0 (some a) δ=some (a,δ):=rfl
@[simp] theorem fC_e:fC d δ=some (d,δ):=rfl
noncomputable def qV:Option Sl->Ev->Option (c6×Ev)
 |some (.va d),δ=>some (d,δ)
 |_,_=>none
noncomputable def qO:Option Sl->Ev->Option (c6×Ev)
 |some (.va d),δ=>some (d,δ)
 |some (.ow d),δ=>some (d,δ)
 |_,_=>none
@[simp] theorem fV_e:fV i δ=qV δ[i]? δ:=by unfold fV qV;split<;>simp_all
@[simp] theorem fO_e:fO i δ=qO δ[i]? δ:=by unfold fO qO;split<;>simp_all
@[simp] theorem qV_s:qV (some (.va d)) δ=some (d,δ):=rfl
@[simp] theorem qO_v:qO (some (.va d)) δ=some (d,δ):=rfl
@[simp] theorem qO_o:qO (some (.ow d)) δ=some (d,δ):=rfl
noncomputable def q1(o:c6->Option c6)(r:Option (c6×Ev)):Option (c6×Ev):=r.bind λp=>q0 (o p.1) p.2
@[simp] theorem f1_e{o:c6->Option c6}:f1 o fa δ=q1 o (fa δ):=rfl
@[simp] theorem q1_s{o:c6->Option c6}:q1 o (some (x,δ))=q0 (o x) δ:=rfl
noncomputable def q2(o:c6->c6->Option c6)(r:Option (c6×Ev))(fb:VF):Option (c6×Ev):=r.bind λp=>(fb p.2).bind λq=>q0 (o p.1 q.1) q.2
noncomputable def q2b(o:c6->c6->Option c6)(x:c6)(r:Option (c6×Ev)):Option (c6×Ev):=r.bind λq=>q0 (o x q.1) q.2
@[simp] theorem f2_e:f2 o fa fb δ=q2 o (fa δ) fb:=rfl
@[simp] theorem q2_s:q2 o (some (x,δ)) fb=q2b o x (fb δ):=rfl
@[simp] theorem sM:q2b o x (some (y,δ))=q0 (o x y) δ:=rfl
noncomputable def q3(o o':c6->c6->Option c6)(r:Option (c6×Ev))(fb fc:VF):Option (c6×Ev):=r.bind λp=>(fb p.2).bind λq=>(o p.1 q.1).bind λz=>match z with
 |.bl true=>(fc q.2).bind λs=>(o' q.1 s.1).map λu=>(u,s.2)
 |.bl false=>some (.bl false,q.2)
 |_=>none
noncomputable def q3b(o o':c6->c6->Option c6)(x:c6)(r:Option (c6×Ev))(fc:VF):Option (c6×Ev):=q3 o o' (some (x,[])) (λ_=>r) fc
noncomputable def q3c(o':c6->c6->Option c6)(y:c6)(δ:Ev)(fc:VF):Option c6->Option (c6×Ev)
 |some (.bl true)=>q2b o' y (fc δ)
 |some (.bl false)=>some (.bl false,δ)
 |_=>none
@[simp] theorem f3_e:f3 o o' fa fb fc δ=q3 o o' (fa δ) fb fc:=rfl
@[simp] theorem q3_s:q3 o o' (some (x,δ)) fb fc=q3b o o' x (fb δ) fc:=rfl
@[simp] theorem wz:q3b o o' x (some (y,δ)) fc=q3c o' y δ fc (o x y):=by
 simp only[q3b,q3,Ak];cases o x y with
 |none=>rfl
 |some z=>cases z with
  |bl b=>cases b<;>rfl
  |_=>rfl
@[simp] theorem uS:q3c o' y δ fc (some (.bl true))=q2b o' y (fc δ):=rfl
@[simp] theorem uz:q3c o' y δ fc (some (.bl false))=some (.bl false,δ):=rfl
noncomputable def qc(r:Option (c6×Ev))(fs:PJ):Option (List c6×Ev):=r.bind λp=>(fs p.2).map λq=>(p.1::q.1,q.2)
noncomputable def qcb(x:c6)(r:Option (List c6×Ev)):Option (List c6×Ev):=r.map λq=>(x::q.1,q.2)
@[simp] theorem uA:cC δ=some ([],δ):=rfl
@[simp] theorem wB{fs:PJ}:cZ fa fs δ=qc (fa δ) fs:=rfl
@[simp] theorem qc_s{fs:PJ}:qc (some (x,δ)) fs=qcb x (fs δ):=rfl
@[simp] theorem we:qcb x (some (ds,δ))=some (x::ds,δ):=rfl
noncomputable def qT(g:List c6->c6)(r:Option (List c6×Ev)):Option (c6×Ev):=r.bind λp=>if p.1.length<=16777216 then some (g p.1,p.2) else none
@[simp] theorem tD{fs:PJ}:bE fs δ=qT .tup (fs δ):=rfl
@[simp] theorem tR{fs:PJ}:YT fs δ=qT .lst (fs δ):=rfl
@[simp] theorem qT_s{g:List c6->c6}:qT g (some (ds,δ))=if ds.length<=16777216 then some (g ds,δ) else none:=rfl
noncomputable def qB:Option (c6×Ev)->Option (Bool×Ev)
 |some (.bl k,δ)=>some (k,δ)
 |_=>none
@[simp] theorem fB_e:fB fa δ=qB (fa δ):=by
 unfold fB qB;cases fa δ with
 |none=>rfl
 |some p=>
  obtain⟨d,e⟩:=p;cases d<;>rfl
@[simp] theorem qB_s:qB (some (.bl b,δ))=some (b,δ):=rfl
variable{tb tb':VB}{g g':VS}
noncomputable def qAnd(r:Option (Bool×Ev))(y:VB):Option (Bool×Ev):=r.bind λp=>if p.1=true then y p.2 else some (false,p.2)
noncomputable def qOr(r:Option (Bool×Ev))(y:VB):Option (Bool×Ev):=r.bind λp=>if p.1=true then some (true,p.2) else y p.2
noncomputable def qNot(r:Option (Bool×Ev)):Option (Bool×Ev):=r.map λp=>(!p.1,p.2)
@[simp] theorem sB:ND tb tb' δ=qAnd (tb δ) tb':=rfl
@[simp] theorem vk:ET tb tb' δ=qOr (tb δ) tb':=rfl
@[simp] theorem sL:UY tb δ=qNot (tb δ):=rfl
@[simp] theorem Te:WC δ=some (true,δ):=rfl
@[simp] theorem vL:qAnd (some (true,δ)) tb=tb δ:=rfl
@[simp] theorem xh:qAnd (some (false,δ)) tb=some (false,δ):=rfl
@[simp] theorem wc:qOr (some (true,δ)) tb=some (true,δ):=rfl
@[simp] theorem x8:qOr (some (false,δ)) tb=tb δ:=rfl
@[simp] theorem wQ:qNot (some (b,δ))=some (!b,δ):=rfl
noncomputable def qA(r:Option (c6×Ev))(y:VF):Option (c6×Ev):=r.bind λp=>match p.1 with
 |.bl true=>y p.2
 |.bl false=>some (.bl false,p.2)
 |_=>none
@[simp] theorem um:PV fa fb δ=qA (fa δ) fb:=rfl
@[simp] theorem qA_t:qA (some (.bl true,δ)) fb=fb δ:=rfl
@[simp] theorem qA_f:qA (some (.bl false,δ)) fb=some (.bl false,δ):=rfl
noncomputable def qI(r:Option (Bool×Ev))(x y:VF):Option (c6×Ev):=r.bind λp=>if p.1=true then x p.2 else y p.2
@[simp] theorem sY:JK tb fa fb δ=qI (tb δ) fa fb:=rfl
@[simp] theorem qI_t:qI (some (true,δ)) fa fb=fa δ:=rfl
@[simp] theorem qI_f:qI (some (false,δ)) fa fb=fb δ:=rfl
noncomputable def qS(r:Option Ou)(g:VS):Option Ou:=r.bind λo=>match o with
 |.nx δ'=>g δ'
 |o=>some o
@[simp] theorem rH:a8 δ=some (.nx δ):=rfl
@[simp] theorem Vm:cI g g' δ=qS (g δ) g':=rfl
@[simp] theorem qS_n:qS (some (.nx δ)) g=g δ:=rfl
@[simp] theorem qS_r:qS (some (.rt d δ)) g=some (.rt d δ):=rfl
@[simp] theorem qS_b:qS (some (.bk δ)) g=some (.bk δ):=rfl
@[simp] theorem qS_c:qS (some (.ct δ)) g=some (.ct δ):=rfl
noncomputable def qJ(r:Option (Bool×Ev))(x y:VS):Option Ou:=r.bind λp=>if p.1=true then x p.2 else y p.2
@[simp] theorem rY:YD tb g g' δ=qJ (tb δ) g g':=rfl
@[simp] theorem qJ_t:qJ (some (true,δ)) g g'=g δ:=rfl
@[simp] theorem qJ_f:qJ (some (false,δ)) g g'=g' δ:=rfl
noncomputable def qRet(r:Option (c6×Ev)):Option Ou:=r.map λp=>.rt p.1 p.2
noncomputable def Uz(r:Option (c6×Ev)):Option Ou:=r.map λp=>.nx p.2
@[simp] theorem vH:b5 fa δ=qRet (fa δ):=rfl
@[simp] theorem tK:qRet (some (d,δ))=some (.rt d δ):=rfl
@[simp] theorem sG:Q5 fa δ=Uz (fa δ):=rfl
@[simp] theorem ut:Uz (some (d,δ))=some (.nx δ):=rfl
noncomputable def qx(f:c6->Sl)(r:Option (c6×Ev)):Option (Sl×Ev):=r.map λp=>(f p.1,p.2)
@[simp] theorem xV_e:xV fa δ=qx .va (fa δ):=rfl
@[simp] theorem xO_e:xO fa δ=qx .ow (fa δ):=rfl
@[simp] theorem qx_s{f:c6->Sl}:qx f (some (d,δ))=some (f d,δ):=rfl
noncomputable def qSet(i:Nat)(r:Option (Sl×Ev)):Option Ou:=r.bind λp=>if i<p.2.length then some (.nx (p.2.set i p.1)) else none
@[simp] theorem rJ{x:VX}:aL i x δ=qSet i (x δ):=rfl
@[simp] theorem xp:qSet i (some (s,δ))=if i<δ.length then some (.nx (δ.set i s)) else none:=rfl
noncomputable def qP2(i j:Nat)(r:Option (Sl×Ev))(y:VX):Option Ou:=r.bind λp=>(y p.2).bind λq=>if i<q.2.length/\j<q.2.length then some (.nx ((q.2.set j q.1).set i p.1)) else none
noncomputable def qP2b(i j:Nat)(s:Sl)(r:Option (Sl×Ev)):Option Ou:=r.bind λq=>if i<q.2.length/\j<q.2.length then some (.nx ((q.2.set j q.1).set i s)) else none
@[simp] theorem rR{x y:VX}:GI i j x y δ=qP2 i j (x δ) y:=rfl
@[simp] theorem tW{y:VX}:qP2 i j (some (s,δ)) y=qP2b i j s (y δ):=rfl
@[simp] theorem w6{s':Sl}:qP2b i j s (some (s',δ))=if i<δ.length/\j<δ.length then some (.nx ((δ.set j s').set i s)) else none:=rfl
noncomputable def qP3(i j k:Nat)(r:Option (Sl×Ev))(y z:VX):Option Ou:=r.bind λp=>(y p.2).bind λq=>(z q.2).bind λr=>if i<r.2.length/\j<r.2.length/\k<r.2.length then some (.nx (((r.2.set k r.1).set j q.1).set i p.1)) else none
noncomputable def qP3b(i j k:Nat)(s:Sl)(r:Option (Sl×Ev))(z:VX):Option Ou:=r.bind λq=>(z q.2).bind λr=>if i<r.2.length/\j<r.2.length/\k<r.2.length then some (.nx (((r.2.set k r.1).set j q.1).set i s)) else none
noncomputable def qP3c(i j k:Nat)(s s':Sl)(r:Option (Sl×Ev)):Option Ou:=r.bind λr=>if i<r.2.length/\j<r.2.length/\k<r.2.length then some (.nx (((r.2.set k r.1).set j s').set i s)) else none
@[simp] theorem vB{x y z:VX}:MC i j k x y z δ=qP3 i j k (x δ) y z:=rfl
@[simp] theorem w5{y z:VX}:qP3 i j k (some (s,δ)) y z=qP3b i j k s (y δ) z:=rfl
@[simp] theorem tY{s':Sl}{z:VX}:qP3b i j k s (some (s',δ)) z=qP3c i j k s s' (z δ):=rfl
@[simp] theorem wK{s' a:Sl}:qP3c i j k s s' (some (a,δ))=if i<δ.length/\j<δ.length/\k<δ.length then some (.nx (((δ.set k a).set j s').set i s)) else none:=rfl
@[simp] theorem NE:gN i d δ=some (δ.set i (.va d)):=rfl
def qg(r:Option Ev)(gs:VGs)(ds:List c6):Option Ev:=r.bind λδ1=>gs ds δ1
@[simp] theorem vW:ZA [] δ=some δ:=rfl
@[simp] theorem wF{gg:VG}{gs:VGs}:bZ gg gs (d::ds) δ=qg (gg d δ) gs ds:=rfl
@[simp] theorem qg_s{gs:VGs}:qg (some δ) gs ds=gs ds δ:=rfl
@[simp] theorem wt{gs:VGs}:PC n gs (.tup ds) δ=if ds.length=n then gs ds δ else none:=rfl
@[simp] theorem tQ{gs:VGs}:PC n gs (.lst ds) δ=if ds.length=n then gs ds δ else none:=rfl
noncomputable def qAsg(r:Option (c6×Ev))(gg:VG):Option Ou:=r.bind λp=>(gg p.1 p.2).map Ou.nx
@[simp] theorem tM{gg:VG}:NI fa gg δ=qAsg (fa δ) gg:=rfl
@[simp] theorem xf{gg:VG}:qAsg (some (d,δ)) gg=(gg d δ).map Ou.nx:=rfl
noncomputable def qM(i:Nat)(m:List c6->List c6->Option (List c6))(r:Option (List c6))(δ:Ev)(fs:PJ):Option Ou:=r.bind λ_=>(fs δ).bind λp=>(VM p.2 i).bind λds=>(m ds p.1).map λa=>.nx (p.2.set i (.ow (.lst a)))
noncomputable def qMb(i:Nat)(m:List c6->List c6->Option (List c6))(r:Option (List c6×Ev)):Option Ou:=r.bind λp=>(VM p.2 i).bind λds=>(m ds p.1).map λa=>.nx (p.2.set i (.ow (.lst a)))
noncomputable def qMc(i:Nat)(m:List c6->List c6->Option (List c6))(es:List c6)(δ:Ev)(r:Option (List c6)):Option Ou:=r.bind λds=>(m ds es).map λa=>.nx (δ.set i (.ow (.lst a)))
noncomputable def qMd(i:Nat)(δ:Ev)(r:Option (List c6)):Option Ou:=r.map λa=>.nx (δ.set i (.ow (.lst a)))
@[simp] theorem uF{m:List c6->List c6->Option (List c6)}{fs:PJ}:U6 i m fs δ=qM i m (VM δ i) δ fs:=rfl
@[simp] theorem qM_s{m:List c6->List c6->Option (List c6)}{fs:PJ}:qM i m (some ds) δ fs=qMb i m (fs δ):=rfl
@[simp] theorem sN{m:List c6->List c6->Option (List c6)}{es:List c6}:qMb i m (some (es,δ))=qMc i m es δ (VM δ i):=rfl
@[simp] theorem ve{m:List c6->List c6->Option (List c6)}{es:List c6}:qMc i m es δ (some ds)=qMd i δ (m ds es):=rfl
@[simp] theorem wa:qMd i δ (some ds)=some (.nx (δ.set i (.ow (.lst ds)))):=rfl
noncomputable def qOl:Option Sl->Option (List c6)
 |some (.ow (.lst ds))=>some ds
 |_=>none
@[simp] theorem vU:VM δ i=qOl δ[i]? :=by unfold VM qOl;split<;>simp_all
@[simp] theorem tE:qOl (some (.ow (.lst ds)))=some ds:=rfl
@[simp] theorem rL:TM ds [d]=if ds.length<16777216 then some (ds++[d]) else none:=rfl
noncomputable def qOd:Option Sl->Option (List aG×List c6)
 |some (.ow (.dct ks ds))=>some (ks,ds)
 |_=>none
@[simp] theorem wj:WP δ i=qOd δ[i]? :=by unfold WP qOd;split<;>simp_all
@[simp] theorem vS{ks:List aG}:qOd (some (.ow (.dct ks ds)))=some (ks,ds):=rfl
noncomputable def qL(i:Nat)(r:Option (c6×Ev))(a:VF):Option Ou:=r.bind λp=>(VM p.2 i).bind λ_=>(a p.2).bind λq=>(VM q.2 i).bind λds=>match q.1 with
 |.int k=>(JQ ds.length k).map λj=>.nx (q.2.set i (.ow (.lst (ds.set j p.1))))
 |_=>none
noncomputable def qLb(i:Nat)(x:c6)(r:Option (List c6))(δ:Ev)(a:VF):Option Ou:=r.bind λ_=>(a δ).bind λq=>(VM q.2 i).bind λds=>match q.1 with
 |.int k=>(JQ ds.length k).map λj=>.nx (q.2.set i (.ow (.lst (ds.set j x))))
 |_=>none
noncomputable def qLc(i:Nat)(x:c6)(r:Option (c6×Ev)):Option Ou:=r.bind λq=>(VM q.2 i).bind λds=>match q.1 with
 |.int k=>(JQ ds.length k).map λj=>.nx (q.2.set i (.ow (.lst (ds.set j x))))
 |_=>none
noncomputable def qLd(i:Nat)(x:c6)(k:Int)(δ:Ev)(r:Option (List c6)):Option Ou:=r.bind λds=>(JQ ds.length k).map λj=>.nx (δ.set i (.ow (.lst (ds.set j x))))
@[simp] theorem sU{b a:VF}:CB i b a δ=qL i (a δ) b:=rfl
@[simp] theorem qL_s{a:VF}:qL i (some (x,δ)) a=qLb i x (VM δ i) δ a:=rfl
@[simp] theorem vK{a:VF}:qLb i x (some ds) δ a=qLc i x (a δ):=rfl
@[simp] theorem sE{k:Int}:qLc i x (some (.int k,δ))=qLd i x k δ (VM δ i):=rfl
@[simp] theorem rX{k:Int}:qLd i x k δ (some ds)=(JQ ds.length k).map λj=>.nx (δ.set i (.ow (.lst (ds.set j x)))):=rfl
noncomputable def qi(r:Option (c6×Ev)):Option (List c6×Ev):=r.bind λp=>(WR p.1).map λds=>(ds,p.2)
@[simp] theorem x5:WO fa δ=qi (fa δ):=rfl
@[simp] theorem qi_t:qi (some (.tup ds,δ))=some (ds,δ):=rfl
@[simp] theorem qi_l:qi (some (.lst ds,δ))=some (ds,δ):=rfl
noncomputable def qr1:Option (c6×Ev)->Option (List c6×Ev)
 |some (.int j,δ)=>if -4611686018427387904<=j/\j<4611686018427387904 then some (ZF 0 j.toNat,δ) else none
 |_=>none
@[simp] theorem vx:iR1 fa δ=qr1 (fa δ):=by
 unfold iR1 qr1;cases fa δ with
 |none=>rfl
 |some p=>
  obtain⟨d,e⟩:=p;cases d<;>rfl
@[simp] theorem sF{j:Int}:qr1 (some (.int j,δ))=if -4611686018427387904<=j/\j<4611686018427387904 then some (ZF 0 j.toNat,δ) else none:=rfl
noncomputable def qe(r:Option (c6×Ev)):Option (List c6×Ev):=r.bind λp=>(WR p.1).map λds=>(Y6 0 ds,p.2)
@[simp] theorem rT:P1 fa δ=qe (fa δ):=rfl
@[simp] theorem qe_t:qe (some (.tup ds,δ))=some (Y6 0 ds,δ):=rfl
@[simp] theorem qe_l:qe (some (.lst ds,δ))=some (Y6 0 ds,δ):=rfl
noncomputable def qz(r:Option (c6×Ev))(g:VF):Option (List c6×Ev):=r.bind λp=>(g p.2).bind λq=>(WR p.1).bind λds=>(WR q.1).map λes=>(RF ds es,q.2)
noncomputable def qzb(x:c6)(r:Option (c6×Ev)):Option (List c6×Ev):=r.bind λq=>(WR x).bind λds=>(WR q.1).map λes=>(RF ds es,q.2)
@[simp] theorem vj:iZip fa fb δ=qz (fa δ) fb:=rfl
@[simp] theorem qz_s:qz (some (x,δ)) fb=qzb x (fb δ):=rfl
@[simp] theorem sC:qzb x (some (y,δ))=(WR x).bind λds=>(WR y).map λes=>(RF ds es,δ):=rfl
@[simp] theorem vm:WR (.tup ds)=some ds:=rfl
@[simp] theorem xl:WR (.lst ds)=some ds:=rfl
noncomputable def qF(r:Option (List c6×Ev))(gg:VG)(g:VS):Option Ou:=r.bind λp=>YQ gg g p.1 p.2
@[simp] theorem iY{a:VI}{gg:VG}:RB a gg g δ=qF (a δ) gg g:=rfl
@[simp] theorem qF_s{gg:VG}:qF (some (ds,δ)) gg g=YQ gg g ds δ:=rfl
noncomputable def qK(ix:List Nat)(nl:Nat)(r:Option (List c6×Ev))(gg:VG)(tb:VB)(fe:VF):Option (c6×Ev):=r.bind λp=>(ZZ ix.length nl gg tb fe p.1 [] (bL ix p.2)).map λq=>(.lst q.1,YC ix q.2 p.2)
noncomputable def qKb(ix:List Nat)(δ:Ev)(r:Option (List c6×Ev)):Option (c6×Ev):=r.map λq=>(.lst q.1,YC ix q.2 δ)
@[simp] theorem wR{ix:List Nat}{nl:Nat}{a:VI}{gg:VG}:ZR ix nl a gg tb fa δ=qK ix nl (a δ) gg tb fa:=rfl
@[simp] theorem qK_s{ix:List Nat}{nl:Nat}{gg:VG}:qK ix nl (some (ds,δ)) gg tb fa=qKb ix δ (ZZ ix.length nl gg tb fa ds [] (bL ix δ)):=rfl
@[simp] theorem rM{ix:List Nat}:qKb ix δ (some (ds,δ1))=some (.lst ds,YC ix δ1 δ):=rfl
variable{as:List AV}{fs:NM}{mF:List Nat}{F:b8}
noncomputable def qa(r:Option (c6×Ev))(fs:NM):Option (List AV×Ev):=r.bind λp=>(fs p.2).map λq=>(.d p.1::q.1,q.2)
noncomputable def qab(x:AV)(r:Option (List AV×Ev)):Option (List AV×Ev):=r.map λq=>(x::q.1,q.2)
@[simp] theorem qR:b9 δ=some ([],δ):=rfl
@[simp] theorem EX:aE fa fs δ=qa (fa δ) fs:=rfl
@[simp] theorem qa_s:qa (some (x,δ)) fs=qab (.d x) (fs δ):=rfl
@[simp] theorem Si{a:AV}:qab a (some (as,δ))=some (a::as,δ):=rfl
noncomputable def qao(j:Nat)(r:Option c6)(δ:Ev)(fs:NM):Option (List AV×Ev):=r.bind λ_=>qab (.o j) (fs δ)
@[simp] theorem aO_e:aO j fs δ=qao j (slot δ j) δ fs:=rfl
@[simp] theorem nT:qao j (some d) δ fs=qab (.o j) (fs δ):=rfl
noncomputable def qsl:Option Sl->Option c6
 |some (.va d)=>some d
 |some (.ow d)=>some d
 |_=>none
@[simp] theorem uV:slot δ j=qsl δ[j]? :=by unfold slot qsl;split<;>simp_all
@[simp] theorem xk:qsl (some (.va d))=some d:=rfl
@[simp] theorem uu:qsl (some (.ow d))=some d:=rfl
@[simp] theorem tS:U7 δ []=some []:=rfl
@[simp] theorem sO:U7 δ (.d d::as)=(U7 δ as).map λds=>d::ds:=rfl
@[simp] theorem rN:U7 δ (.o j::as)=(slot δ j).bind λd=>(U7 δ as).map λds=>d::ds:=rfl
noncomputable def Ua(n:Nat)(mF:List Nat)(F:b8)(r:Option (List AV×Ev)):Option (c6×Ev):=r.bind λp=>(U7 p.2 p.1).bind λds=>if ds.length=n/\T4 mF p.1 p.2=true then(F ds).bind λq=>if UZ mF p.1 q.1 q.2=true then some (q.1,US p.1 mF q.2 p.2) else none else none
noncomputable def qCb(n:Nat)(mF:List Nat)(F:b8)(as:List AV)(δ:Ev)(r:Option (List c6)):Option (c6×Ev):=r.bind λds=>if ds.length=n/\T4 mF as δ=true then(F ds).bind λq=>if UZ mF as q.1 q.2=true then some (q.1,US as mF q.2 δ) else none else none
noncomputable def qCc(mF:List Nat)(as:List AV)(δ:Ev)(r:Option (c6×List c6)):Option (c6×Ev):=r.bind λq=>if UZ mF as q.1 q.2=true then some (q.1,US as mF q.2 δ) else none
@[simp] theorem MX:cQ n mF F fs δ=Ua n mF F (fs δ):=rfl
@[simp] theorem Zf:Ua n mF F (some (as,δ))=qCb n mF F as δ (U7 δ as):=rfl
@[simp] theorem lI:qCb n mF F as δ (some ds)=if ds.length=n/\T4 mF as δ=true then qCc mF as δ (F ds) else none:=rfl
@[simp] theorem fU{os:List c6}:qCc mF as δ (some (d,os))=if UZ mF as d os=true then some (d,US as mF os δ) else none:=rfl
@[simp] theorem tI:BD δ as i=(match as[i]? with
 |some (.o j)=>match δ[j]? with
  |some (.ow _)=>true
  |_=>false
 |_=>false):=rfl
@[simp] theorem vq:TK []=[]:=rfl
@[simp] theorem uR:TK (.d d::as)=TK as:=rfl
@[simp] theorem v5:TK (.o j::as)=j::TK as:=rfl
@[simp] theorem vA:T4 mF as δ=(mF.all (BD δ as)&&decide (TK as).Nodup):=rfl
@[simp] theorem xa:VO mF [] i=true:=rfl
@[simp] theorem xj:VO mF (.d d::as) i=VO mF as (i+1):=rfl
@[simp] theorem rK:VO mF (.o j::as) i=(decide (i∈mF)&&VO mF as (i+1)):=rfl
@[simp] theorem w9{os:List c6}:UZ mF as d os=((VO mF as 0 || d.hard)&&(VO mF as 0 || os.all SQ)&&decide (mF.length=os.length)):=rfl
@[simp] theorem wO{os:List c6}:US as [] os δ=δ:=by cases os<;>rfl
@[simp] theorem wL{os:List c6}{is:List Nat}:US as (i::is) (d::os) δ=(match as[i]? with
  |some (.o j)=>US as is os (δ.set j (.ow d))
  |_=>US as is os δ):=rfl
@[simp] theorem sP:dflt F d ds=F (ds++[d]):=rfl
noncomputable def qH(n:Nat)(mF:List Nat)(tb:List (Rg×b8))(fs:NM)(δ:Ev):Option Sl->Option (c6×Ev)
 |some (.va (.fn x))=>(VZ tb x).bind λF=>cQ n mF F fs δ
 |_=>none
@[simp] theorem sK{tb:List (Rg×b8)}:LF n mF tb i fs δ=qH n mF tb fs δ δ[i]? :=by unfold LF qH;split<;>simp_all
@[simp] theorem qH_s{tb:List (Rg×b8)}{x:Rg}:qH n mF tb fs δ (some (.va (.fn x)))=(VZ tb x).bind λF=>cQ n mF F fs δ:=rfl
@[simp] theorem wZ:pNo δ=some (none,δ):=rfl
noncomputable def qpS:Option (c6×Ev)->Option (Option Int×Ev)
 |some (.int i,δ)=>some (some i,δ)
 |_=>none
@[simp] theorem uQ:DW fa δ=qpS (fa δ):=by
 unfold DW qpS;cases fa δ with
 |none=>rfl
 |some p=>
  obtain⟨d,e⟩:=p;cases d<;>rfl
@[simp] theorem uv{i:Int}:qpS (some (.int i,δ))=some (some i,δ):=rfl
noncomputable def qSl(r:Option (c6×Ev))(a fh:VP):Option (c6×Ev):=r.bind λp=>(a p.2).bind λl=>(fh l.2).bind λu=>(oSl p.1 l.1 u.1).map λc=>(c,u.2)
noncomputable def qSlb(x:c6)(r:Option (Option Int×Ev))(fh:VP):Option (c6×Ev):=r.bind λl=>(fh l.2).bind λu=>(oSl x l.1 u.1).map λc=>(c,u.2)
noncomputable def qSlc(x:c6)(l:Option Int)(r:Option (Option Int×Ev)):Option (c6×Ev):=r.bind λu=>q0 (oSl x l u.1) u.2
@[simp] theorem vY{a fh:VP}:DB fa a fh δ=qSl (fa δ) a fh:=rfl
@[simp] theorem x6{a fh:VP}:qSl (some (x,δ)) a fh=qSlb x (a δ) fh:=rfl
@[simp] theorem vP{l:Option Int}{fh:VP}:qSlb x (some (l,δ)) fh=qSlc x l (fh δ):=rfl
@[simp] theorem wY{l u:Option Int}:qSlc x l (some (u,δ))=q0 (oSl x l u) δ:=rfl
@[simp] theorem wq{l u:Option Int}:oSl (.tup ds) l u=some (.tup (UN ds l u)):=rfl
@[simp] theorem vd{l u:Option Int}:oSl (.lst ds) l u=some (.lst (UN ds l u)):=rfl
noncomputable def qSt(i j:Nat):Option (c6×Ev)->Option Ou
 |some (.tup (d::ds),δ)=>some (.nx ((δ.set i (.va d)).set j (.va (.lst ds))))
 |_=>none
@[simp] theorem wm:J6 i j fa δ=qSt i j (fa δ):=by
 unfold J6 qSt;cases fa δ with
 |none=>rfl
 |some p=>
  obtain⟨d,e⟩:=p;cases d with
  |tup ds=>cases ds<;>rfl
  |_=>rfl
@[simp] theorem vJ:qSt i j (some (.tup (d::ds),δ))=some (.nx ((δ.set i (.va d)).set j (.va (.lst ds)))):=rfl
noncomputable def qDg(i:Nat)(r:Option (List aG×List c6))(δ:Ev)(fk a:VF):Option (c6×Ev):=r.bind λ_=>(fk δ).bind λp=>(a p.2).bind λq=>(UO p.1).bind λk=>(WP q.2 i).map λz=>((bN z.1 z.2 k).getD q.1,q.2)
noncomputable def qDgb(i:Nat)(r:Option (c6×Ev))(a:VF):Option (c6×Ev):=r.bind λp=>(a p.2).bind λq=>(UO p.1).bind λk=>(WP q.2 i).map λz=>((bN z.1 z.2 k).getD q.1,q.2)
noncomputable def qDgc(i:Nat)(x:c6)(r:Option (c6×Ev)):Option (c6×Ev):=r.bind λq=>(UO x).bind λk=>(WP q.2 i).map λz=>((bN z.1 z.2 k).getD q.1,q.2)
@[simp] theorem uG:HF i fa fb δ=qDg i (WP δ i) δ fa fb:=rfl
@[simp] theorem uX{z:List aG×List c6}:qDg i (some z) δ fa fb=qDgb i (fa δ) fb:=rfl
@[simp] theorem vF:qDgb i (some (x,δ)) fb=qDgc i x (fb δ):=rfl
@[simp] theorem vT:qDgc i x (some (y,δ))=(UO x).bind λk=>(WP δ i).map λz=>((bN z.1 z.2 k).getD y,δ):=rfl
noncomputable def qDp(i:Nat)(r:Option (c6×Ev))(fk:VF):Option Ou:=r.bind λp=>(WP p.2 i).bind λ_=>(fk p.2).bind λq=>(UO q.1).bind λk=>(WP q.2 i).bind λz=>if z.1.length<16777216/\z.1.Nodup then some (.nx (q.2.set i (.ow (let r:=XQ z.1 z.2 k p.1;.dct r.1 r.2)))) else none
noncomputable def qDpb(i:Nat)(x:c6)(r:Option (List aG×List c6))(δ:Ev)(fk:VF):Option Ou:=r.bind λ_=>(fk δ).bind λq=>(UO q.1).bind λk=>(WP q.2 i).bind λz=>if z.1.length<16777216/\z.1.Nodup then some (.nx (q.2.set i (.ow (let r:=XQ z.1 z.2 k x;.dct r.1 r.2)))) else none
noncomputable def qDpc(i:Nat)(x:c6)(r:Option (c6×Ev)):Option Ou:=r.bind λq=>(UO q.1).bind λk=>(WP q.2 i).bind λz=>if z.1.length<16777216/\z.1.Nodup then some (.nx (q.2.set i (.ow (.dct (XQ z.1 z.2 k x).1 (XQ z.1 z.2 k x).2)))) else none
@[simp] theorem vC{fk a:VF}:GG i fk a δ=qDp i (a δ) fk:=rfl
@[simp] theorem v9{fk:VF}:qDp i (some (x,δ)) fk=qDpb i x (WP δ i) δ fk:=rfl
@[simp] theorem tX{z:List aG×List c6}{fk:VF}:qDpb i x (some z) δ fk=qDpc i x (fk δ):=rfl
@[simp] theorem tV:qDpc i x (some (y,δ))=(UO y).bind λk=>(WP δ i).bind λz=>if z.1.length<16777216/\z.1.Nodup then some (.nx (δ.set i (.ow (.dct (XQ z.1 z.2 k x).1 (XQ z.1 z.2 k x).2)))) else none:=rfl
@[simp] theorem vI{i:Int}:UO (.int i)=some (.inl i):=rfl
@[simp] theorem uE{s:Rg}:UO (.str s)=some (.inr s):=rfl
noncomputable def qRun(ml:List Nat):Option Ou->Option (c6×List c6)
 |some (.rt d δ)=>(SV ml δ).map λos=>(d,os)
 |some (.nx δ)=>(SV ml δ).map λos=>(.non,os)
 |_=>none
theorem cO{ml:List Nat}:bD n ml g ds=qRun ml (g (cF ml n ds)):=by
 unfold bD qRun;cases g (cF ml n ds) with
 |none=>rfl
 |some o=>cases o<;>rfl
@[simp] theorem vh{ml:List Nat}:qRun ml (some (.rt d δ))=(SV ml δ).map λos=>(d,os):=rfl
@[simp] theorem rV{ml:List Nat}:qRun ml (some (.nx δ))=(SV ml δ).map λos=>(.non,os):=rfl
noncomputable def qow:Option Sl->Option c6
 |some (.ow d)=>some d
 |_=>none
@[simp] theorem uU:SV [] δ=some []:=rfl
@[simp] theorem vf{ml:List Nat}:SV (i::ml) δ=(qow δ[i]?).bind λd=>(SV ml δ).map λos=>d::os:=by
 unfold SV;rw[Pr];cases h:(δ[i]? :Option Sl) with
 |none=>rfl
 | some s => cases s with
  |no=>rfl
  |va d=>rfl
  |ow d=>
   show(Option.bind _ λos=>some (d::os))=Option.map (λos=>d::os) _;cases (List.mapM _ ml:Option (List c6))<;>rfl
@[simp] theorem tZ:qow (some (.ow d))=some d:=rfl
end
section
variable{i j:Int}{x y:Rg}{ds es:List c6}
@[simp] theorem oI_e{C:Int->Int->Bool}{g:Int->Int->c6}:oI C g (.int i) (.int j)=if C i j=true then some (g i j) else none:=rfl
@[simp] theorem wu:aQ (.int i) (.int j)=some (.int (i+j)):=rfl
@[simp] theorem sS:aQ (.tup ds) (.tup es)=if ds.length+es.length<=16777216 then some (.tup (ds++es)) else none:=rfl
@[simp] theorem uw:aQ (.lst ds) (.lst es)=if ds.length+es.length<=16777216 then some (.lst (ds++es)) else none:=rfl
@[simp] theorem uY{g:Int->Int->Int}:o2I g (.int i) (.int j)=some (.int (g i j)):=rfl
@[simp] theorem rS:ZO (.tup ds)=some (.int ds.length):=rfl
@[simp] theorem wg:ZO (.lst ds)=some (.int ds.length):=rfl
@[simp] theorem uK:LW (.tup ds)=some (.lst ds):=rfl
@[simp] theorem sX:LW (.lst ds)=some (.lst ds):=rfl
@[simp] theorem w4:VW (.tup ds)=some (.tup ds):=rfl
@[simp] theorem rO:VW (.lst ds)=some (.tup ds):=rfl
@[simp] theorem tT:cH (.tup ds) (.int i)=WJ ds i:=rfl
@[simp] theorem Tv:cH (.lst ds) (.int i)=WJ ds i:=rfl
@[simp] theorem xq{ks:List aG}:cH (.dct ks ds) (.int i)=bN ks ds (.inl i):=rfl
@[simp] theorem uC{ks:List aG}:cH (.dct ks ds) (.str x)=bN ks ds (.inr x):=rfl
@[simp] theorem vn:J0 (.int i)=true:=rfl
@[simp] theorem vp:J0 .non=true:=rfl
@[simp] theorem vZ{b:Bool}:J0 (.bl b)=true:=rfl
@[simp] theorem sW:OO "int" "bool"=some false:=by decide+kernel
@[simp] theorem wD:OO "int" "int"=some true:=by decide+kernel
@[simp] theorem uI:OO "tuple" "tuple"=some true:=by decide+kernel
@[simp] theorem uO:OO "str" "str"=some true:=by decide+kernel
@[simp] theorem wb:OO "list" "list"=some true:=by decide+kernel
@[simp] theorem xg{n:String}:TQ (.int i) (.ty n)=(OO "int" n).map c6.bl:=rfl
@[simp] theorem tJ{n:String}:TQ (.tup ds) (.ty n)=(OO "tuple" n).map c6.bl:=rfl
@[simp] theorem uJ{n:String}:TQ (.lst ds) (.ty n)=(OO "list" n).map c6.bl:=rfl
@[simp] theorem tG{n:String}:TQ (.str x) (.ty n)=(OO "str" n).map c6.bl:=rfl
@[simp] theorem ur:RA .non .non=some (.bl true):=rfl
@[simp] theorem sT:RA (.int i) .non=some (.bl false):=rfl
@[simp] theorem rW:RA (.str x) .non=some (.bl false):=rfl
@[simp] theorem xr:RA (.tup ds) .non=some (.bl false):=rfl
@[simp] theorem uM:SU .non .non=some (.bl false):=rfl
@[simp] theorem wl:SU (.int i) .non=some (.bl true):=rfl
@[simp] theorem v7:SU (.str x) .non=some (.bl true):=rfl
@[simp] theorem wp:SU (.tup ds) .non=some (.bl true):=rfl
end
section
variable{d x:c6}{δ δ1:Ev}{r acc:List c6}{gg:VG}{tb:VB}{fe:VF}{n nl:Nat}{g:VS}
noncomputable def qk1(n nl:Nat)(gg:VG)(tb:VB)(fe:VF)(r acc:List c6)(o:Option Ev):Option (List c6×Ev):=o.bind λδ1=>(tb δ1).bind λp=>if p.1=true then(fe p.2).bind λq=>if acc.length<16777216 then ZZ n nl gg tb fe r (acc++[q.1]) (q.2.take n) else none else ZZ n nl gg tb fe r acc (p.2.take n)
noncomputable def qk2(n nl:Nat)(gg:VG)(tb:VB)(fe:VF)(r acc:List c6)(o:Option (Bool×Ev)):Option (List c6×Ev):=o.bind λp=>if p.1=true then(fe p.2).bind λq=>if acc.length<16777216 then ZZ n nl gg tb fe r (acc++[q.1]) (q.2.take n) else none else ZZ n nl gg tb fe r acc (p.2.take n)
noncomputable def qk3(n nl:Nat)(gg:VG)(tb:VB)(fe:VF)(r acc:List c6)(o:Option (c6×Ev)):Option (List c6×Ev):=o.bind λq=>if acc.length<16777216 then ZZ n nl gg tb fe r (acc++[q.1]) (q.2.take n) else none
@[simp] theorem ww:ZZ n nl gg tb fe [] acc δ=some (acc,δ):=rfl
@[simp] theorem RO:ZZ n nl gg tb fe (d::r) acc δ=qk1 n nl gg tb fe r acc (gg d (δ++HU nl)):=rfl
@[simp] theorem J3:qk1 n nl gg tb fe r acc (some δ)=qk2 n nl gg tb fe r acc (tb δ):=rfl
@[simp] theorem BU:qk2 n nl gg tb fe r acc (some (true,δ))=qk3 n nl gg tb fe r acc (fe δ):=rfl
@[simp] theorem Ut:qk2 n nl gg tb fe r acc (some (false,δ))=ZZ n nl gg tb fe r acc (δ.take n):=rfl
@[simp] theorem BV:qk3 n nl gg tb fe r acc (some (x,δ))=if acc.length<16777216 then ZZ n nl gg tb fe r (acc++[x]) (δ.take n) else none:=rfl
noncomputable def qf1(gg:VG)(g:VS)(r:List c6)(o:Option Ev):Option Ou:=o.bind λδ1=>(g δ1).bind (XI (YQ gg g r))
def qf2(gg:VG)(g:VS)(r:List c6)(o:Option Ou):Option Ou:=o.bind (XI (YQ gg g r))
@[simp] theorem Uu:YQ gg g [] δ=some (.nx δ):=rfl
@[simp] theorem XN:YQ gg g (d::r) δ=qf1 gg g r (gg d δ):=rfl
@[simp] theorem VE:qf1 gg g r (some δ)=qf2 gg g r (g δ):=rfl
@[simp] theorem VH:qf2 gg g r (some (.nx δ))=YQ gg g r δ:=rfl
@[simp] theorem tL:qf2 gg g r (some (.ct δ))=YQ gg g r δ:=rfl
@[simp] theorem vQ:qf2 gg g r (some (.bk δ))=some (.nx δ):=rfl
@[simp] theorem vV:qf2 gg g r (some (.rt d δ))=some (.rt d δ):=rfl
@[simp] theorem wP{ss:Ev}:YC [] ss δ=δ:=by cases ss<;>rfl
@[simp] theorem uq{i:Nat}{is:List Nat}{ss:Ev}:YC (i::is) (.ow d::ss) δ=YC is ss (δ.set i (.ow d)):=rfl
@[simp] theorem tN{i:Nat}{is:List Nat}{ss:Ev}:YC (i::is) (.va d::ss) δ=YC is ss δ:=rfl
@[simp] theorem uH{i:Nat}{is:List Nat}{ss:Ev}:YC (i::is) (.no::ss) δ=YC is ss δ:=rfl
end
@[simp] theorem BF:HU 1=[.no]:=rfl
@[simp] theorem Um:HU 2=[.no,.no]:=rfl
@[simp] theorem x9:HU 3=[.no,.no,.no]:=rfl
@[simp] theorem vR{i:Int}:ZF i 0=[]:=rfl
@[simp] theorem vw:ZF 0 1=[.int 0]:=rfl
@[simp] theorem xo:ZF 0 2=[.int 0,.int 1]:=rfl
@[simp] theorem ul:ZF 0 3=[.int 0,.int 1,.int 2]:=rfl
@[simp] theorem wX:ZF 0 4=[.int 0,.int 1,.int 2,.int 3]:=rfl
theorem X1{α:Type}{xs:List α}{i:Int}(a:0<=i)(h1:i<xs.length):WJ xs i=xs[i.toNat]? :=by unfold WJ JQ;rw[if_pos a,if_pos h1];rfl
theorem C0{α:Type}{xs:List α}{i:Int}(a:0<=i)(h1:i<xs.length):∃x∈xs,WJ xs i=some x:=by
 rw[X1 a h1];have h:i.toNat<xs.length:=by lia
 exact⟨xs[i.toNat],Ik _,Dw h⟩
section
variable{F:b8}{fa fb fc:VF}{δ:Ev}{x y z d o:c6}{j:Nat}
noncomputable def qcr(δ:Ev):Option (c6×List c6)->Option (c6×Ev)
 |some (d,[])=>some (d,δ)
 |_=>none
@[simp] theorem vD:qcr δ (some (d,[]))=some (d,δ):=rfl
theorem C4{n:Nat}{ds:List c6}{as:List AV}(h:U7 δ as=some ds)(a:ds.length=n)(b:TK as=[])(c:VO [] as 0=true):qCb n [] F as δ (some ds)=qcr δ (F ds):=by
 have hc:T4 [] as δ=true:=by simp[b]
 rw[lI,if_pos ⟨a,hc⟩];cases F ds with
 |none=>rfl
 |some q=>
  obtain⟨r,os⟩:=q;rw[fU];cases os with
  |nil=>simp[c,qcr]
  |cons o os=>simp[qcr]
noncomputable def qx1(F:b8)(r:Option (c6×Ev)):Option (c6×Ev):=r.bind λp=>qcr p.2 (F [p.1])
@[simp] theorem xi:qx1 F (some (x,δ))=qcr δ (F [x]):=rfl
@[simp high] theorem call1:cQ 1 [] F (aE fa b9) δ=qx1 F (fa δ):=by
 rw[MX,EX];cases fa δ with
 |none=>rfl
 |some p=>exact C4 (as:=[.d p.1]) rfl rfl rfl rfl
noncomputable def qx2(F:b8)(r:Option (c6×Ev))(fb:VF):Option (c6×Ev):=r.bind λp=>(fb p.2).bind λq=>qcr q.2 (F [p.1,q.1])
noncomputable def qx2b(F:b8)(x:c6)(r:Option (c6×Ev)):Option (c6×Ev):=r.bind λq=>qcr q.2 (F [x,q.1])
@[simp] theorem eK:qx2 F (some (x,δ)) fb=qx2b F x (fb δ):=rfl
@[simp] theorem vg:qx2b F x (some (y,δ))=qcr δ (F [x,y]):=rfl
@[simp high] theorem call2:cQ 2 [] F (aE fa (aE fb b9)) δ=qx2 F (fa δ) fb:=by
 rw[MX,EX];cases fa δ with
 |none=>rfl
 |some p=>
  rw[qa_s,EX,eK];cases fb p.2 with
  |none=>rfl
  |some q=>exact C4 (as:=[.d p.1,.d q.1]) rfl rfl rfl rfl
noncomputable def qx3(F:b8)(r:Option (c6×Ev))(fb fc:VF):Option (c6×Ev):=r.bind λp=>(fb p.2).bind λq=>(fc q.2).bind λs=>qcr s.2 (F [p.1,q.1,s.1])
noncomputable def qx3b(F:b8)(x:c6)(r:Option (c6×Ev))(fc:VF):Option (c6×Ev):=r.bind λq=>(fc q.2).bind λs=>qcr s.2 (F [x,q.1,s.1])
noncomputable def qx3c(F:b8)(x y:c6)(r:Option (c6×Ev)):Option (c6×Ev):=r.bind λs=>qcr s.2 (F [x,y,s.1])
@[simp] theorem Wt:qx3 F (some (x,δ)) fb fc=qx3b F x (fb δ) fc:=rfl
@[simp] theorem iF:qx3b F x (some (y,δ)) fc=qx3c F x y (fc δ):=rfl
@[simp] theorem tP:qx3c F x y (some (z,δ))=qcr δ (F [x,y,z]):=rfl
@[simp high] theorem call3:cQ 3 [] F (aE fa (aE fb (aE fc b9))) δ=qx3 F (fa δ) fb fc:=by
 rw[MX,EX];cases fa δ with
 |none=>rfl
 |some p=>
  rw[qa_s,EX,Wt];cases fb p.2 with
  |none=>rfl
  |some q=>
   rw[qa_s,EX,iF];cases fc q.2 with
   |none=>rfl
   |some s=>exact C4 (as:=[.d p.1,.d q.1,.d s.1]) rfl rfl rfl rfl
noncomputable def qw3(j:Nat)(δ:Ev):Option (c6×List c6)->Option (c6×Ev)
 |some (r,[o])=>some (r,δ.set j (.ow o))
 |_=>none
noncomputable def qw2(F:b8)(j:Nat)(x y:c6)(δ:Ev):Option Sl->Option (c6×Ev)
 |some (.ow d)=>qw3 j δ (F [x,d,y])
 |_=>none
noncomputable def qwb(F:b8)(j:Nat)(x:c6)(r:Option (c6×Ev)):Option (c6×Ev):=r.bind λq=>qw2 F j x q.1 q.2 q.2[j]?
noncomputable def qwa(F:b8)(j:Nat)(x:c6)(δ:Ev)(fb:VF)(s:Option c6):Option (c6×Ev):=s.bind λ_=>qwb F j x (fb δ)
noncomputable def qw(F:b8)(j:Nat)(r:Option (c6×Ev))(fb:VF):Option (c6×Ev):=r.bind λp=>qwa F j p.1 p.2 fb (slot p.2 j)
@[simp] theorem wJ:qw3 j δ (some (x,[o]))=some (x,δ.set j (.ow o)):=rfl
@[simp] theorem tF:qw2 F j x y δ (some (.ow d))=qw3 j δ (F [x,d,y]):=rfl
@[simp] theorem lH:qwb F j x (some (y,δ))=qw2 F j x y δ δ[j]? :=rfl
@[simp] theorem pN:qwa F j x δ fb (some d)=qwb F j x (fb δ):=rfl
@[simp] theorem qw_s:qw F j (some (x,δ)) fb=qwa F j x δ fb (slot δ j):=rfl
@[simp high] theorem callO:cQ 3 [1] F (aE fa (aO j (aE fb b9))) δ=qw F j (fa δ) fb:=by
 rw[MX,EX];cases fa δ with
 |none=>rfl
 |some p=>
  obtain⟨x,δ1⟩:=p;rw[qa_s,aO_e,qw_s];cases h:slot δ1 j with
  |none=>rfl
  |some b=>
   rw[nT,EX,pN];cases fb δ1 with
   |none=>rfl
   |some q=>
    obtain⟨y,δ2⟩:=q;rw[lH,qa_s,qR,Si,Si,Si,Zf];cases h2:δ2[j]? with
    |none=>simp[h2,qsl,qCb,qw2]
    |some s=>
     cases s with
     |no=>simp[h2,qsl,qCb,qw2]
     |va d=>simp[h2,qw2]
     |ow d=>
      simp[h2];cases F [x,d,y] with
      |none=>rfl
      |some r=>
       obtain⟨v,os⟩:=r;cases os with
       |nil=>simp[qw3]
       |cons o os=>
        cases os with
        |nil=>simp
        |cons a os=>simp[qw3]
end
def aK:c6:=.int 999
def AJ:c6:=.tup [.str "plus",.str "minus",.str "times",.str "least",.str "most",.str "less",.str "over"]
def VQ:c6:=.dct [.inr "plus",.inr "minus",.inr "times",.inr "least",.inr "most",.inr "less",.inr "over"] [.fn "plus",.fn "minus",.fn "times",.fn "least",.fn "most",.fn "less",.fn "over"]
def WW:c6:=.int 64
def WV:c6:=.int 40
def T3:c6:=.int 63
def PN:c6:=.tup [.str "row",.str "row"]
def Q3:c6:=.dct [.inr "number",.inr "pick",.inr "load",.inr "take",.inr "store",.inr "put"] [.tup [.str "word"],.tup [.str "row",.str "row",.str "row"],.tup [.str "place"],.tup [.str "place",.str "row",.str "row"],.tup [.str "place",.str "row"],.tup [.str "place",.str "row",.str "row"]]
def X0:c6:=.tup [.str "load",.str "take"]
def Z7:c6:=.tup [.str "store",.str "put"]
def T2:c6:=.int 64
def YK:c6:=.int 20
def SD:c6:=.int 3
def K5:c6:=.int 0
def E4:c6:=.int 1
def QN:VS:=
   (cI (YD (ET (fB (f2 TQ (fV 0) (fC (.ty "bool")))) (UY (fB (f2 TQ (fV 0) (fC (.ty "int"))))))
   (b5 (fC (.bl false)))
   a8)
   (b5 (f3 oLe oLe (fV 1) (fV 0) (fV 2))))
def a9:b8:=bD 3 [] QN
def DG:VS:=
   (b5 (f2 NG (f2 aQ (fV 0) (fV 1)) (f2 aQ (fC aK) (fC (.int 1)))))
def N7:b8:=bD 2 [] DG
def HJ:VS:=
   (b5 (f2 NG (f2 OW (fV 0) (fV 1)) (f2 aQ (fC aK) (fC (.int 1)))))
def RJ:b8:=bD 2 [] HJ
def HK:VS:=
   (b5 (f2 NG (f2 OX (fV 0) (fV 1)) (f2 aQ (fC aK) (fC (.int 1)))))
def RK:b8:=bD 2 [] HK
def HI:VS:=
   (b5 (f2 oMin (fV 0) (fV 1)))
def RH:b8:=bD 2 [] HI
def DE:VS:=
   (b5 (f2 oMax (fV 0) (fV 1)))
def N5:b8:=bD 2 [] DE
def DD:VS:=
   (b5 (JK (fB (f2 oLt (fV 0) (fV 1))) (fC (.int 1)) (fC (.int 0))))
def N3:b8:=bD 2 [] DD
def LK:VS:=
   (b5 (JK (fB (f2 XF (fV 1) (fC (.int 0)))) (fC .non) (f2 FZ (fV 0) (fV 1))))
def UX:b8:=bD 2 [] LK
def DF:VS:=
   (b5 (JK (fB (f2 QF (fV 0) (fC (.int 0)))) (fV 1) (fV 2)))
def N6:b8:=bD 3 [] DF
def LG:VS:=
   (cI (YD (fB (f2 XF (fV 0) (fC (.str "pick"))))
   (b5 (cQ 3 [] N6 (aE (f2 cH (fV 1) (fC (.int 0))) (aE (f2 cH (fV 1) (fC (.int 1))) (aE (f2 cH (fV 1) (fC (.int 2))) b9)))))
   a8)
   (cI (aL 2 (xV (f2 cH (fC VQ) (fV 0))))
   (b5 (LF 2 [] [("plus",N7),("minus",RJ),("times",RK),("least",RH),("most",N5),("less",N3),("over",UX)] 2 (aE (f2 cH (fV 1) (fC (.int 0))) (aE (f2 cH (fV 1) (fC (.int 1))) b9))))))
def WM:b8:=bD 3 [] LG
def LL:VS:=
   (cI (YD (fB (f2 (ZN false) (fV 0) (fC AJ)))
   (b5 (fC PN))
   a8)
   (b5 (f2 Vd (fC Q3) (fV 0))))
def aD:b8:=bD 1 [] LL
def PY:VS:=
   (b5 (f2 (ZN true) (f2 cH (fV 0) (fC (.int 0))) (fC Z7)))
def Y3:b8:=bD 1 [] PY
def YR:VS:=
   (b5 (JK (ET (fB (f2 (ZN false) (f2 cH (fV 0) (fC (.int 0))) (fC X0))) (fB (f2 (ZN false) (f2 cH (fV 0) (fC (.int 0))) (fC Z7)))) (f2 cH (fV 0) (fC (.int 1))) (fC .non)))
def bA:b8:=bD 1 [] YR
def LJ:VS:=
   (cI (J6 1 2 (fV 0))
   (b5 (ZR [] 2 (iZip (cQ 1 [] aD (aE (fV 1) b9)) (fV 2)) (PC 2 (bZ (gN 0) (bZ (gN 1) ZA))) (fB (f2 XF (fV 0) (fC (.str "row")))) (fV 1))))
def ZH:b8:=bD 3 [] LJ
def PZ:VS:=
   (b5 (f2 aQ (DB (fV 0) pNo (DW (f2 OW (f1 ZO (fV 0)) (f1 ZO (fV 1))))) (f1 VW (fV 1))))
def XH:b8:=bD 2 [] PZ
def QS:VS:=
   (b5 (PV (cQ 3 [] a9 (aE (fV 0) (aE (fC (.int 0)) (aE (f2 OW (f1 ZO (fV 1)) (fC (.int 1))) b9)))) (f2 cH (fV 1) (fV 0))))
def YO:b8:=bD 2 [] QS
def LH:VS:=
   (cI (YD (fB (f2 XF (fV 0) (fC (.str "word"))))
   (b5 (cQ 3 [] a9 (aE (fV 1) (aE (fC (.int 0)) (aE (fC aK) b9)))))
   a8)
   (cI (YD (fB (f2 XF (fV 0) (fC (.str "place"))))
   (b5 (cQ 3 [] a9 (aE (fV 1) (aE (fC (.int 0)) (aE (fC T3) b9)))))
   a8)
   (b5 (cQ 2 [] YO (aE (fV 1) (aE (fV 2) b9))))))
def UW:b8:=bD 3 [] LH
def LI:VS:=
   (cI (YD (ET (UY (fB (f2 TQ (fV 0) (fC (.ty "tuple"))))) (fB (f2 XF (f1 ZO (fV 0)) (fC (.int 0)))))
   (b5 (fC (.bl false)))
   a8)
   (cI (J6 2 3 (fV 0))
   (cI (aL 4 (xV (JK (fB (f2 TQ (fV 2) (fC (.ty "str")))) (cQ 1 [] aD (aE (fV 2) b9)) (fC .non))))
   (cI (YD (ET (fB (f2 RA (fV 4) (fC .non))) (fB (f2 QF (f1 ZO (fV 4)) (f1 ZO (fV 3)))))
   (b5 (fC (.bl false)))
   a8)
   (b5 (f1 oAll (ZR [1] 2 (iZip (fV 4) (fV 3)) (PC 2 (bZ (gN 1) (bZ (gN 2) ZA))) WC (cQ 3 [] UW (aE (fV 1) (aE (fV 2) (aE (fV 0) b9)))))))))))
def WU:b8:=bD 5 [] LI
def WD:VS:=
   (cI (YD (UY (fB (cQ 2 [] WU (aE (fV 4) (aO 3 b9)))))
   (b5 (fC (.bl false)))
   a8)
   (U6 3 TM (cZ (cQ 1 [] Y3 (aE (fV 4) b9)) cC)))
def QL:VS:=
   (cI (YD (ET (UY (fB (f2 TQ (fV 0) (fC (.ty "tuple"))))) (fB (f2 QF (f1 ZO (fV 0)) (fC (.int 2)))))
   (b5 (fC (.bl false)))
   a8)
   (cI (NI (fV 0) (PC 2 (bZ (gN 1) (bZ (gN 2) ZA))))
   (cI (YD (UY (fB (cQ 3 [] a9 (aE (fV 1) (aE (fC (.int 0)) (aE (fC WW) b9))))))
   (b5 (fC (.bl false)))
   a8)
   (cI (YD (ET (UY (fB (f2 TQ (fV 2) (fC (.ty "tuple"))))) (fB (f2 oGt (f1 ZO (fV 2)) (fC WV))))
   (b5 (fC (.bl false)))
   a8)
   (cI (aL 3 (xO (YT cC)))
   (cI (RB (WO (fV 2)) (gN 4)
   WD)
   (b5 (fC (.bl true)))))))))
def W5:b8:=bD 5 [] QL
def QM:VS:=
   (cI (YD (ET (UY (fB (f2 TQ (fV 0) (fC (.ty "list"))))) (UY (fB (f3 oLe oLe (fV 1) (f1 ZO (fV 0)) (fC T2)))))
   (b5 (fC (.bl false)))
   a8)
   (b5 (f1 oAll (ZR [] 1 (WO (fV 0)) (gN 0) WC (cQ 3 [] a9 (aE (fV 0) (aE (fC (.int 0)) (aE (fC aK) b9))))))))
def YN:b8:=bD 2 [] QM
def RT:VS:=
   (cI (YD (fB (f2 XF (fV 0) (fC (.str "take"))))
   (b5 (f2 QF (f2 cH (fV 1) (fC (.int 0))) (fC (.int 0))))
   a8)
   (cI (YD (fB (f2 XF (fV 0) (fC (.str "put"))))
   (b5 (f2 QF (f2 cH (fV 1) (fC (.int 1))) (fC (.int 0))))
   a8)
   (b5 (fC (.bl true)))))
def Y0:b8:=bD 2 [] RT
def a7:VS:=
   (cI (YD (UY (fB (cQ 2 [] Y0 (aE (fV 0) (aE (fV 2) b9)))))
   (b5 (bE (cZ (JK (fB (f2 XF (fV 0) (fC (.str "take")))) (f2 cH (fV 2) (fC (.int 1))) (fC .non)) (cZ (fC .non) cC))))
   a8)
   (cI (YD (fB (f2 oGe (fV 1) (f1 ZO (fO 3))))
   (b5 (bE (cZ (fC .non) (cZ (fC (.str "beyond")) cC))))
   a8)
   (cI (YD (fB (f2 (ZN false) (fV 0) (fC Z7)))
   (cI (CB 3 (fV 1) (f2 cH (fV 2) (fC (.int 0))))
   (b5 (bE (cZ (fC .non) (cZ (fC .non) cC)))))
   a8)
   (b5 (bE (cZ (f2 cH (fO 3) (fV 1)) (cZ (fC .non) cC)))))))
def bM:b8:=bD 4 [3] a7
def SG:VS:=
   (cI (aL 4 (xV (f2 cH (fV 0) (fC (.int 0)))))
   (cI (YD (fB (f2 XF (fV 4) (fC (.str "number"))))
   (b5 (bE (cZ (f2 cH (fV 0) (fC (.int 1))) (cZ (fC .non) cC))))
   a8)
   (cI (aL 5 (xV (cQ 1 [] bA (aE (fV 0) b9))))
   (cI (YD (fB (f2 SU (fV 5) (fC .non)))
   (b5 (cQ 4 [3] bM (aE (fV 4) (aE (f2 aQ (fV 5) (fV 3)) (aE (fV 1) (aO 2 b9))))))
   a8)
   (cI (aL 6 (xV (cQ 2 [] WM (aE (fV 4) (aE (fV 1) b9)))))
   (b5 (bE (cZ (fV 6) (cZ (JK (fB (f2 RA (fV 6) (fC .non))) (fC (.str "nought")) (fC .non)) cC)))))))))
def ZQ:b8:=bD 7 [2] SG
def U8:VS:=
   (cI (NI (cQ 3 [2] (dflt ZQ (.int 0)) (aE (fV 4) (aE (ZR [2] 1 (WO (cQ 1 [] ZH (aE (fV 4) b9))) (gN 1) WC (f2 cH (fO 0) (fV 1))) (aO 1 b9)))) (PC 2 (bZ (gN 5) (bZ (gN 6) ZA))))
   (cI (YD (fB (f2 SU (fV 6) (fC .non)))
   (b5 (bE (cZ (fO 2) (cZ (bE (cZ (fV 3) (cZ (fV 6) cC))) cC))))
   a8)
   (U6 2 TM (cZ (fV 5) cC))))
def OH:VS:=
   (cI (aL 2 (xO (YT cC)))
   (cI (RB (P1 (fV 0)) (PC 2 (bZ (gN 3) (bZ (gN 4) ZA)))
   U8)
   (b5 (bE (cZ (fO 2) (cZ (fC .non) cC))))))
def V6:b8:=bD 7 [1] OH
def SF:VS:=
   (cI (YD (UY (fB (cQ 1 [] W5 (aE (fV 0) b9))))
   (λ_=>none)
   a8)
   (YD (UY (fB (cQ 2 [] YN (aE (fV 1) (aE (f2 cH (fV 0) (fC (.int 0))) b9)))))
   (λ_=>none)
   a8))
def XW:b8:=bD 2 [] SF
def Sj:VS:=
   (cI (Q5 (cQ 2 [] XW (aE (fV 0) (aE (fV 1) b9))))
   (cI (aL 2 (xO (f1 LW (fV 1))))
   (cI (NI (cQ 2 [1] V6 (aE (f2 cH (fV 0) (fC (.int 1))) (aO 2 b9))) (PC 2 (bZ (gN 3) (bZ (gN 4) ZA))))
   (b5 (bE (cZ (fO 2) (cZ (fV 4) cC)))))))
def NK:b8:=bD 5 [] Sj
def AX:VS:=
   (cI (YD (ET (UY (fB (f2 TQ (fV 0) (fC (.ty "tuple"))))) (fB (f2 QF (f1 ZO (fV 0)) (fC (.int 4)))))
   (b5 (fC (.bl false)))
   a8)
   (b5 (PV (f2 TQ (f2 cH (fV 0) (fC (.int 0))) (fC (.ty "str"))) (f2 XF (f2 cH (fV 0) (fC (.int 0))) (fC (.str "if"))))))
def RG:b8:=bD 1 [] AX
def YB(R:b8):VS:=
   (cI (aL 5 (xV (cQ 3 [] R (aE (fV 4) (aE (fV 3) (aE (f2 aQ (fV 2) (fC (.int 1))) b9))))))
   (cI (YD (fB (f2 RA (fV 5) (fC .non)))
   (b5 (fC .non))
   a8)
   (aL 3 (xV (f2 aQ (fV 3) (f2 BJ (YT (cZ (fC (.bl false)) cC)) (f2 OW (f1 ZO (fV 5)) (f1 ZO (fV 3)))))))))
def YU(R:b8):VS:=
   (cI (YD (ET (fB (f2 XF (fV 2) (fC SD))) (UY (fB (cQ 2 [] YO (aE (f2 cH (fV 0) (fC (.int 1))) (aE (fV 1) b9))))))
   (b5 (fC .non))
   a8)
   (cI (aL 3 (xV (f2 aQ (fV 1) (YT (cZ (fC (.bl false)) cC)))))
   (cI (RB (WO (DB (fV 0) (DW (fC (.int 2))) pNo)) (gN 4)
   (YB R))
   (b5 (fV 3)))))
def ZJ(R:b8):b8:=bD 6 [] (YU R)
def ZV(R:b8):VS:=
   (cI (YD (fB (cQ 1 [] RG (aE (fV 4) b9)))
   (aL 3 (xV (cQ 3 [] (ZJ R) (aE (fV 4) (aE (fV 3) (aE (fV 2) b9))))))
   (YD (fB (cQ 2 [] WU (aE (fV 4) (aE (fV 3) b9))))
   (aL 3 (xV (f2 aQ (fV 3) (YT (cZ (cQ 1 [] Y3 (aE (fV 4) b9)) cC)))))
   (b5 (fC .non))))
   (YD (ET (fB (f2 RA (fV 3) (fC .non))) (fB (f2 oGt (f1 ZO (fV 3)) (fC YK))))
   (b5 (fC .non))
   a8))
def ZS(R:b8):VS:=
   (cI (YD (UY (fB (f2 TQ (fV 0) (fC (.ty "tuple")))))
   (b5 (fC .non))
   a8)
   (cI (aL 3 (xV (fV 1)))
   (cI (RB (WO (fV 0)) (gN 4)
   (ZV R))
   (b5 (fV 3)))))
def bJ:Nat->b8:=recV λR=>bD 5 [] (ZS R)
def OJ:VS:=
   (cI (YD (ET (UY (fB (f2 TQ (fV 0) (fC (.ty "tuple"))))) (fB (f2 QF (f1 ZO (fV 0)) (fC (.int 2)))))
   (b5 (fC (.bl false)))
   a8)
   (b5 (PV (cQ 3 [] a9 (aE (f2 cH (fV 0) (fC (.int 0))) (aE (fC (.int 0)) (aE (fC WW) b9)))) (f2 SU (cQ 3 [] (bJ 4) (aE (f2 cH (fV 0) (fC (.int 1))) (aE (YT cC) (aE (fC (.int 0)) b9)))) (fC .non)))))
def YZ:b8:=bD 1 [] OJ
def W9(R:b8):VS:=
   (cI (U6 2 TM (cZ (bE (cZ (fV 3) (cZ (fV 1) cC))) cC))
   (YD (fB (f2 XF (f2 cH (fV 3) (fC (.int 0))) (fC (.str "if"))))
   (cI (U6 2 mExt (cZ (cQ 2 [] R (aE (f2 cH (fV 3) (fC (.int 2))) (aE (f2 aQ (fV 1) (bE (cZ (bE (cZ (f2 cH (fV 3) (fC (.int 1))) (cZ (fC (.bl true)) cC))) cC))) b9))) cC))
   (U6 2 mExt (cZ (cQ 2 [] R (aE (f2 cH (fV 3) (fC (.int 3))) (aE (f2 aQ (fV 1) (bE (cZ (bE (cZ (f2 cH (fV 3) (fC (.int 1))) (cZ (fC (.bl false)) cC))) cC))) b9))) cC)))
   a8))
def VT(R:b8):VS:=
   (cI (aL 2 (xO (YT cC)))
   (cI (RB (WO (fV 0)) (gN 3)
   (W9 R))
   (b5 (fO 2))))
def XG:Nat->b8:=recV λR=>bD 4 [] (VT R)
def aV:VS:=
   (cI (NI (bE (cZ (fC .non) (cZ (fC .non) cC))) (PC 2 (bZ (gN 6) (bZ (gN 7) ZA))))
   (cI (YD (ND (fB (f2 QF (f2 cH (fV 4) (fC (.int 0))) (fC (.str "if")))) (fB (f1 oAll (ZR [2] 2 (WO (fV 5)) (PC 2 (bZ (gN 1) (bZ (gN 2) ZA))) WC (f2 XF (f2 QF (f2 cH (fO 0) (fV 1)) (fC (.int 0))) (fV 2))))))
   (NI (cQ 3 [2] (dflt ZQ (.int 0)) (aE (fV 4) (aE (ZR [2] 1 (WO (cQ 1 [] ZH (aE (fV 4) b9))) (gN 1) WC (f2 cH (fO 0) (fV 1))) (aO 1 b9)))) (PC 2 (bZ (gN 6) (bZ (gN 7) ZA))))
   a8)
   (cI (YD (fB (f2 SU (fV 7) (fC .non)))
   (b5 (bE (cZ (fV 3) (cZ (fV 7) cC))))
   a8)
   (U6 2 TM (cZ (fV 6) cC)))))
def OI:VS:=
   (cI (aL 2 (xO (YT cC)))
   (cI (RB (P1 (cQ 2 [] (XG 4) (aE (fV 0) (aE (bE cC) b9)))) (PC 2 (bZ (gN 3) (bZ (PC 2 (bZ (gN 4) (bZ (gN 5) ZA))) ZA)))
   aV)
   (b5 (fC .non))))
def V7:b8:=bD 8 [1] OI
def QT:VS:=
   (cI (YD (UY (fB (cQ 1 [] YZ (aE (fV 0) b9))))
   (λ_=>none)
   a8)
   (cI (YD (UY (fB (cQ 2 [] YN (aE (fV 1) (aE (f2 cH (fV 0) (fC (.int 0))) b9)))))
   (λ_=>none)
   a8)
   (cI (aL 2 (xO (f1 LW (fV 1))))
   (cI (aL 3 (xV (cQ 2 [1] V7 (aE (f2 cH (fV 0) (fC (.int 1))) (aO 2 b9)))))
   (b5 (bE (cZ (fO 2) (cZ (fV 3) cC))))))))
def W8:b8:=bD 4 [] QT
def QK:VS:=
   (cI (NX "Flat" "laid" "numbers" true 0 (cZ (fV 1) cC))
   (b5 (f2 OW (f1 ZO (fA "Flat" "laid" "numbers" true 0)) (fC (.int 1)))))
def aX:b8:=bD 2 [0] QK
def SE:VS:=
   (b5 (Y7 "Flat" "laid" "numbers" 0 2 [0] aX (aE (bE (cZ (fC (.str "pick")) (cZ (fV 1) (cZ (fV 2) (cZ (fC K5) cC))))) b9)))
def ZI:b8:=bD 3 [0] SE
def W0(R:b8):VS:=
   (cI (aL 3 (xV (f2 cH (fA "Flat" "laid" "numbers" false 0) (f2 cH (fV 1) (fC (.int 1))))))
   (cI (NX "Flat" "laid" "numbers" false 0 (cZ (fC .non) cC))
   (cI (Q5 (Y7 "Flat" "laid" "numbers" 0 3 [0] R (aE (f2 cH (fV 1) (fC (.int 2))) (aE (Y7 "Flat" "laid" "numbers" 0 3 [0] ZI (aE (fV 2) (aE (fV 3) b9))) b9))))
   (Q5 (Y7 "Flat" "laid" "numbers" 0 3 [0] R (aE (f2 cH (fV 1) (fC (.int 3))) (aE (Y7 "Flat" "laid" "numbers" 0 2 [0] aX (aE (bE (cZ (fC (.str "pick")) (cZ (fV 3) (cZ (fC K5) (cZ (fV 2) cC))))) b9)) b9)))))))
def X7(R:b8):b8:=bD 4 [0] (W0 R)
def U0:VS:=
   (cI (aL 3 (xV (f2 cH (fV 1) (fC (.int 0)))))
   (cI (YD (fB (f2 XF (fV 3) (fC (.str "load"))))
   (b5 (bE (cZ (fC (.str "take")) (cZ (f2 cH (fV 1) (fC (.int 1))) (cZ (fV 2) (cZ (fV 2) cC))))))
   a8)
   (cI (YD (fB (f2 XF (fV 3) (fC (.str "take"))))
   (b5 (bE (cZ (fC (.str "take")) (cZ (f2 cH (fV 1) (fC (.int 1))) (cZ (Y7 "Flat" "laid" "numbers" 0 3 [0] ZI (aE (fV 2) (aE (f2 cH (fV 1) (fC (.int 2))) b9))) (cZ (f2 cH (fV 1) (fC (.int 3))) cC))))))
   a8)
   (cI (YD (fB (f2 XF (fV 3) (fC (.str "store"))))
   (b5 (bE (cZ (fC (.str "put")) (cZ (f2 cH (fV 1) (fC (.int 1))) (cZ (f2 cH (fV 1) (fC (.int 2))) (cZ (fV 2) cC))))))
   a8)
   (cI (YD (fB (f2 XF (fV 3) (fC (.str "put"))))
   (b5 (bE (cZ (fC (.str "put")) (cZ (f2 cH (fV 1) (fC (.int 1))) (cZ (f2 cH (fV 1) (fC (.int 2))) (cZ (Y7 "Flat" "laid" "numbers" 0 3 [0] ZI (aE (fV 2) (aE (f2 cH (fV 1) (fC (.int 3))) b9))) cC))))))
   a8)
   (cI (YD (fB (f2 XF (fV 3) (fC (.str "over"))))
   (b5 (bE (cZ (fC (.str "over")) (cZ (f2 cH (fV 1) (fC (.int 1))) (cZ (Y7 "Flat" "laid" "numbers" 0 2 [0] aX (aE (bE (cZ (fC (.str "pick")) (cZ (fV 2) (cZ (f2 cH (fV 1) (fC (.int 2))) (cZ (fC E4) cC))))) b9)) cC)))))
   a8)
   (b5 (fV 1))))))))
def YY:b8:=bD 4 [0] U0
def aN(R:b8):VS:=
   (YD (fB (f2 XF (f2 cH (fV 3) (fC (.int 0))) (fC (.str "if"))))
   (Q5 (Y7 "Flat" "laid" "numbers" 0 3 [0] (X7 R) (aE (fV 3) (aE (JK (fB (f2 RA (fV 2) (fC .non))) (fC E4) (fV 2)) b9))))
   (cI (aL 4 (xV (cQ 2 [] XH (aE (fV 3) (aE (ZR [0] 1 (WO (cQ 1 [] ZH (aE (fV 3) b9))) (gN 1) WC (f2 cH (fA "Flat" "laid" "numbers" false 0) (fV 1))) b9)))))
   (NX "Flat" "laid" "numbers" false 0 (cZ (Y7 "Flat" "laid" "numbers" 0 2 [0] aX (aE (JK (fB (f2 RA (fV 2) (fC .non))) (fV 4) (Y7 "Flat" "laid" "numbers" 0 3 [0] YY (aE (fV 4) (aE (fV 2) b9)))) b9)) cC))))
def Z3(R:b8):VS:=
   (RB (WO (fV 1)) (gN 3)
   (aN R))
def bI:Nat->b8:=recV λR=>bD 5 [0] (Z3 R)
def SH:VS:=
   (cI (YD (UY (fB (cQ 1 [] YZ (aE (fV 0) b9))))
   (λ_=>none)
   a8)
   (cI (NI (fV 0) (PC 2 (bZ (gN 1) (bZ (gN 2) ZA))))
   (cI (aL 3 (xO (AQ "Flat" "laid" "numbers")))
   (cI (YD (fB (f1 oAny (ZR [] 1 (WO (fV 2)) (gN 0) WC (f2 XF (f2 cH (fV 0) (fC (.int 0))) (fC (.str "if"))))))
   (cI (Q5 (Y7 "Flat" "laid" "numbers" 3 2 [0] aX (aE (bE (cZ (fC (.str "number")) (cZ (fC (.int 0)) cC))) b9)))
   (Q5 (Y7 "Flat" "laid" "numbers" 3 2 [0] aX (aE (bE (cZ (fC (.str "number")) (cZ (fC (.int 1)) cC))) b9))))
   a8)
   (cI (Q5 (Y7 "Flat" "laid" "numbers" 3 3 [0] (bI 4) (aE (fV 2) (aE (fC .non) b9))))
   (cI (YD (fB (f2 oGt (f1 ZO (fA "Flat" "laid" "numbers" true 3)) (fC WV)))
   (λ_=>none)
   a8)
   (b5 (bE (cZ (bE (cZ (fV 1) (cZ (f1 VW (fA "Flat" "laid" "numbers" true 3)) cC))) (cZ (fA "Flat" "laid" "numbers" false 3) cC))))))))))
def XX:b8:=bD 4 [] SH
def TR:VS:=
   (aL 2 (xV (f2 FZ (fV 2) (fC (.int 1000003)))))
def U1:VS:=
   (cI (YD (fB (f2 oLt (fV 1) (f1 ZO (fV 0))))
   (b5 (f2 cH (fV 0) (fV 1)))
   a8)
   (cI (YD (fB (f2 XF (fV 0) (YT cC)))
   (b5 (fC (.int 0)))
   a8)
   (cI (aL 2 (xV (f2 cH (fV 0) (f2 NG (fV 1) (f1 ZO (fV 0))))))
   (cI (RB (iR1 (f2 oMin (f2 FZ (fV 1) (f1 ZO (fV 0))) (fC (.int 60)))) (gN 3)
   TR)
   (b5 (f2 aQ (f2 aQ (f2 OX (f2 cH (fV 0) (f2 NG (fV 1) (f1 ZO (fV 0)))) (fC (.int 31))) (fV 1)) (f2 OX (fV 2) (fC (.int 101)))))))))
def ZX:b8:=bD 4 [] U1
def SJ:VS:=
   (cI (aL 3 (xV (f2 NG (f2 aQ (f2 aQ (f2 OX (cQ 2 [] ZX (aE (fV 0) (aE (fV 1) b9))) (fC (.int 1103515245))) (f2 OX (fC (.int 7919)) (fV 1))) (fC (.int 12345))) (fC (.int 2147483647)))))
   (b5 (f2 NG (f2 NG (f2 NG (f2 oPow (fV 3) (fC (.int 5))) (fC (.int 2147483647))) (fC (.int 999983))) (fV 2))))
def XZ:b8:=bD 4 [] SJ
def QO:VS:=
   (cI (U6 1 TM (cZ (fC (.int 0)) cC))
   (b5 (cQ 3 [] XZ (aE (fV 0) (aE (f1 ZO (fO 1)) (aE (fV 2) b9))))))
def bX:b8:=bD 3 [1] QO
def QQ:VS:=
   (b5 (f2 cH (fV 2) (cQ 3 [1] bX (aE (fV 0) (aO 1 (aE (f1 ZO (fV 2)) b9))))))
def bU:b8:=bD 3 [1] QQ
def SK:VS:=
   (cI (GG 2 (fV 3) (f2 NG (f2 aQ (HF 2 (fV 3) (cQ 3 [1] bX (aE (fV 0) (aO 1 (aE (fV 4) b9))))) (cQ 3 [1] bU (aE (fV 0) (aO 1 (aE (YT (cZ (fC (.int 1)) (cZ (fC (.int 1)) (cZ (fC (.int 1)) (cZ (fC (.int 0)) (cZ (fC (.int 3)) cC)))))) b9))))) (fV 4)))
   (b5 (f2 cH (fO 2) (fV 3))))
def Z9:b8:=bD 5 [1,2] SK
def OL:VS:=
   (cI (aL 5 (xV (cQ 3 [1] bX (aE (fV 0) (aO 1 (aE (fC (.int 13)) b9))))))
   (cI (YD (ET (fB (f2 XF (fV 2) (YT cC))) (fB (f2 XF (fV 5) (fC (.int 0)))))
   (cI (YD (fB (f2 XF (cQ 3 [1] bX (aE (fV 0) (aO 1 (aE (fC (.int 2)) b9)))) (fC (.int 0))))
   (b5 (bE (cZ (fC (.str "number")) (cZ (cQ 3 [1] bU (aE (fV 0) (aO 1 (aE (YT (cZ (fC (.int 0)) (cZ (fC (.int 1)) (cZ (fC (.int 2)) (cZ (fC (.int 5)) (cZ (fC (.int 999)) (cZ (cQ 3 [1] bX (aE (fV 0) (aO 1 (aE (fC (.int 1000)) b9)))) cC))))))) b9)))) cC))))
   a8)
   (b5 (bE (cZ (fC (.str "load")) (cZ (cQ 5 [1,2] Z9 (aE (fV 0) (aO 1 (aO 3 (aE (fC (.str "load")) (aE (fV 4) b9)))))) cC)))))
   a8)
   (cI (NI (ZR [0,1,2] 1 (iR1 (fC (.int 3))) (gN 3) WC (f2 cH (fV 2) (f2 oMax (fC (.int 0)) (f2 OW (f2 OW (f1 ZO (fV 2)) (fC (.int 1))) (cQ 3 [1] bX (aE (fV 0) (aO 1 (aE (fC (.int 6)) b9)))))))) (PC 3 (bZ (gN 6) (bZ (gN 7) (bZ (gN 8) ZA)))))
   (cI (YD (fB (f2 (ZN false) (fV 5) (bE (cZ (fC (.int 1)) (cZ (fC (.int 2)) cC)))))
   (b5 (bE (cZ (fC (.str "load")) (cZ (cQ 5 [1,2] Z9 (aE (fV 0) (aO 1 (aO 3 (aE (fC (.str "load")) (aE (fV 4) b9)))))) cC))))
   a8)
   (cI (YD (fB (f2 XF (fV 5) (fC (.int 3))))
   (b5 (bE (cZ (fC (.str "take")) (cZ (cQ 5 [1,2] Z9 (aE (fV 0) (aO 1 (aO 3 (aE (fC (.str "take")) (aE (fV 4) b9)))))) (cZ (fV 8) (cZ (fV 6) cC))))))
   a8)
   (cI (YD (fB (f2 (ZN false) (fV 5) (bE (cZ (fC (.int 4)) (cZ (fC (.int 5)) cC)))))
   (b5 (bE (cZ (fC (.str "store")) (cZ (cQ 5 [1,2] Z9 (aE (fV 0) (aO 1 (aO 3 (aE (fC (.str "store")) (aE (fV 4) b9)))))) (cZ (fV 6) cC)))))
   a8)
   (cI (YD (fB (f2 XF (fV 5) (fC (.int 6))))
   (b5 (bE (cZ (fC (.str "put")) (cZ (cQ 5 [1,2] Z9 (aE (fV 0) (aO 1 (aO 3 (aE (fC (.str "put")) (aE (fV 4) b9)))))) (cZ (fV 6) (cZ (fV 8) cC))))))
   a8)
   (cI (YD (fB (f2 XF (fV 5) (fC (.int 7))))
   (b5 (bE (cZ (fC (.str "pick")) (cZ (fV 8) (cZ (fV 6) (cZ (fV 7) cC))))))
   a8)
   (b5 (bE (cZ (f2 cH (YT (cZ (fC (.str "over")) (cZ (fC (.str "plus")) (cZ (fC (.str "minus")) (cZ (fC (.str "times")) (cZ (fC (.str "least")) (cZ (fC (.str "most")) (cZ (fC (.str "less")) cC)))))))) (cQ 3 [1] bX (aE (fV 0) (aO 1 (aE (fC (.int 7)) b9))))) (cZ (fV 6) (cZ (fV 7) cC)))))))))))))
def V8:b8:=bD 9 [1,3] OL
def YI:VS:=
   (cI (aL 10 (xV (f2 aQ (f2 DT (fV 3) (fV 9)) (cQ 3 [1] bU (aE (fV 0) (aO 1 (aE (YT (cZ (fC (.int 1)) (cZ (fC (.int 1)) (cZ (fC (.int 1)) (cZ (fC (.int 1)) (cZ (f1 F0 (fC (.int 1))) (cZ (fC (.int 0)) (cZ (fC (.int 2)) cC)))))))) b9)))))))
   (U6 8 TM (cZ (JK (ND (fB (f3 oLe oLt (fC (.int 0)) (fV 10) (f1 ZO (fV 3)))) (fB (f2 QF (f2 cH (fV 3) (fV 10)) (f2 OW (f1 ZO (fV 2)) (fC (.int 1)))))) (f2 cH (fV 3) (fV 10)) (fV 9)) cC)))
def T6:VS:=
   (cI (aL 6 (xV (f2 cH (fV 2) (f1 F0 (fC (.int 1))))))
   (cI (aL 7 (xV (JK (fB (f2 (ZN false) (f2 cH (fV 6) (fC (.int 0))) (bE (cZ (fC (.str "load")) (cZ (fC (.str "take")) (cZ (fC (.str "store")) (cZ (fC (.str "put")) cC))))))) (fC (.int 2)) (fC (.int 1)))))
   (cI (aL 8 (xO (YT cC)))
   (cI (RB (WO (DB (fV 6) (DW (fV 7)) pNo)) (gN 9)
   YI)
   (cI (YD (fB (f2 XF (fV 7) (fC (.int 1))))
   (b5 (f2 aQ (DB (fV 6) pNo (DW (fC (.int 1)))) (f1 VW (fO 8))))
   a8)
   (cI (GG 4 (f2 cH (fV 6) (fC (.int 0))) (f2 NG (f2 aQ (f2 cH (fV 6) (fC (.int 1))) (fC (.int 1))) (fV 5)))
   (b5 (f2 aQ (bE (cZ (f2 cH (fV 6) (fC (.int 0))) (cZ (f2 cH (fO 4) (f2 cH (fV 6) (fC (.int 0)))) cC))) (f1 VW (fO 8))))))))))
def Y2:b8:=bD 11 [1,4] T6
def YJ:VS:=
   (YD (ND (fB (f2 oLt (f1 ZO (fO 4)) (fV 2))) (fB (f2 QF (f2 cH (f2 cH (fO 4) (f1 F0 (fC (.int 1)))) (fC (.int 0))) (fC (.str "number")))))
   (cI (U6 4 TM (cZ (cQ 6 [1,4] Y2 (aE (fV 0) (aO 1 (aO 4 (aO 5 (aO 6 (aE (fV 3) b9))))))) cC))
   (YD (fB (f2 (ZN true) (f2 cH (f2 cH (fO 4) (f1 F0 (fC (.int 1)))) (fC (.int 0))) (bE (cZ (fC (.str "store")) (cZ (fC (.str "put")) cC)))))
   (U6 5 TM (cZ (f2 OW (f1 ZO (fO 4)) (fC (.int 1))) cC))
   a8))
   a8)
def WG:VS:=
   (cI (U6 4 TM (cZ (cQ 5 [1,3] V8 (aE (fV 0) (aO 1 (aO 5 (aO 6 (aE (fV 3) b9)))))) cC))
   (cI (YD (fB (f2 (ZN true) (f2 cH (f2 cH (fO 4) (f1 F0 (fC (.int 1)))) (fC (.int 0))) (bE (cZ (fC (.str "store")) (cZ (fC (.str "put")) cC)))))
   (U6 5 TM (cZ (f2 OW (f1 ZO (fO 4)) (fC (.int 1))) cC))
   a8)
   (RB (iR1 (cQ 3 [1] bU (aE (fV 0) (aO 1 (aE (YT (cZ (fC (.int 0)) (cZ (fC (.int 1)) (cZ (fC (.int 1)) (cZ (fC (.int 2)) (cZ (fC (.int 3)) cC)))))) b9))))) (gN 7)
   YJ)))
def QR:VS:=
   (cI (MC 4 5 6 (xO (YT cC)) (xO (YT cC)) (xO (fC (.dct [] []))))
   (cI (QZ (fB (f2 oLt (f1 ZO (fO 4)) (fV 2)))
   WG)
   (b5 (f1 VW (fO 4)))))
def W7:b8:=bD 8 [1] QR
def NP:VS:=
   (cI (YD (fB (f2 XF (f2 cH (fV 0) (fC (.int 0))) (fC (.str "number"))))
   (b5 (YT cC))
   a8)
   (b5 (JK (fB (f2 (ZN false) (f2 cH (fV 0) (fC (.int 0))) (bE (cZ (fC (.str "load")) (cZ (fC (.str "take")) (cZ (fC (.str "store")) (cZ (fC (.str "put")) cC))))))) (f1 LW (DB (fV 0) (DW (fC (.int 2))) pNo)) (f1 LW (DB (fV 0) (DW (fC (.int 1))) pNo)))))
def Z8:b8:=bD 1 [] NP
def OK:VS:=
   (cI (aL 2 (xV (f2 cH (f2 cH (fV 0) (fC (.int 1))) (fV 1))))
   (cI (YD (fB (f2 (ZN false) (f2 cH (fV 2) (fC (.int 0))) (bE (cZ (fC (.str "load")) (cZ (fC (.str "take")) (cZ (fC (.str "store")) (cZ (fC (.str "put")) cC)))))))
   (b5 (f2 oGe (f2 cH (fV 2) (fC (.int 1))) (f2 cH (fV 0) (fC (.int 0)))))
   a8)
   (b5 (PV (f2 XF (f2 cH (fV 2) (fC (.int 0))) (fC (.str "over"))) (f2 (ZN true) (DB (f2 cH (f2 cH (fV 0) (fC (.int 1))) (f2 cH (fV 2) (fC (.int 2)))) pNo (DW (fC (.int 2)))) (ZR [] 1 (iR2 (fC (.int 1)) (fC (.int 1000))) (gN 0) WC (bE (cZ (fC (.str "number")) (cZ (fV 0) cC)))))))))
def YG:b8:=bD 3 [] OK
def WE:VS:=
   (cI (aL 7 (xV (ZR [] 1 (WO (bE (cZ (fV 6) (cZ (fV 4) cC)))) (gN 0) (fB (f2 (ZN false) (f2 cH (fV 0) (fC (.int 0))) (bE (cZ (fC (.str "store")) (cZ (fC (.str "put")) cC))))) (fV 0))))
   (cI (aL 8 (xO (YT (cZ (f2 (ZN false) (fV 5) (cQ 1 [] Z8 (aE (fV 4) b9))) (cZ (PV (cQ 2 [] YG (aE (fV 0) (aE (fV 5) b9))) (cQ 2 [] YG (aE (fV 0) (aE (fV 3) b9)))) cC)))))
   (cI (U6 8 TM (cZ (PV (f2 (ZN false) (f2 cH (fV 6) (fC (.int 0))) (fV 2)) (PV (f2 (ZN false) (f2 cH (fV 4) (fC (.int 0))) (fV 2)) (PV (f2 XF (f2 cH (fV 6) (fC (.int 1))) (f2 cH (fV 4) (fC (.int 1)))) (f2 QF (fV 7) (YT cC))))) cC))
   (cI (U6 8 TM (cZ (PV (cQ 2 [] YG (aE (fV 0) (aE (fV 5) b9))) (f2 (ZN false) (f2 cH (fV 4) (fC (.int 0))) (bE (cZ (fC (.str "store")) (cZ (fC (.str "put")) cC))))) cC))
   (cI (U6 8 TM (cZ (PV (cQ 2 [] YG (aE (fV 0) (aE (fV 3) b9))) (f2 (ZN false) (f2 cH (fV 6) (fC (.int 0))) (bE (cZ (fC (.str "store")) (cZ (fC (.str "put")) cC))))) cC))
   (YD (fB (f2 (ZN false) (fC (.bl true)) (fO 8)))
   (U6 1 TM (cZ (bE (cZ (fV 5) (cZ (fV 3) cC))) cC))
   a8))))))
def WF:VS:=
   (RB (P1 (DB (f2 cH (fV 0) (fC (.int 1))) pNo (DW (fV 3)))) (PC 2 (bZ (gN 5) (bZ (gN 6) ZA)))
   WE)
def QP:VS:=
   (cI (GI 1 2 (xO (YT cC)) (xV (bE (cZ (fC (.str "load")) (cZ (fC (.str "take")) (cZ (fC (.str "store")) (cZ (fC (.str "put")) cC)))))))
   (cI (RB (P1 (f2 cH (fV 0) (fC (.int 1)))) (PC 2 (bZ (gN 3) (bZ (gN 4) ZA)))
   WF)
   (b5 (f1 DU (fO 1)))))
def W6:b8:=bD 9 [] QP
def ZG:VS:=
   (cI (aL 6 (xV (ZR [3,4] 1 (WO (fO 4)) (gN 2) (fB (f2 XF (ZR [1,2] 2 (WO (fV 0)) (PC 2 (bZ (gN 2) (bZ (gN 3) ZA))) (ND (fB (f2 XF (fV 3) (fV 1))) (fB (f2 (ZN false) (fV 2) (fO 0)))) (fC (.int 1))) (YT cC))) (fV 2))))
   (cI (U6 5 TM (cZ (cQ 3 [1] bU (aE (fV 0) (aO 1 (aE (fV 6) b9)))) cC))
   (U6 4 mRem (cZ (f2 cH (fO 5) (f1 F0 (fC (.int 1)))) cC))))
def XO:VS:=
   (cI (MC 3 4 5 (xV (cQ 1 [] W6 (aE (fV 2) b9))) (xO (RQ (f1 ZO (f2 cH (fV 2) (fC (.int 1)))))) (xO (YT cC)))
   (cI (QZ (fB (f2 QF (fO 4) (YT cC)))
   ZG)
   (b5 (fO 5))))
def Z5:b8:=bD 7 [1] XO
def aS:VS:=
   (cI (YD (fB (f2 XF (f2 cH (fV 0) (fC (.int 0))) (fC (.str "number"))))
   (b5 (fV 0))
   a8)
   (cI (aL 2 (xV (JK (fB (f2 (ZN false) (f2 cH (fV 0) (fC (.int 0))) (bE (cZ (fC (.str "load")) (cZ (fC (.str "take")) (cZ (fC (.str "store")) (cZ (fC (.str "put")) cC))))))) (fC (.int 2)) (fC (.int 1)))))
   (b5 (f2 aQ (DB (fV 0) pNo (DW (fV 2))) (f1 VW (ZR [1] 1 (WO (DB (fV 0) (DW (fV 2)) pNo)) (gN 1) WC (f2 cH (fV 0) (fV 1))))))))
def cD:b8:=bD 3 [] aS
def VA:VS:=
   (cI (aL 3 (xV (cQ 3 [1] bU (aE (fV 0) (aO 1 (aE (YT (cZ (fC (.int 3)) (cZ (fC (.int 6)) (cZ (fC (.int 9)) (cZ (fC (.int 64)) cC))))) b9))))))
   (cI (aL 4 (xV (cQ 3 [1] bU (aE (fV 0) (aO 1 (aE (YT (cZ (fC (.int 0)) (cZ (fV 3) (cZ (fV 3) (cZ (cQ 3 [1] bX (aE (fV 0) (aO 1 (aE (f2 aQ (fV 3) (fC (.int 1))) b9)))) cC))))) b9))))))
   (cI (aL 5 (xV (bE (cZ (fV 4) (cZ (cQ 4 [1] W7 (aE (fV 0) (aO 1 (aE (cQ 3 [1] bX (aE (fV 0) (aO 1 (aE (f2 aQ (fV 2) (fC (.int 1))) b9)))) (aE (fV 3) b9))))) cC)))))
   (cI (YD (fB (f2 oGt (cQ 3 [1] bX (aE (fV 0) (aO 1 (aE (fC (.int 3)) b9)))) (fC (.int 0))))
   (b5 (fV 5))
   a8)
   (cI (aL 6 (xV (cQ 3 [1] Z5 (aE (fV 0) (aO 1 (aE (fV 5) b9))))))
   (cI (aL 7 (xV (f1 JZ (ZR [] 2 (P1 (fV 6)) (PC 2 (bZ (gN 0) (bZ (gN 1) ZA))) WC (bE (cZ (fV 1) (cZ (fV 0) cC)))))))
   (b5 (bE (cZ (fV 4) (cZ (f1 VW (ZR [5,7] 1 (WO (fV 6)) (gN 2) WC (cQ 2 [] cD (aE (f2 cH (f2 cH (fV 0) (fC (.int 1))) (fV 2)) (aE (fV 1) b9))))) cC))))))))))
def Y9:b8:=bD 8 [1] VA
def SI:VS:=
   (cI (aL 3 (xV (cQ 3 [1] bU (aE (fV 0) (aO 1 (aE (YT (cZ (fV 2) (cZ (f2 oMin (fC (.int 64)) (f2 aQ (fV 2) (cQ 3 [1] bX (aE (fV 0) (aO 1 (aE (fC (.int 9)) b9)))))) (cZ (fC (.int 64)) cC)))) b9))))))
   (cI (aL 4 (xV (cQ 3 [1] bU (aE (fV 0) (aO 1 (aE (YT (cZ (fC (.int 2)) (cZ (fC (.int 4)) (cZ (fC (.int 1000)) cC)))) b9))))))
   (b5 (ZR [0,1,4] 1 (iR1 (fV 3)) (gN 3) WC (cQ 3 [1] bX (aE (fV 0) (aO 1 (aE (fV 2) b9))))))))
def XY:b8:=bD 5 [1] SI
def U2:VS:=
   (cI (aL 2 (xV (f1 JZ (ZR [1] 1 (iR1 (f1 ZO (fV 0))) (gN 1) WC (bE (cZ (fV 1) (cZ (f2 aQ (fV 1) (fV 0)) cC)))))))
   (b5 (f1 VW (ZR [2] 1 (WO (fV 0)) (gN 1) WC (cQ 2 [] cD (aE (fV 1) (aE (fV 0) b9)))))))
def aB:b8:=bD 3 [] U2
def MT:VS:=
   (cI (aL 11 (xV (cQ 3 [1] XY (aE (fV 0) (aO 1 (aE (fV 4) b9))))))
   (cI (NI (cQ 2 [] NK (aE (bE (cZ (fV 4) (cZ (JK (fB (f2 QF (fV 5) (fC (.int 0)))) (f2 cH (fV 2) (fC (.int 1))) (f2 cH (fV 3) (fC (.int 1)))) cC))) (aE (fV 11) b9))) (PC 2 (bZ (gN 12) (bZ (gN 13) ZA))))
   (cI (aL 14 (xV (JK (fB (f2 RA (fV 13) (fC .non))) (fC .non) (bE (cZ (f2 aQ (f2 cH (fV 13) (fC (.int 0))) (fV 9)) (cZ (f2 cH (fV 13) (fC (.int 1))) cC))))))
   (cI (YD (fB (f2 QF (cQ 2 [] W8 (aE (fV 6) (aE (fV 11) b9))) (bE (cZ (fV 12) (cZ (fV 14) cC)))))
   (b5 (fC (.bl false)))
   a8)
   (YD (fB (f2 QF (cQ 2 [] NK (aE (fV 7) (aE (fV 11) b9))) (bE (cZ (fV 12) (cZ (JK (fB (f2 RA (fV 14) (fC .non))) (fC .non) (bE (cZ (f2 cH (fV 8) (f2 cH (fV 14) (fC (.int 0)))) (cZ (f2 cH (fV 14) (fC (.int 1))) cC)))) cC)))))
   (b5 (fC (.bl false)))
   a8)))))
def zEK:VS:=
   (cI (aL 1 (xO (YT cC)))
   (cI (GI 2 3 (xV (cQ 3 [1] Y9 (aE (fV 0) (aO 1 (aE (fC (.int 3)) b9))))) (xV (cQ 3 [1] Y9 (aE (fV 0) (aO 1 (aE (fC (.int 3)) b9))))))
   (cI (aL 4 (xV (f2 oMax (f2 cH (fV 2) (fC (.int 0))) (f2 cH (fV 3) (fC (.int 0))))))
   (cI (aL 5 (xV (cQ 3 [1] bU (aE (fV 0) (aO 1 (aE (YT (cZ (fC (.int 0)) (cZ (fC (.int 0)) (cZ (fC (.int 1)) (cZ (fC (.int 2)) (cZ (fC (.int 999)) cC)))))) b9))))))
   (cI (aL 6 (xV (bE (cZ (fV 4) (cZ (bE (cZ (bE (cZ (fC (.str "number")) (cZ (fV 5) cC))) (cZ (bE (cZ (fC (.str "if")) (cZ (fC (.int 0)) (cZ (cQ 2 [] aB (aE (f2 cH (fV 2) (fC (.int 1))) (aE (fC (.int 2)) b9))) (cZ (cQ 2 [] aB (aE (f2 cH (fV 3) (fC (.int 1))) (aE (f2 aQ (fC (.int 2)) (f1 ZO (f2 cH (fV 2) (fC (.int 1))))) b9))) cC))))) cC))) cC)))))
   (cI (YD (fB (f2 BI (cQ 1 [] YZ (aE (fV 6) b9)) (fC (.bl true))))
   (b5 (fC (.bl false)))
   a8)
   (cI (NI (cQ 1 [] XX (aE (fV 6) b9)) (PC 2 (bZ (gN 7) (bZ (gN 8) ZA))))
   (cI (aL 9 (xV (JK (fB (f2 QF (fV 5) (fC (.int 0)))) (fC (.int 2)) (f2 aQ (fC (.int 2)) (f1 ZO (f2 cH (fV 2) (fC (.int 1))))))))
   (cI (RB (iR1 (fC (.int 4))) (gN 10)
   MT)
   (b5 (PV (f2 RA (f2 cH (fV 8) (fC (.int 1))) (fC .non)) (f2 XF (f1 ZO (fV 8)) (f2 aQ (f2 aQ (fC (.int 2)) (f1 ZO (f2 cH (fV 2) (fC (.int 1))))) (f1 ZO (f2 cH (fV 3) (fC (.int 1)))))))))))))))))
def IQ:b8:=bD 15 [] zEK
end L2
namespace RR
open PySem L2
structure Txt(K:Al)(mg:Rg->Option Rc):Prop where
 fnm:∀x a,Ge K Ri x=some (some (.ref a))->mg x=some (.ref a)
 n_len:mg "len"=none
 n_range:mg "range"=none
 n_min:mg "min"=none
 n_max:mg "max"=none
 VV:mg "list"=none
 n_tuple:mg "tuple"=none
 n_sorted:mg "sorted"=none
 n_isinstance:mg "isinstance"=none
 n_bool:mg "bool"=none
 n_int:mg "int"=none
 n_str:mg "str"=none
 n_enumerate:mg "enumerate"=none
 n_zip:mg "zip"=none
 n_all:mg "all"=none
 n_any:mg "any"=none
 n_dict:mg "dict"=none
 v_DEEDS:∃u v,mg "DEEDS"=some u/\bR v u/\∀N H M,bB K N H M v AJ
 v_DEED_PARTS:∃u v,mg "DEED_PARTS"=some u/\bR v u/\∀N H M,bB K N H M v PN
 v_MADE:∃u v,mg "MADE"=some u/\bR v u/\∀N H M,bB K N H M v VQ
 v_MOST_CELLS:∃u v,mg "MOST_CELLS"=some u/\bR v u/\∀N H M,bB K N H M v T2
 v_MOST_DEEP:∃u v,mg "MOST_DEEP"=some u/\bR v u/\∀N H M,bB K N H M v SD
 v_MOST_PLACE:∃u v,mg "MOST_PLACE"=some u/\bR v u/\∀N H M,bB K N H M v T3
 v_MOST_ROWS:∃u v,mg "MOST_ROWS"=some u/\bR v u/\∀N H M,bB K N H M v WV
 v_MOST_SURE:∃u v,mg "MOST_SURE"=some u/\bR v u/\∀N H M,bB K N H M v WW
 v_MOST_TREE_ROWS:∃u v,mg "MOST_TREE_ROWS"=some u/\bR v u/\∀N H M,bB K N H M v YK
 v_MOST_WORD:∃u v,mg "MOST_WORD"=some u/\bR v u/\∀N H M,bB K N H M v aK
 v_ONE:∃u v,mg "ONE"=some u/\bR v u/\∀N H M,bB K N H M v E4
 v_OTHER_PARTS:∃u v,mg "OTHER_PARTS"=some u/\bR v u/\∀N H M,bB K N H M v Q3
 v_READERS:∃u v,mg "READERS"=some u/\bR v u/\∀N H M,bB K N H M v X0
 v_WRITERS:∃u v,mg "WRITERS"=some u/\bR v u/\∀N H M,bB K N H M v Z7
 v_ZERO:∃u v,mg "ZERO"=some u/\bR v u/\∀N H M,bB K N H M v K5
 c_Flat:NA K "Flat" "laid" "numbers"
section
variable{P:Bb}{w:Rl}{K:Al}{mg:Rg->Option Rc}{base:Rn}{f:Rf}{fd:Ds}
noncomputable abbrev Nx0:List Rg:=["thing","low","high"]
abbrev Qx0:List Rg:=["thing","low","high"]
theorem jE:cM Nx0 Qx0 (cV (top 9)):=aJ
theorem pK(F:YH K "is_whole" "is_whole" (top 9) f fd)(T:Txt K mg):bO P w K mg base CX0 1 f fd Qx0 (spV K [] 3 a9):=
 XB P w K mg base Nx0 Qx0 0 QN [] F jE λ_ _ _ _ _ _ c b a=>by
  refine(c0 ?_ (cY ?_))
  ·exact(bW (RE (T0 (ZU (MO T.n_isinstance (vv 0) (vty T.n_bool hG))) (WS (YX (ZU (MO T.n_isinstance (vv 0) (vty T.n_int iL)))))))
   (cY (cR YA))
   cK)
  ·exact(cR (Yu F4 F4 s_le s_le (vv 1) (vv 0) (vv 2)))
noncomputable abbrev Nx1:List Rg:=["a","b"]
abbrev Qx1:List Rg:=["a","b"]
theorem jX:cM Nx1 Qx1 (cV (top 10)):=aJ
theorem lT(F:YH K "plus" "plus" (top 10) f fd)(T:Txt K mg):bO P w K mg base CX0 1 f fd Qx1 (spV K [] 2 N7):=
 XB P w K mg base Nx1 Qx1 0 DG [] F jX λ_ _ _ _ _ _ c b a=>by exact(cY (cR (Y1 VY SW (bG (ZT (K:=K) rfl) aY (vv 0) (vv 1)) (bG (ZT (K:=K) rfl) aY (bK (by rfl) T.v_MOST_WORD) c5))))
abbrev Nx2:List Rg:=["a","b"]
abbrev Qx2:List Rg:=["a","b"]
theorem eE:cM Nx2 Qx2 (cV (top 11)):=aJ
theorem dI(F:YH K "minus" "minus" (top 11) f fd)(T:Txt K mg):bO P w K mg base CX0 1 f fd Qx2 (spV K [] 2 RJ):=
 XB P w K mg base Nx2 Qx2 0 HJ [] F eE λ_ _ _ _ _ _ c b a=>by exact(cY (cR (Y1 VY SW (Y1 U5 Q6 (vv 0) (vv 1)) (bG (ZT (K:=K) rfl) aY (bK (by rfl) T.v_MOST_WORD) c5))))
abbrev Nx3:List Rg:=["a","b"]
abbrev Qx3:List Rg:=["a","b"]
theorem lS:cM Nx3 Qx3 (cV (top 12)):=aJ
theorem iA(F:YH K "times" "times" (top 12) f fd)(T:Txt K mg):bO P w K mg base CX0 1 f fd Qx3 (spV K [] 2 RK):=
 XB P w K mg base Nx3 Qx3 0 HK [] F lS λ_ _ _ _ _ _ c b a=>by exact(cY (cR (Y1 VY SW (bG (LP (K:=K) rfl) PP (vv 0) (vv 1)) (bG (ZT (K:=K) rfl) aY (bK (by rfl) T.v_MOST_WORD) c5))))
abbrev Nx4:List Rg:=["a","b"]
abbrev Qx4:List Rg:=["a","b"]
theorem dR:cM Nx4 Qx4 (cV (top 13)):=aJ
theorem qP(F:YH K "least" "least" (top 13) f fd)(T:Txt K mg):bO P w K mg base CX0 1 f fd Qx4 (spV K [] 2 RH):=
 XB P w K mg base Nx4 Qx4 0 HI [] F dR λ_ _ _ _ _ _ c b a=>by exact(cY (cR (MN (OD rfl) Se (by rfl) T.n_min C3 (vv 0) (vv 1))))
abbrev Nx5:List Rg:=["a","b"]
abbrev Qx5:List Rg:=["a","b"]
theorem kI:cM Nx5 Qx5 (cV (top 14)):=aJ
theorem lP(F:YH K "most" "most" (top 14) f fd)(T:Txt K mg):bO P w K mg base CX0 1 f fd Qx5 (spV K [] 2 N5):=
 XB P w K mg base Nx5 Qx5 0 DE [] F kI λ_ _ _ _ _ _ c b a=>by exact(cY (cR (MN (OC rfl) Sc (by rfl) T.n_max C2 (vv 0) (vv 1))))
abbrev Nx6:List Rg:=["a","b"]
abbrev Qx6:List Rg:=["a","b"]
theorem iP:cM Nx6 Qx6 (cV (top 15)):=aJ
theorem oA(F:YH K "less" "less" (top 15) f fd)(T:Txt K mg):bO P w K mg base CX0 1 f fd Qx6 (spV K [] 2 N3):=
 XB P w K mg base Nx6 Qx6 0 DD [] F iP λ_ _ _ _ _ _ c b a=>by exact(cY (cR (WY (bY F5 s_lt (vv 0) (vv 1) (bQ _)) c5 c5)))
abbrev Nx7:List Rg:=["a","b"]
abbrev Qx7:List Rg:=["a","b"]
theorem Yr:cM Nx7 Qx7 (cV (top 16)):=aJ
theorem fM(F:YH K "over" "over" (top 16) f fd)(T:Txt K mg):bO P w K mg base CX0 1 f fd Qx7 (spV K [] 2 UX):=
 XB P w K mg base Nx7 Qx7 0 LK [] F Yr λ_ _ _ _ _ _ c b a=>by exact(cY (cR (WY (XV b (vv 1) c5) bF (Y1 HY EB (vv 0) (vv 1)))))
noncomputable abbrev Nx8:List Rg:=["c","a","b"]
abbrev Qx8:List Rg:=["c","a","b"]
theorem Wh:cM Nx8 Qx8 (cV (top 17)):=aJ
theorem lK(F:YH K "pick" "pick" (top 17) f fd)(T:Txt K mg):bO P w K mg base CX0 1 f fd Qx8 (spV K [] 3 N6):=
 XB P w K mg base Nx8 Qx8 0 DF [] F Wh λ_ _ _ _ _ _ c b a=>by exact(cY (cR (WY (bY (SO (K:=K) rfl b) SX (vv 0) c5 (bQ _)) (vv 1) (vv 2))))
noncomputable abbrev Nx9:List Rg:=["deed","words","made"]
noncomputable abbrev Qx9:List Rg:=["deed","words"]
theorem zH9:cM Nx9 Qx9 (cV (top 19)):=aJ
theorem lL(F:YH K "done" "done" (top 19) f fd)(T:Txt K mg)(c:cB P w K mg base "plus" 1 Qx1 [] N7 f_x1)(d:cB P w K mg base "minus" 1 Qx2 [] RJ f_x2)(e:cB P w K mg base "times" 1 Qx3 [] RK f_x3)(g:cB P w K mg base "least" 1 Qx4 [] RH f_x4)(h:cB P w K mg base "most" 1 Qx5 [] N5 f_x5)(i:cB P w K mg base "less" 1 Qx6 [] N3 f_x6)(j:cB P w K mg base "over" 1 Qx7 [] UX f_x7)(k:cB P w K mg base "pick" 1 Qx8 [] N6 f_x8):bO P w K mg base CX0 2 f fd Qx9 (spV K [] 2 WM):=
 XB P w K mg base Nx9 Qx9 1 LG [] F zH9 λ_ _ _ _ _ _ b l a=>by
  refine(c0 ?_ (c0 ?_ (cY ?_)))
  ·exact(bW (XV l (vv 0) cP)
   (cY (cR (bT k b (cX (cW (aT a (vv 1) c5)) (cX (cW (aT a (vv 1) c5)) (cX (cW (aT a (vv 1) c5)) cU))))))
   cK)
  ·exact(bV zH9.nd (a6 (cW (aT a (bK (by rfl) T.v_MADE) (vv 0)))))
  ·exact(cR (Xu (V0 (K:=K) rfl T.fnm b c (by decide) (V0 (K:=K) rfl T.fnm b d (by decide) (V0 (K:=K) rfl T.fnm b e (by decide) (V0 (K:=K) rfl T.fnm b g (by decide) (V0 (K:=K) rfl T.fnm b h (by decide) (V0 (K:=K) rfl T.fnm b i (by decide) (V0 (K:=K) rfl T.fnm b j (by decide) Xw))))))) (pv 2) (cX (cW (aT a (vv 1) c5)) (cX (cW (aT a (vv 1) c5)) cU))))
abbrev Nx10:List Rg:=["deed"]
abbrev Qx10:List Rg:=["deed"]
theorem nF:cM Nx10 Qx10 (cV (top 28)):=aJ
theorem jU(F:YH K "parts_of" "parts_of" (top 28) f fd)(T:Txt K mg):bO P w K mg base CX0 1 f fd Qx10 (spV K [] 1 aD):=
 XB P w K mg base Nx10 Qx10 0 LL [] F nF λ_ _ _ _ _ _ c b a=>by
  refine(c0 ?_ (cY ?_))
  ·exact (bW (bY (TL (K := K) rfl b) (YE (neg := false)) (vv 0) (bK (by rfl) T.v_DEEDS) (by with_unfolding_all rfl))
   (cY (cR (bK (by rfl) T.v_DEED_PARTS)))
   cK)
  ·exact(cR (fI rfl a (bK (by rfl) T.v_OTHER_PARTS) (vv 0) ⟨rfl,rfl,rfl,rfl⟩))
noncomputable abbrev Nx11:List Rg:=["row"]
abbrev Qx11:List Rg:=["row"]
theorem iH:cM Nx11 Qx11 (cV (top 29)):=aJ
theorem hU(F:YH K "makes_word" "makes_word" (top 29) f fd)(T:Txt K mg):bO P w K mg base CX0 1 f fd Qx11 (spV K [] 1 Y3):=
 XB P w K mg base Nx11 Qx11 0 PY [] F iH λ_ _ _ _ _ _ c b a=>by exact(cY (cR (X6 (MZ (K:=K) rfl b) (YE (neg:=true)) (aT a (vv 0) c5) (bK (by rfl) T.v_WRITERS) (by with_unfolding_all rfl))))
abbrev Nx12:List Rg:=["row"]
abbrev Qx12:List Rg:=["row"]
theorem pZ:cM Nx12 Qx12 (cV (top 30)):=aJ
theorem jP(F:YH K "place_of" "place_of" (top 30) f fd)(T:Txt K mg):bO P w K mg base CX0 1 f fd Qx12 (spV K [] 1 bA):=
 XB P w K mg base Nx12 Qx12 0 YR [] F pZ λ_ _ _ _ _ _ c b a=>by exact(cY (cR (WY (RE (T0 (bY (TL (K:=K) rfl b) (YE (neg:=false)) (aT a (vv 0) c5) (bK (by rfl) T.v_READERS) (by with_unfolding_all rfl)) (WS (bY (TL (K:=K) rfl b) (YE (neg:=false)) (aT a (vv 0) c5) (bK (by rfl) T.v_WRITERS) (by with_unfolding_all rfl))))) (aT a (vv 0) c5) bF)))
noncomputable abbrev Nx13:List Rg:=["row","deed","rest"]
abbrev CU:List Rg:=["row"]
theorem zCD:cM Nx13 CU (cV (top 31)):=aJ
theorem Ze(F:YH K "names_of" "names_of" (top 31) f fd)(T:Txt K mg)(e:cB P w K mg base "parts_of" 1 Qx10 [] aD f_x10):bO P w K mg base CX0 2 f fd CU (spV K [] 1 ZH):=
 XB P w K mg base Nx13 CU 1 LJ [] F zCD λ_ _ _ _ _ _ d c b=>by
  refine(c0 ?_ (cY ?_))
  ·exact(CP (i:=1) (j:=2) rfl rfl zCD.nd rfl rfl (by decide) (Gx rfl) (Gx rfl) (vv 0))
  ·exact(cR (bP (aA ["part","given"] [] 2 (Tk rfl (by rfl) T.n_zip (cW (bT e d (cX (vv 1) cU))) (vv 2)) (λa _ _ _ _=>⟨(Y8 (K:=K) rfl rfl (b7 (cJ a) (b7 (cJ a) Z1))),(IM (XV c (vv 0) cP)),(vv 1)⟩))))
noncomputable abbrev Nx14:List Rg:=["row","names"]
abbrev Qx14:List Rg:=["row","names"]
theorem kO:cM Nx14 Qx14 (cV (top 32)):=aJ
theorem iV(F:YH K "with_names" "with_names" (top 32) f fd)(T:Txt K mg):bO P w K mg base CX0 1 f fd Qx14 (spV K [] 2 XH):=
 XB P w K mg base Nx14 Qx14 0 PZ [] F kO λ_ _ _ _ _ _ c b a=>by exact(cY (cR (bG (ZT (K:=K) rfl) aY (Q7 rfl (vv 0) Q8 (Q9 (Y1 U5 Q6 (YV T.n_len (vv 0)) (YV T.n_len (vv 1))))) (NY (VD (K:=K) rfl) U9 (by rfl) T.n_tuple ZK (vv 1)))))
noncomputable abbrev Nx15:List Rg:=["thing","able"]
abbrev Qx15:List Rg:=["thing","able"]
theorem oO:cM Nx15 Qx15 (cV (top 33)):=aJ
theorem fS(F:YH K "may_name" "may_name" (top 33) f fd)(T:Txt K mg)(c:cB P w K mg base "is_whole" 1 Qx0 [] a9 f_x0):bO P w K mg base CX0 2 f fd Qx15 (spV K [] 2 YO):=
 XB P w K mg base Nx15 Qx15 1 QS [] F oO λ_ _ _ _ _ _ b d a=>by exact(cY (cR (V5 (bT c b (cX (vv 0) (cX c5 (cX (cW (Y1 U5 Q6 (YV T.n_len (vv 1)) c5)) cU)))) (UF (aT a (vv 1) (vv 0))))))
noncomputable abbrev Nx16:List Rg:=["part","thing","able"]
abbrev Qx16:List Rg:=["part","thing","able"]
theorem oS:cM Nx16 Qx16 (cV (top 34)):=aJ
theorem eI(F:YH K "fits" "fits" (top 34) f fd)(T:Txt K mg)(c:cB P w K mg base "is_whole" 1 Qx0 [] a9 f_x0)(e:cB P w K mg base "may_name" 2 Qx15 [] YO f_x15):bO P w K mg base CX0 3 f fd Qx16 (spV K [] 3 UW):=
 XB P w K mg base Nx16 Qx16 2 LH [] F oS λ_ _ _ _ _ _ a b d=>by
  refine(c0 ?_ (c0 ?_ (cY ?_)))
  ·exact(bW (XV b (vv 0) cP)
   (cY (cR (bT c a (cX (vv 1) (cX c5 (cX (cW (bK (by rfl) T.v_MOST_WORD)) cU))))))
   cK)
  ·exact(bW (XV b (vv 0) cP)
   (cY (cR (bT c a (cX (vv 1) (cX c5 (cX (cW (bK (by rfl) T.v_MOST_PLACE)) cU))))))
   cK)
  ·exact(cR (bT e a (cX (vv 1) (cX (vv 2) cU))))
noncomputable abbrev Nx17:List Rg:=["thing","able","deed","rest","parts"]
abbrev Qx17:List Rg:=["thing","able"]
theorem EC:cM Nx17 Qx17 (cV (top 35)):=aJ
theorem eX(F:YH K "is_row" "is_row" (top 35) f fd)(T:Txt K mg)(g:cB P w K mg base "parts_of" 1 Qx10 [] aD f_x10)(d:cB P w K mg base "fits" 3 Qx16 [] UW f_x16):bO P w K mg base CX0 4 f fd Qx17 (spV K [] 2 WU):=
 XB P w K mg base Nx17 Qx17 3 LI [] F EC λ_ _ _ _ _ _ b a e=>by
  refine(c0 ?_ (c0 ?_ (c0 ?_ (c0 ?_ (cY ?_)))))
  ·exact(bW (RE (T0 (YX (ZU (MO T.n_isinstance (vv 0) (vty T.n_tuple ZK)))) (WS (XV a (YV T.n_len (vv 0)) c5))))
   (cY (cR YA))
   cK)
  ·exact(CP (i:=2) (j:=3) rfl rfl EC.nd rfl rfl (by decide) (Gx rfl) (Gx rfl) (vv 0))
  ·exact(bV EC.nd (a6 (cW (WY (ZU (MO T.n_isinstance (vv 2) (vty T.n_str Uy))) (bT g b (cX (vv 2) cU)) bF))))
  ·exact(bW (RE (T0 (bY T8 P9 (vv 4) bF (bQ _)) (WS (bY (SO (K:=K) rfl a) SX (YV T.n_len (vv 4)) (YV T.n_len (vv 3)) (bQ _)))))
   (cY (cR YA))
   cK)
  ·exact(cR (GS (kAll (K:=K) rfl rfl) Sg (by rfl) T.n_all C1 (bP (aA ["able","part","given"] [1] 2 (Tk rfl (by rfl) T.n_zip (vv 4) (vv 3)) (λc _ _ _ _=>⟨(Y8 (K:=K) rfl rfl (b7 (cJ c) (b7 (cJ c) Z1))),X5,(cW (bT d b (cX (vv 1) (cX (vv 2) (cX (vv 0) cU)))))⟩)))))
noncomputable abbrev Nx18:List Rg:=["thing","sure","rows","able","row"]
abbrev Qx18:List Rg:=["thing"]
theorem MD:cM Nx18 Qx18 (cV (top 36)):=aJ
theorem dN(F:YH K "is_block" "is_block" (top 36) f fd)(T:Txt K mg)(g:cB P w K mg base "is_whole" 1 Qx0 [] a9 f_x0)(d:cB P w K mg base "makes_word" 1 Qx11 [] Y3 f_x11)(e:cB P w K mg base "is_row" 4 Qx17 [] WU f_x17):bO P w K mg base CX0 5 f fd Qx18 (spV K [] 1 W5):=
 XB P w K mg base Nx18 Qx18 4 QL [] F MD λ_ _ _ _ _ _ a c b=>by
  refine(c0 ?_ (c0 ?_ (c0 ?_ (c0 ?_ (c0 ?_ (c0 ?_ (cY ?_)))))))
  ·exact(bW (RE (T0 (YX (ZU (MO T.n_isinstance (vv 0) (vty T.n_tuple ZK)))) (WS (bY (SO (K:=K) rfl c) SX (YV T.n_len (vv 0)) c5 (bQ _)))))
   (cY (cR YA))
   cK)
  ·exact(UG (vv 0) (Y8 (K:=K) rfl rfl (b7 (cJ MD.nd) (b7 (cJ MD.nd) Z1))))
  ·exact (bW (YX (ZU (bT g a (cX (vv 1) (cX c5 (cX (cW (bK (by rfl) T.v_MOST_SURE)) cU))))))
   (cY (cR YA))
   cK)
  ·exact (bW (RE (T0 (YX (ZU (MO T.n_isinstance (vv 2) (vty T.n_tuple ZK)))) (WS (bY BK s_gt (YV T.n_len (vv 2)) (bK (by rfl) T.v_MOST_ROWS) (bQ _)))))
   (cY (cR YA))
   cK)
  ·exact(bV MD.nd (WL (aZ (cE cT))))
  ·exact(XC Cj rfl (YS rfl (vv 2)) (cJ MD.nd)
   (c0 (bW (YX (ZU (bT e a (cX (vv 4) (bH (pv 3) cU)))))
   (cY (cR YA))
   cK)
   (cY (YW (K:=K) rfl Be Bf aM X4 (pv 3) (cE (c7 (bT d a (cX (vv 4) cU)) cT))))))
  ·exact(cR YA)
noncomputable abbrev Nx19:List Rg:=["thing","sure"]
abbrev Qx19:List Rg:=["thing","sure"]
theorem oG:cM Nx19 Qx19 (cV (top 39)):=aJ
theorem oT(F:YH K "is_cells" "is_cells" (top 39) f fd)(T:Txt K mg)(d:cB P w K mg base "is_whole" 1 Qx0 [] a9 f_x0):bO P w K mg base CX0 2 f fd Qx19 (spV K [] 2 YN):=
 XB P w K mg base Nx19 Qx19 1 QM [] F oG λ_ _ _ _ _ _ b e a=>by
  refine(c0 ?_ (cY ?_))
  ·exact (bW (RE (T0 (YX (ZU (MO T.n_isinstance (vv 0) (vty T.VV RN)))) (WS (YX (GW F4 F4 s_le s_le (vv 1) (YV T.n_len (vv 0)) (bK (by rfl) T.v_MOST_CELLS))))))
   (cY (cR YA))
   cK)
  ·exact(cR (GS (kAll (K:=K) rfl rfl) Sg (by rfl) T.n_all C1 (bP (aA ["word"] [] 1 (YS rfl (vv 0)) (λc _ _ _ _=>⟨(cJ c),X5,(cW (bT d b (cX (vv 0) (cX c5 (cX (cW (bK (by rfl) T.v_MOST_WORD)) cU)))))⟩)))))
abbrev Nx20:List Rg:=["deed","words"]
abbrev Qx20:List Rg:=["deed","words"]
theorem nB:cM Nx20 Qx20 (cV (top 40)):=aJ
theorem pW(F:YH K "touches" "touches" (top 40) f fd)(T:Txt K mg):bO P w K mg base CX0 1 f fd Qx20 (spV K [] 2 Y0):=
 XB P w K mg base Nx20 Qx20 0 RT [] F nB λ_ _ _ _ _ _ c b a=>by
  refine(c0 ?_ (c0 ?_ (cY ?_)))
  ·exact(bW (XV b (vv 0) cP)
   (cY (cR (X6 (SO (K:=K) rfl b) SX (aT a (vv 1) c5) c5 (bQ _))))
   cK)
  ·exact(bW (XV b (vv 0) cP)
   (cY (cR (X6 (SO (K:=K) rfl b) SX (aT a (vv 1) c5) c5 (bQ _))))
   cK)
  ·exact(cR YA)
noncomputable abbrev Nx21:List Rg:=["deed","place","words","cells"]
abbrev Qx21:List Rg:=["deed","place","words","cells"]
theorem Yk:cM Nx21 Qx21 (cV (top 41)):=aJ
theorem oU(F:YH K "do_on_cell" "do_on_cell" (top 41) f fd)(T:Txt K mg)(c:cB P w K mg base "touches" 1 Qx20 [] Y0 f_x20):bO P w K mg base CX0 2 f fd Qx21 (spV K [3] 4 bM):=
 XB P w K mg base Nx21 Qx21 1 a7 [3] F Yk λ_ _ _ _ _ _ d b a=>by
  refine(c0 ?_ (c0 ?_ (c0 ?_ (cY ?_))))
  ·exact(bW (YX (ZU (bT c d (cX (vv 0) (cX (vv 2) cU)))))
   (cY (cR (cG (c7 (WY (XV b (vv 0) cP) (aT a (vv 2) c5) bF) (c7 bF cT)))))
   cK)
  ·exact(bW (bY Uk s_ge (vv 1) (YV T.n_len (vo 3)) (bQ _))
   (cY (cR (cG (c7 bF (c7 cP cT)))))
   cK)
  ·exact (bW (bY (TL (K := K) rfl b) (YE (neg := false)) (vv 0) (bK (by rfl) T.v_WRITERS) (by with_unfolding_all rfl))
   (c0 (gQ rfl (pv 3) (vv 1) (cW (aT a (vv 2) c5)))
   (cY (cR (cG (c7 bF (c7 bF cT))))))
   cK)
  ·exact(cR (cG (c7 (aT a (vo 3) (vv 1)) (c7 bF cT))))
noncomputable abbrev Nx22:List Rg:=["row","words","cells","shift","deed","place","word"]
noncomputable abbrev K2:List Rg:=["row","words","cells","shift"]
theorem IE:cM Nx22 K2 (cV (top 42)):=aJ
theorem Vv{j:Rf}(F:CT K "do_row" "do_row" (top 42) (.ref j) f fd)(T:Txt K mg)(c:cB P w K mg base "done" 2 Qx9 [] WM f_x9)(e:cB P w K mg base "place_of" 1 Qx12 [] bA f_x12)(h:cB P w K mg base "do_on_cell" 2 Qx21 [3] bM f_x21):bO P w K mg base CX0 3 f fd K2 (spV K [2] 4 ZQ):=
 CT.okV (P:=P) (w:=w) (mg:=mg) (base:=base) (K:=K) (N:=Nx22) (ps:=K2) (k:=2) (g:=SG) (ml:=[2]) F IE (by decide) λi A outer s H E b=>by
  have d:=b.units;have a:=Tt b;refine(c0 ?_ (c0 ?_ (c0 ?_ (c0 ?_ (c0 ?_ (cY ?_))))))
  ·exact(bV IE.nd (a6 (cW (aT a (vv 0) c5))))
  ·exact(bW (XV d (vv 4) cP)
   (cY (cR (cG (c7 (aT a (vv 0) c5) (c7 bF cT)))))
   cK)
  ·exact(bV IE.nd (a6 (cW (bT e b (cX (vv 0) cU)))))
  ·exact(bW (bY M5 ID (vv 5) bF (bQ _))
   (cY (cR (bT h b (cX (vv 4) (cX (cW (bG (ZT (K:=K) rfl) aY (vv 5) (vv 3))) (cX (vv 1) (bH (pv 2) cU)))))))
   cK)
  ·exact(bV IE.nd (a6 (cW (bT c b (cX (vv 4) (cX (vv 1) cU))))))
  ·exact(cR (cG (c7 (vv 6) (c7 (WY (bY T8 P9 (vv 6) bF (bQ _)) cP bF) cT))))
noncomputable abbrev Nx23:List Rg:=["rows","cells","words","at","row","word","why"]
abbrev Qx23:List Rg:=["rows","cells"]
theorem OZ:cM Nx23 Qx23 (cV (top 43)):=aJ
theorem hV(F:YH K "do_rows" "do_rows" (top 43) f fd)(T:Txt K mg)(g:cB P w K mg base "names_of" 2 CU [] ZH f_x13)(i:cB P w K mg base "do_row" 3 K2 [2] ZQ f_x22)(e:DefD P w K mg base "do_row" 3 K2 (spV K [2] 4 ZQ) f_x22 (.int 0)):bO P w K mg base CX0 4 f fd Qx23 (spV K [1] 2 V6):=
 XB P w K mg base Nx23 Qx23 3 OH [1] F OZ λ_ _ _ _ _ _ b h a=>by
  refine(c0 ?_ (c0 ?_ (cY ?_)))
  ·exact(bV OZ.nd (WL (aZ (cE cT))))
  ·exact (XC Cj rfl (QD rfl (by rfl) T.n_enumerate (vv 0)) (Y8 (K := K) rfl rfl (b7 (cJ OZ.nd) (b7 (cJ OZ.nd) Z1)))
   (c0 (UG (cW (GU (K:=K) (v:=(.int 0)) (d:=(.int 0)) rfl e (λ_ _ _=>(.int _)) (λ_=>nofun) b (by decide) (by rfl) (cX (vv 4) (cX (bP (aA ["words","name"] [2] 1 (YS rfl (cW (bT g b (cX (vv 4) cU)))) (λc _ _ _ _=>⟨(cJ c),X5,(cW (aT a (vo 0) (vv 1)))⟩))) (bH (pv 1) cU))))) (Y8 (K:=K) rfl rfl (b7 (cJ OZ.nd) (b7 (cJ OZ.nd) Z1))))
   (c0 (bW (bY M5 ID (vv 6) bF (bQ _))
   (cY (cR (cG (QB (pv 2) (c7 (cG (c7 (vv 3) (c7 (vv 6) cT))) cT)))))
   cK)
   (cY (YW (K:=K) rfl Be Bf aM X4 (pv 2) (cE (c7 (vv 5) cT)))))))
  ·exact(cR (cG (QB (pv 2) (c7 bF cT))))
noncomputable abbrev Nx24:List Rg:=["block","cells"]
abbrev Qx24:List Rg:=["block","cells"]
theorem pV:cM Nx24 Qx24 (cV (top 44)):=aJ
theorem lJ(F:YH K "check_run" "check_run" (top 44) f fd)(T:Txt K mg)(c:cB P w K mg base "is_block" 5 Qx18 [] W5 f_x18)(d:cB P w K mg base "is_cells" 2 Qx19 [] YN f_x19):bO P w K mg base CX0 6 f fd Qx24 (spV K [] 2 XW):=
 XB P w K mg base Nx24 Qx24 5 SF [] F pV λ_ _ _ _ _ _ b e a=>by
  refine(c0 ?_ (cY ?_))
  ·exact(bW (YX (ZU (bT c b (cX (vv 0) cU))))
   (cY UU)
   cK)
  ·exact(bW (YX (ZU (bT d b (cX (vv 1) (cX (cW (aT a (vv 0) c5)) cU)))))
   (cY UU)
   cK)
noncomputable abbrev Nx25:List Rg:=["block","cells","then","words","fault"]
abbrev Qx25:List Rg:=["block","cells"]
theorem IF:cM Nx25 Qx25 (cV (top 45)):=aJ
theorem mP(F:YH K "run" "run" (top 45) f fd)(T:Txt K mg)(c:cB P w K mg base "do_rows" 4 Qx23 [1] V6 f_x23)(d:cB P w K mg base "check_run" 6 Qx24 [] XW f_x24):bO P w K mg base CX0 7 f fd Qx25 (spV K [] 2 NK):=
 XB P w K mg base Nx25 Qx25 6 Sj [] F IF λ_ _ _ _ _ _ b e a=>by
  refine(c0 ?_ (c0 ?_ (c0 ?_ (cY ?_))))
  ·exact(UH (bT d b (cX (vv 0) (cX (vv 1) cU))))
  ·exact(bV IF.nd (WL (CK (HR (K:=K) rfl) VV (by rfl) T.VV RN (vv 1))))
  ·exact(UG (cW (bT c b (cX (cW (aT a (vv 0) c5)) (bH (pv 2) cU)))) (Y8 (K:=K) rfl rfl (b7 (cJ IF.nd) (b7 (cJ IF.nd) Z1))))
  ·exact(cR (cG (QB (pv 2) (c7 (vv 4) cT))))
abbrev Nx26:List Rg:=["thing"]
abbrev Qx26:List Rg:=["thing"]
theorem Xs:cM Nx26 Qx26 (cV (top 51)):=aJ
theorem Xh(F:YH K "is_if" "is_if" (top 51) f fd)(T:Txt K mg):bO P w K mg base CX0 1 f fd Qx26 (spV K [] 1 RG):=
 XB P w K mg base Nx26 Qx26 0 AX [] F Xs λ_ _ _ _ _ _ c b a=>by
  refine(c0 ?_ (cY ?_))
  ·exact(bW (RE (T0 (YX (ZU (MO T.n_isinstance (vv 0) (vty T.n_tuple ZK)))) (WS (bY (SO (K:=K) rfl b) SX (YV T.n_len (vv 0)) c5 (bQ _)))))
   (cY (cR YA))
   cK)
  ·exact(cR (V5 (MO T.n_isinstance (aT a (vv 0) c5) (vty T.n_str Uy)) (UF (veq b (aT a (vv 0) c5) cP))))
noncomputable abbrev Nx27:List Rg:=["thing","able","deep","sight","side","within"]
noncomputable abbrev Qx27:List Rg:=["thing","able","deep"]
theorem ME:cM Nx27 Qx27 (cV (top 52)):=aJ
noncomputable abbrev Nx28:List Rg:=["things","able","deep","sight","thing"]
abbrev Qx28:List Rg:=["things","able","deep"]
theorem MF:cM Nx28 Qx28 (cV (top 53)):=aJ
theorem lB{R:b8}{kk:Nat}(g:4<=kk)(F:YH K "sight_behind_if" "sight_behind_if" (top 52) f fd)(T:Txt K mg)(d:cB P w K mg base "may_name" 2 Qx15 [] YO f_x15)(e:cB P w K mg base "sight_behind" kk Qx28 [] R f_x28):bO P w K mg base CX0 (kk+1) f fd Qx27 (spV K [] 3 (bD 6 [] (YU R))):=
 XB P w K mg base Nx27 Qx27 (kk+0) (YU R) [] F ME λ_ _ _ _ _ _ b c a=>by
  refine(c0 ?_ (c0 ?_ (c0 ?_ (cY ?_))))
  ·exact (bW (RE (T0 (XV c (vv 2) (bK (by rfl) T.v_MOST_DEEP)) (WS (YX (ZU (bT (hk := by lia) d b (cX (cW (aT a (vv 0) c5)) (cX (vv 1) cU))))))))
   (cY (cR bF))
   cK)
  ·exact(bV ME.nd (a6 (cW (bG (ZT (K:=K) rfl) aY (vv 1) (bP (aZ (cE (c7 YA cT))))))))
  ·exact(XC Cj rfl (YS rfl (cW (Q7 rfl (vv 0) (Q9 c5) Q8))) (cJ ME.nd)
   (c0 (bV ME.nd (a6 (cW (bT (hk:=by lia) e b (cX (vv 4) (cX (vv 3) (cX (cW (bG (ZT (K:=K) rfl) aY (vv 2) c5)) cU)))))))
   (c0 (bW (bY T8 P9 (vv 5) bF (bQ _))
   (cY (cR bF))
   cK)
   (cY (bV ME.nd (a6 (cW (bG (ZT (K:=K) rfl) aY (vv 3) (bG (kRep (K:=K) rfl) kW (bP (aZ (cE (c7 YA cT)))) (Y1 U5 Q6 (YV T.n_len (vv 5)) (YV T.n_len (vv 3))))))))))))
  ·exact(cR (vv 3))
theorem rG{R:b8}{kk:Nat}(i:4<=kk)(F:YH K "sight_behind" "sight_behind" (top 53) f fd)(T:Txt K mg)(e:cB P w K mg base "makes_word" 1 Qx11 [] Y3 f_x11)(g:cB P w K mg base "is_row" 4 Qx17 [] WU f_x17)(b:cB P w K mg base "is_if" 1 Qx26 [] RG f_x26)(c:cB P w K mg base "sight_behind_if" (kk+1) Qx27 [] (ZJ R) f_x27):bO P w K mg base CX0 (kk+2) f fd Qx28 (spV K [] 3 (bD 5 [] (ZS R))):=
 XB P w K mg base Nx28 Qx28 (kk+1) (ZS R) [] F MF λ_ _ _ _ _ _ a h d=>by
  refine(c0 ?_ (c0 ?_ (c0 ?_ (cY ?_))))
  ·exact(bW (YX (ZU (MO T.n_isinstance (vv 0) (vty T.n_tuple ZK))))
   (cY (cR bF))
   cK)
  ·exact(bV MF.nd (a6 (vv 1)))
  ·exact(XC Cj rfl (YS rfl (vv 0)) (cJ MF.nd)
   (c0 (bW (ZU (bT (hk:=by lia) b a (cX (vv 4) cU)))
   (cY (bV MF.nd (a6 (cW (bT (hk:=by lia) c a (cX (vv 4) (cX (vv 3) (cX (vv 2) cU))))))))
   (cY (bW (ZU (bT (hk:=by lia) g a (cX (vv 4) (cX (vv 3) cU))))
   (cY (bV MF.nd (a6 (cW (bG (ZT (K:=K) rfl) aY (vv 3) (bP (aZ (cE (c7 (bT (hk:=by lia) e a (cX (vv 4) cU)) cT)))))))))
   (cY (cR bF)))))
   (cY (bW (RE (T0 (bY T8 P9 (vv 3) bF (bQ _)) (WS (bY BK s_gt (YV T.n_len (vv 3)) (bK (by rfl) T.v_MOST_TREE_ROWS) (bQ _)))))
   (cY (cR bF))
   cK))))
  ·exact(cR (vv 3))
abbrev Nx29:List Rg:=["thing"]
abbrev CV:List Rg:=["thing"]
theorem iK:cM Nx29 CV (cV (top 54)):=aJ
theorem lF(F:YH K "is_tree" "is_tree" (top 54) f fd)(T:Txt K mg)(e:cB P w K mg base "is_whole" 1 Qx0 [] a9 f_x0)(d:cB P w K mg base "sight_behind" 12 Qx28 [] (bJ 4) f_x28):bO P w K mg base CX0 13 f fd CV (spV K [] 1 YZ):=
 XB P w K mg base Nx29 CV 12 OJ [] F iK λ_ _ _ _ _ _ b c a=>by
  refine(c0 ?_ (cY ?_))
  ·exact(bW (RE (T0 (YX (ZU (MO T.n_isinstance (vv 0) (vty T.n_tuple ZK)))) (WS (bY (SO (K:=K) rfl c) SX (YV T.n_len (vv 0)) c5 (bQ _)))))
   (cY (cR YA))
   cK)
  ·exact(cR (V5 (bT e b (cX (cW (aT a (vv 0) c5)) (cX c5 (cX (cW (bK (by rfl) T.v_MOST_SURE)) cU)))) (UF (X6 M5 ID (bT d b (cX (cW (aT a (vv 0) c5)) (cX (bP (aZ (cE cT))) (cX c5 cU)))) bF (bQ _)))))
noncomputable abbrev Nx30:List Rg:=["rows","path","found","row"]
noncomputable abbrev Qx30:List Rg:=["rows","path"]
theorem ED:cM Nx30 Qx30 (cV (top 55)):=aJ
theorem qY{R:b8}{kk:Nat}(e:0<=kk)(F:YH K "listed" "listed" (top 55) f fd)(T:Txt K mg)(c:cB P w K mg base "listed" kk Qx30 [] R f_x30):bO P w K mg base CX0 (kk+1) f fd Qx30 (spV K [] 2 (bD 4 [] (VT R))):=
 XB P w K mg base Nx30 Qx30 (kk+0) (VT R) [] F ED λ_ _ _ _ _ _ b d a=>by
  refine(c0 ?_ (c0 ?_ (cY ?_)))
  ·exact(bV ED.nd (WL (aZ (cE cT))))
  ·exact(XC Cj rfl (YS rfl (vv 0)) (cJ ED.nd)
   (c0 (YW (K:=K) rfl Be Bf aM X4 (pv 2) (cE (c7 (cG (c7 (vv 3) (c7 (vv 1) cT))) cT)))
   (cY (bW (XV d (aT a (vv 3) c5) cP)
   (c0 (YW (K:=K) rfl Ke Kf (Tz (K:=K) rfl) To (pv 2) (cE (c7 (bT (hk:=by lia) c b (cX (cW (aT a (vv 3) c5)) (cX (cW (bG (ZT (K:=K) rfl) aY (vv 1) (cG (c7 (cG (c7 (aT a (vv 3) c5) (c7 YA cT))) cT)))) cU))) cT)))
   (cY (YW (K:=K) rfl Ke Kf (Tz (K:=K) rfl) To (pv 2) (cE (c7 (bT (hk:=by lia) c b (cX (cW (aT a (vv 3) c5)) (cX (cW (bG (ZT (K:=K) rfl) aY (vv 1) (cG (c7 (cG (c7 (aT a (vv 3) c5) (c7 YA cT))) cT)))) cU))) cT)))))
   cK))))
  ·exact(CO (pv 2))
noncomputable abbrev Nx31:List Rg:=["rows","cells","words","at","row","path","word","why"]
abbrev Qx31:List Rg:=["rows","cells"]
theorem UD:cM Nx31 Qx31 (cV (top 56)):=aJ
theorem mY(F:YH K "do_tree" "do_tree" (top 56) f fd)(T:Txt K mg)(i:cB P w K mg base "names_of" 2 CU [] ZH f_x13)(j:cB P w K mg base "do_row" 3 K2 [2] ZQ f_x22)(g:cB P w K mg base "listed" 4 Qx30 [] (XG 4) f_x30)(h:DefD P w K mg base "do_row" 3 K2 (spV K [2] 4 ZQ) f_x22 (.int 0)):bO P w K mg base CX0 5 f fd Qx31 (spV K [1] 2 V7):=
 XB P w K mg base Nx31 Qx31 4 OI [1] F UD λ_ _ _ _ _ _ e c a=>by
  refine(c0 ?_ (c0 ?_ (cY ?_)))
  ·exact(bV UD.nd (WL (aZ (cE cT))))
  ·exact (XC Cj rfl (QD rfl (by rfl) T.n_enumerate (cW (bT g e (cX (vv 0) (cX (cW (cG cT)) cU))))) (Y8 (K := K) rfl rfl (b7 (cJ UD.nd) (b7 (Y8 (K := K) rfl rfl (b7 (cJ UD.nd) (b7 (cJ UD.nd) Z1))) Z1)))
   (c0 (UG (cW (cG (c7 bF (c7 bF cT)))) (Y8 (K:=K) rfl rfl (b7 (cJ UD.nd) (b7 (cJ UD.nd) Z1))))
   (c0 (bW (RE (IN (bY (SO (K:=K) rfl c) SX (aT a (vv 4) c5) cP (bQ _)) (M9 (ZU (GS (kAll (K:=K) rfl rfl) Sg (by rfl) T.n_all C1 (bP (aA ["words","c","side"] [2] 2 (YS rfl (vv 5)) (λb _ _ _ _=>⟨(Y8 (K:=K) rfl rfl (b7 (cJ b) (b7 (cJ b) Z1))),X5,(cW (veq c (X6 (SO (K:=K) rfl c) SX (aT a (vo 0) (vv 1)) c5 (bQ _)) (vv 2)))⟩))))))))
   (cY (UG (cW (GU (K:=K) (v:=(.int 0)) (d:=(.int 0)) rfl h (λ_ _ _=>(.int _)) (λ_=>nofun) e (by decide) (by rfl) (cX (vv 4) (cX (bP (aA ["words","name"] [2] 1 (YS rfl (cW (bT i e (cX (vv 4) cU)))) (λb _ _ _ _=>⟨(cJ b),X5,(cW (aT a (vo 0) (vv 1)))⟩))) (bH (pv 1) cU))))) (Y8 (K:=K) rfl rfl (b7 (cJ UD.nd) (b7 (cJ UD.nd) Z1)))))
   cK)
   (c0 (bW (bY M5 ID (vv 7) bF (bQ _))
   (cY (cR (cG (c7 (vv 3) (c7 (vv 7) cT)))))
   cK)
   (cY (YW (K:=K) rfl Be Bf aM X4 (pv 2) (cE (c7 (vv 6) cT))))))))
  ·exact(cR bF)
noncomputable abbrev Nx32:List Rg:=["tree","cells","then","fault"]
abbrev Qx32:List Rg:=["tree","cells"]
theorem EE:cM Nx32 Qx32 (cV (top 57)):=aJ
theorem oM(F:YH K "run_tree" "run_tree" (top 57) f fd)(T:Txt K mg)(d:cB P w K mg base "is_cells" 2 Qx19 [] YN f_x19)(e:cB P w K mg base "is_tree" 13 CV [] YZ f_x29)(c:cB P w K mg base "do_tree" 5 Qx31 [1] V7 f_x31):bO P w K mg base CX0 14 f fd Qx32 (spV K [] 2 W8):=
 XB P w K mg base Nx32 Qx32 13 QT [] F EE λ_ _ _ _ _ _ b g a=>by
  refine(c0 ?_ (c0 ?_ (c0 ?_ (c0 ?_ (cY ?_)))))
  ·exact(bW (YX (ZU (bT e b (cX (vv 0) cU))))
   (cY UU)
   cK)
  ·exact(bW (YX (ZU (bT d b (cX (vv 1) (cX (cW (aT a (vv 0) c5)) cU)))))
   (cY UU)
   cK)
  ·exact(bV EE.nd (WL (CK (HR (K:=K) rfl) VV (by rfl) T.VV RN (vv 1))))
  ·exact(bV EE.nd (a6 (cW (bT c b (cX (cW (aT a (vv 0) c5)) (bH (pv 2) cU))))))
  ·exact(cR (cG (QB (pv 2) (c7 (vv 3) cT))))
noncomputable abbrev Nx51:List Rg:=["self","row"]
abbrev G4:List Rg:=["self","row"]
theorem Yj:cM Nx51 G4 (cV (mem 58 1)):=aJ
theorem fJ(F:YH K "lay" "Flat.lay" (mem 58 1) f fd)(T:Txt K mg):bO P w K mg base CX0 1 f fd G4 (spV K [0] 2 aX):=
 XB P w K mg base Nx51 G4 0 QK [0] F Yj λ_ _ _ _ _ _ c b a=>by
  refine(c0 ?_ (cY ?_))
  ·exact(mU T.c_Flat (pv 0) (cE (c7 (vv 1) cT)))
  ·exact(cR (Y1 U5 Q6 (YV T.n_len (So T.c_Flat (pv 0))) c5))
noncomputable abbrev Nx52:List Rg:=["self","mask","c"]
abbrev Qx52:List Rg:=["self","mask","c"]
theorem hJ:cM Nx52 Qx52 (cV (mem 58 2)):=aJ
theorem qU(F:YH K "both" "Flat.both" (mem 58 2) f fd)(T:Txt K mg)(c:TD P w K mg base "Flat" "lay" 1 G4 [0] 2 aX f_x51):bO P w K mg base CX0 2 f fd Qx52 (spV K [0] 3 ZI):=
 XB P w K mg base Nx52 Qx52 1 SE [0] F hJ λ_ _ _ _ _ _ b d a=>by exact(cY (cR (VJ (f:= "laid") (g:= "numbers") c b (pv 0) (cX (cW (cG (c7 cP (c7 (vv 1) (c7 (vv 2) (c7 (bK (by rfl) T.v_ZERO) cT)))))) cU))))
noncomputable abbrev Nx54:List Rg:=["self","row","mask","c"]
noncomputable abbrev Qx54:List Rg:=["self","row","mask"]
theorem zC8:cM Nx54 Qx54 (cV (mem 58 4)):=aJ
noncomputable abbrev Nx53:List Rg:=["self","rows","mask","row","moved"]
noncomputable abbrev Qx53:List Rg:=["self","rows","mask"]
theorem EI:cM Nx53 Qx53 (cV (mem 58 3)):=aJ
theorem fX{R:b8}{kk:Nat}(i:3<=kk)(F:YH K "lay_if" "Flat.lay_if" (mem 58 4) f fd)(T:Txt K mg)(e:TD P w K mg base "Flat" "lay" 1 G4 [0] 2 aX f_x51)(d:TD P w K mg base "Flat" "both" 2 Qx52 [0] 3 ZI f_x52)(c:TD P w K mg base "Flat" "lay_rows" kk Qx53 [0] 3 R f_x53):bO P w K mg base CX0 (kk+1) f fd Qx54 (spV K [0] 3 (bD 4 [0] (W0 R))):=
 XB P w K mg base Nx54 Qx54 (kk+0) (W0 R) [0] F zC8 λ_ _ _ _ _ _ b h a=>by
  refine(c0 ?_ (c0 ?_ (c0 ?_ (cY ?_))))
  ·exact(bV zC8.nd (a6 (cW (aT a (Tg T.c_Flat (pv 0)) (aT a (vv 1) c5)))))
  ·exact(Ur T.c_Flat (pv 0) (cE (c7 bF cT)))
  ·exact(UH (VJ (f:= "laid") (g:= "numbers") (hk:=by lia) c b (pv 0) (cX (cW (aT a (vv 1) c5)) (cX (cW (VJ (f:= "laid") (g:= "numbers") (hk:=by lia) d b (pv 0) (cX (vv 2) (cX (vv 3) cU)))) cU))))
  ·exact(UH (VJ (f:= "laid") (g:= "numbers") (hk:=by lia) c b (pv 0) (cX (cW (aT a (vv 1) c5)) (cX (cW (VJ (f:= "laid") (g:= "numbers") (hk:=by lia) e b (pv 0) (cX (cW (cG (c7 cP (c7 (vv 3) (c7 (bK (by rfl) T.v_ZERO) (c7 (vv 2) cT)))))) cU))) cU))))
noncomputable abbrev Nx55:List Rg:=["self","row","mask","deed"]
abbrev Qx55:List Rg:=["self","row","mask"]
theorem zC7:cM Nx55 Qx55 (cV (mem 58 5)):=aJ
theorem pM(F:YH K "masked" "Flat.masked" (mem 58 5) f fd)(T:Txt K mg)(e:TD P w K mg base "Flat" "lay" 1 G4 [0] 2 aX f_x51)(d:TD P w K mg base "Flat" "both" 2 Qx52 [0] 3 ZI f_x52):bO P w K mg base CX0 3 f fd Qx55 (spV K [0] 3 YY):=
 XB P w K mg base Nx55 Qx55 2 U0 [0] F zC7 λ_ _ _ _ _ _ c b a=>by
  refine(c0 ?_ (c0 ?_ (c0 ?_ (c0 ?_ (c0 ?_ (c0 ?_ (cY ?_)))))))
  ·exact(bV zC7.nd (a6 (cW (aT a (vv 1) c5))))
  ·exact(bW (XV b (vv 3) cP)
   (cY (cR (cG (c7 cP (c7 (aT a (vv 1) c5) (c7 (vv 2) (c7 (vv 2) cT)))))))
   cK)
  ·exact(bW (XV b (vv 3) cP)
   (cY (cR (cG (c7 cP (c7 (aT a (vv 1) c5) (c7 (VJ (f:= "laid") (g:= "numbers") d c (pv 0) (cX (vv 2) (cX (cW (aT a (vv 1) c5)) cU))) (c7 (aT a (vv 1) c5) cT)))))))
   cK)
  ·exact(bW (XV b (vv 3) cP)
   (cY (cR (cG (c7 cP (c7 (aT a (vv 1) c5) (c7 (aT a (vv 1) c5) (c7 (vv 2) cT)))))))
   cK)
  ·exact(bW (XV b (vv 3) cP)
   (cY (cR (cG (c7 cP (c7 (aT a (vv 1) c5) (c7 (aT a (vv 1) c5) (c7 (VJ (f:= "laid") (g:= "numbers") d c (pv 0) (cX (vv 2) (cX (cW (aT a (vv 1) c5)) cU))) cT)))))))
   cK)
  ·exact(bW (XV b (vv 3) cP)
   (cY (cR (cG (c7 cP (c7 (aT a (vv 1) c5) (c7 (VJ (f:= "laid") (g:= "numbers") e c (pv 0) (cX (cW (cG (c7 cP (c7 (vv 2) (c7 (aT a (vv 1) c5) (c7 (bK (by rfl) T.v_ONE) cT)))))) cU)) cT))))))
   cK)
  ·exact(cR (vv 1))
theorem Wn{R:b8}{kk:Nat}(l:3<=kk)(F:YH K "lay_rows" "Flat.lay_rows" (mem 58 3) f fd)(T:Txt K mg)(j:cB P w K mg base "names_of" 2 CU [] ZH f_x13)(c:cB P w K mg base "with_names" 1 Qx14 [] XH f_x14)(k:TD P w K mg base "Flat" "lay" 1 G4 [0] 2 aX f_x51)(h:TD P w K mg base "Flat" "lay_if" (kk+1) Qx54 [0] 3 (X7 R) f_x54)(i:TD P w K mg base "Flat" "masked" 3 Qx55 [0] 3 YY f_x55):bO P w K mg base CX0 (kk+2) f fd Qx53 (spV K [0] 3 (bD 5 [0] (Z3 R))):=
 XB P w K mg base Nx53 Qx53 (kk+1) (Z3 R) [0] F EI λ_ _ _ _ _ _ b d a=>by
  exact(cY (XC Cj rfl (YS rfl (vv 1)) (cJ EI.nd)
   (cY (bW (XV d (aT a (vv 3) c5) cP)
   (cY (UH (VJ (f:= "laid") (g:= "numbers") (hk:=by lia) h b (pv 0) (cX (vv 3) (cX (cW (WY (bY T8 P9 (vv 2) bF (bQ _)) (bK (by rfl) T.v_ONE) (vv 2))) cU)))))
   (c0 (bV EI.nd (a6 (cW (bT (hk:=by lia) c b (cX (vv 3) (cX (bP (aA ["self","name"] [0] 1 (YS rfl (cW (bT (hk:=by lia) j b (cX (vv 3) cU)))) (λe _ _ _ _=>⟨(cJ e),X5,(cW (aT a (Tg T.c_Flat (pv 0)) (vv 1)))⟩))) cU))))))
   (cY (Ur T.c_Flat (pv 0) (cE (c7 (VJ (f:= "laid") (g:= "numbers") (hk:=by lia) k b (pv 0) (cX (cW (WY (bY T8 P9 (vv 2) bF (bQ _)) (vv 4) (VJ (f:= "laid") (g:= "numbers") (hk:=by lia) i b (pv 0) (cX (vv 4) (cX (vv 2) cU))))) cU)) cT)))))))))
noncomputable abbrev Nx33:List Rg:=["tree","sure","rows","flat"]
abbrev Qx33:List Rg:=["tree"]
theorem IG:cM Nx33 Qx33 (cV (top 59)):=aJ
theorem dU(F:YH K "flattened" "flattened" (top 59) f fd)(T:Txt K mg)(j:cB P w K mg base "is_tree" 13 CV [] YZ f_x29)(c:TD P w K mg base "Flat" "lay" 1 G4 [0] 2 aX f_x51)(i:TD P w K mg base "Flat" "lay_rows" 11 Qx53 [0] 3 (bI 4) f_x53)(h:NewF P w K mg base "Flat" "laid" "numbers"):bO P w K mg base CX0 14 f fd Qx33 (spV K [] 1 XX):=
 XB P w K mg base Nx33 Qx33 13 SH [] F IG λ_ _ _ _ _ _ a d b=>by
  refine(c0 ?_ (c0 ?_ (c0 ?_ (c0 ?_ (c0 ?_ (c0 ?_ (cY ?_)))))))
  ·exact(bW (YX (ZU (bT j a (cX (vv 0) cU))))
   (cY UU)
   cK)
  ·exact(UG (vv 0) (Y8 (K:=K) rfl rfl (b7 (cJ IG.nd) (b7 (cJ IG.nd) Z1))))
  ·exact(bV IG.nd (WL (iE h T.c_Flat a)))
  ·exact (bW (ZU (GS (kAny (K := K) rfl rfl) Xd (by rfl) T.n_any Za (bP (aA ["row"] [] 1 (YS rfl (vv 2)) (λe _ _ _ _ => ⟨(cJ e),X5,(cW (veq d (aT b (vv 0) c5) cP))⟩)))))
   (c0 (UH (VJ (f:= "laid") (g:= "numbers") c a (pv 3) (cX (cW (cG (c7 cP (c7 c5 cT)))) cU)))
   (cY (UH (VJ (f:= "laid") (g:= "numbers") c a (pv 3) (cX (cW (cG (c7 cP (c7 c5 cT)))) cU)))))
   cK)
  ·exact(UH (VJ (f:= "laid") (g:= "numbers") i a (pv 3) (cX (vv 2) (cX bF cU))))
  ·exact (bW (bY BK s_gt (YV T.n_len (So T.c_Flat (pv 3))) (bK (by rfl) T.v_MOST_ROWS) (bQ _))
   (cY UU)
   cK)
  ·exact(cR (cG (c7 (cG (c7 (vv 1) (c7 (NY (VD (K:=K) rfl) U9 (by rfl) T.n_tuple ZK (So T.c_Flat (pv 3))) cT))) (vaP2 T.c_Flat (pv 3) cT))))
noncomputable abbrev Nx34:List Rg:=["_law_script","_law_k","_law_rest","_law_again"]
noncomputable abbrev Qx34:List Rg:=["_law_script","_law_k"]
theorem IH:cM Nx34 Qx34 (cV (top 61)):=aJ
theorem eG(F:YH K "_law_cell_at" "_law_cell_at" (top 61) f fd)(T:Txt K mg):bO P w K mg base CX0 1 f fd Qx34 (spV K [] 2 ZX):=
 XB P w K mg base Nx34 Qx34 0 U1 [] F IH λ_ _ _ _ _ _ c b a=>by
  refine(c0 ?_ (c0 ?_ (c0 ?_ (c0 ?_ (cY ?_)))))
  ·exact(bW (bY F5 s_lt (vv 1) (YV T.n_len (vv 0)) (bQ _))
   (cY (cR (aT a (vv 0) (vv 1))))
   cK)
  ·exact(bW (XV b (vv 0) (bP (aZ (cE cT))))
   (cY (cR c5))
   cK)
  ·exact(bV IH.nd (a6 (cW (aT a (vv 0) (Y1 VY SW (vv 1) (YV T.n_len (vv 0)))))))
  ·exact (XC Cj rfl (WA (by rfl) T.n_range (MN (OD rfl) Se (by rfl) T.n_min C3 (Y1 HY EB (vv 1) (YV T.n_len (vv 0))) c5)) (cJ IH.nd)
   (cY (bV IH.nd (a6 (cW (Y1 HY EB (vv 2) c5))))))
  ·exact(cR (bG (ZT (K:=K) rfl) aY (bG (ZT (K:=K) rfl) aY (bG (LP (K:=K) rfl) PP (aT a (vv 0) (Y1 VY SW (vv 1) (YV T.n_len (vv 0)))) c5) (vv 1)) (bG (LP (K:=K) rfl) PP (vv 2) c5)))
noncomputable abbrev Nx35:List Rg:=["_law_script","_law_k","_law_bound","_law_drawn"]
noncomputable abbrev Qx35:List Rg:=["_law_script","_law_k","_law_bound"]
theorem zCC:cM Nx35 Qx35 (cV (top 62)):=aJ
theorem jM(F:YH K "_law_mixed" "_law_mixed" (top 62) f fd)(T:Txt K mg)(a:cB P w K mg base "_law_cell_at" 1 Qx34 [] ZX f_x34):bO P w K mg base CX0 2 f fd Qx35 (spV K [] 3 XZ):=
 XB P w K mg base Nx35 Qx35 1 SJ [] F zCC λ_ _ _ _ _ _ c d b=>by
  refine(c0 ?_ (cY ?_))
  ·exact(bV zCC.nd (a6 (cW (Y1 VY SW (bG (ZT (K:=K) rfl) aY (bG (ZT (K:=K) rfl) aY (bG (LP (K:=K) rfl) PP (bT a c (cX (vv 0) (cX (vv 1) cU))) c5) (bG (LP (K:=K) rfl) PP c5 (vv 1))) c5) c5))))
  ·exact(cR (Y1 VY SW (Y1 VY SW (Y1 VY SW (Y1 Ys dD (vv 3) c5) c5) c5) (vv 2)))
noncomputable abbrev Nx36:List Rg:=["_law_script","_law_town","_law_bound"]
abbrev G3:List Rg:=["_law_script","_law_town","_law_bound"]
theorem Yn:cM Nx36 G3 (cV (top 63)):=aJ
theorem iJ(F:YH K "_law_draw" "_law_draw" (top 63) f fd)(T:Txt K mg)(a:cB P w K mg base "_law_mixed" 2 Qx35 [] XZ f_x35):bO P w K mg base CX0 3 f fd G3 (spV K [1] 3 bX):=
 XB P w K mg base Nx36 G3 2 QO [1] F Yn λ_ _ _ _ _ _ c d b=>by
  refine(c0 ?_ (cY ?_))
  ·exact(YW (K:=K) rfl Be Bf aM X4 (pv 1) (cE (c7 c5 cT)))
  ·exact(cR (bT a c (cX (vv 0) (cX (cW (YV T.n_len (vo 1))) (cX (vv 2) cU)))))
noncomputable abbrev Nx37:List Rg:=["_law_script","_law_town","_law_some"]
abbrev NB:List Rg:=["_law_script","_law_town","_law_some"]
theorem kS:cM Nx37 NB (cV (top 64)):=aJ
theorem eC(F:YH K "_law_pick" "_law_pick" (top 64) f fd)(T:Txt K mg)(c:cB P w K mg base "_law_draw" 3 G3 [1] bX f_x36):bO P w K mg base CX0 4 f fd NB (spV K [1] 3 bU):=
 XB P w K mg base Nx37 NB 3 QQ [1] F kS λ_ _ _ _ _ _ b d a=>by exact(cY (cR (aT a (vv 2) (bT c b (cX (vv 0) (bH (pv 1) (cX (cW (YV T.n_len (vv 2))) cU)))))))
noncomputable abbrev Nx38:List Rg:=["_law_script","_law_town","_law_seen","_law_deed","_law_room"]
abbrev Qx38:List Rg:=["_law_script","_law_town","_law_seen","_law_deed","_law_room"]
theorem Zt:cM Nx38 Qx38 (cV (top 65)):=aJ
theorem oW(F:YH K "_law_place" "_law_place" (top 65) f fd)(T:Txt K mg)(c:cB P w K mg base "_law_draw" 3 G3 [1] bX f_x36)(d:cB P w K mg base "_law_pick" 4 NB [1] bU f_x37):bO P w K mg base CX0 5 f fd Qx38 (spV K [1,2] 5 Z9):=
 XB P w K mg base Nx38 Qx38 4 SK [1,2] F Zt λ_ _ _ _ _ _ b e a=>by
  refine(c0 ?_ (cY ?_))
  ·exact(CM a (pv 2) (vv 3) (cW (Y1 VY SW (bG (ZT (K:=K) rfl) aY (qN a (pv 2) (vv 3) (cW (bT c b (cX (vv 0) (bH (pv 1) (cX (vv 4) cU))))) ⟨rfl,rfl,rfl,rfl⟩) (bT d b (cX (vv 0) (bH (pv 1) (cX (bP (aZ (cE (c7 c5 (c7 c5 (c7 c5 (c7 c5 (c7 c5 cT)))))))) cU))))) (vv 4))) rfl)
  ·exact(cR (aT a (vo 2) (vv 3)))
noncomputable abbrev Nx39:List Rg:=["_law_script","_law_town","_law_made","_law_seen","_law_room","_law_kind","_law_a","_law_b","_law_c"]
noncomputable abbrev Qx39:List Rg:=["_law_script","_law_town","_law_made","_law_seen","_law_room"]
theorem MG:cM Nx39 Qx39 (cV (top 66)):=aJ
theorem jY(F:YH K "_law_row" "_law_row" (top 66) f fd)(T:Txt K mg)(e:cB P w K mg base "_law_draw" 3 G3 [1] bX f_x36)(h:cB P w K mg base "_law_pick" 4 NB [1] bU f_x37)(d:cB P w K mg base "_law_place" 5 Qx38 [1,2] Z9 f_x38):bO P w K mg base CX0 6 f fd Qx39 (spV K [1,3] 5 V8):=
 XB P w K mg base Nx39 Qx39 5 OL [1,3] F MG λ_ _ _ _ _ _ a b c=>by
  refine(c0 ?_ (c0 ?_ (c0 ?_ (c0 ?_ (c0 ?_ (c0 ?_ (c0 ?_ (c0 ?_ (cY ?_)))))))))
  ·exact(bV MG.nd (a6 (cW (bT e a (cX (vv 0) (bH (pv 1) (cX c5 cU)))))))
  ·exact(bW (RE (T0 (XV b (vv 2) (bP (aZ (cE cT)))) (WS (XV b (vv 5) c5))))
   (c0 (bW (XV b (bT e a (cX (vv 0) (bH (pv 1) (cX c5 cU)))) c5)
   (cY (cR (cG (c7 cP (c7 (bT h a (cX (vv 0) (bH (pv 1) (cX (bP (aZ (cE (c7 c5 (c7 c5 (c7 c5 (c7 c5 (c7 c5 (c7 (bT e a (cX (vv 0) (bH (pv 1) (cX c5 cU)))) cT))))))))) cU)))) cT)))))
   cK)
   (cY (cR (cG (c7 cP (c7 (bT d a (cX (vv 0) (bH (pv 1) (bH (pv 3) (cX cP (cX (vv 4) cU)))))) cT))))))
   cK)
  ·exact(UG (bP (aA ["_law_script","_law_town","_law_made","_law_k"] [0,1,2] 1 (WA (by rfl) T.n_range c5) (λg _ _ _ _=>⟨(cJ g),X5,(cW (aT c (vv 2) (MN (OC rfl) Sc (by rfl) T.n_max C2 c5 (Y1 U5 Q6 (Y1 U5 Q6 (YV T.n_len (vv 2)) c5) (bT e a (cX (vv 0) (bH (pv 1) (cX c5 cU))))))))⟩))) (Y8 (K:=K) rfl rfl (b7 (cJ MG.nd) (b7 (cJ MG.nd) (b7 (cJ MG.nd) Z1)))))
  ·exact (bW (bY (TL (K := K) rfl b) (YE (neg := false)) (vv 5) (cG (c7 c5 (c7 c5 cT))) (by with_unfolding_all rfl))
   (cY (cR (cG (c7 cP (c7 (bT d a (cX (vv 0) (bH (pv 1) (bH (pv 3) (cX cP (cX (vv 4) cU)))))) cT)))))
   cK)
  ·exact(bW (XV b (vv 5) c5)
   (cY (cR (cG (c7 cP (c7 (bT d a (cX (vv 0) (bH (pv 1) (bH (pv 3) (cX cP (cX (vv 4) cU)))))) (c7 (vv 8) (c7 (vv 6) cT)))))))
   cK)
  ·exact (bW (bY (TL (K := K) rfl b) (YE (neg := false)) (vv 5) (cG (c7 c5 (c7 c5 cT))) (by with_unfolding_all rfl))
   (cY (cR (cG (c7 cP (c7 (bT d a (cX (vv 0) (bH (pv 1) (bH (pv 3) (cX cP (cX (vv 4) cU)))))) (c7 (vv 6) cT))))))
   cK)
  ·exact(bW (XV b (vv 5) c5)
   (cY (cR (cG (c7 cP (c7 (bT d a (cX (vv 0) (bH (pv 1) (bH (pv 3) (cX cP (cX (vv 4) cU)))))) (c7 (vv 6) (c7 (vv 8) cT)))))))
   cK)
  ·exact(bW (XV b (vv 5) c5)
   (cY (cR (cG (c7 cP (c7 (vv 8) (c7 (vv 6) (c7 (vv 7) cT)))))))
   cK)
  ·exact(cR (cG (c7 (aT c (bP (aZ (cE (c7 cP (c7 cP (c7 cP (c7 cP (c7 cP (c7 cP (c7 cP cT)))))))))) (bT e a (cX (vv 0) (bH (pv 1) (cX c5 cU))))) (c7 (vv 6) (c7 (vv 7) cT)))))
noncomputable abbrev Nx41:List Rg:=["_law_script","_law_town","_law_rows_here","_law_made","_law_seen","_law_room","_law_last","_law_first","_law_names_here","_law_name","_law_at"]
noncomputable abbrev Qx41:List Rg:=["_law_script","_law_town","_law_rows_here","_law_made","_law_seen","_law_room"]
theorem O0:cM Nx41 Qx41 (cV (top 68)):=aJ
theorem Wq(F:YH K "_law_next" "_law_next" (top 68) f fd)(T:Txt K mg)(d:cB P w K mg base "_law_pick" 4 NB [1] bU f_x37):bO P w K mg base CX0 5 f fd Qx41 (spV K [1,4] 6 Y2):=
 XB P w K mg base Nx41 Qx41 4 T6 [1,4] F O0 λ_ _ _ _ _ _ c b a=>by
  refine(c0 ?_ (c0 ?_ (c0 ?_ (c0 ?_ (c0 ?_ (c0 ?_ (cY ?_)))))))
  ·exact(bV O0.nd (a6 (cW (aT a (vv 2) (PB c5)))))
  ·exact(bV O0.nd (a6 (cW (WY (bY (TL (K:=K) rfl b) (YE (neg:=false)) (aT a (vv 6) c5) (cG (c7 cP (c7 cP (c7 cP (c7 cP cT))))) (by with_unfolding_all rfl)) c5 c5))))
  ·exact(bV O0.nd (WL (aZ (cE cT))))
  ·exact(XC Cj rfl (YS rfl (cW (Q7 rfl (vv 6) (Q9 (vv 7)) Q8))) (cJ O0.nd)
   (c0 (bV O0.nd (a6 (cW (bG (ZT (K:=K) rfl) aY (Yo rfl (vv 3) (vv 9)) (bT d c (cX (vv 0) (bH (pv 1) (cX (bP (aZ (cE (c7 c5 (c7 c5 (c7 c5 (c7 c5 (c7 (PB c5) (c7 c5 (c7 c5 cT)))))))))) cU))))))))
   (cY (YW (K:=K) rfl Be Bf aM X4 (pv 8) (cE (c7 (WY (RE (IN (GW F4 F5 s_le s_lt c5 (vv 10) (YV T.n_len (vv 3))) (M9 (bY (SO (K:=K) rfl b) SX (aT a (vv 3) (vv 10)) (Y1 U5 Q6 (YV T.n_len (vv 2)) c5) (bQ _))))) (aT a (vv 3) (vv 10)) (vv 9)) cT))))))
  ·exact(bW (XV b (vv 7) c5)
   (cY (cR (bG (ZT (K:=K) rfl) aY (Q7 rfl (vv 6) Q8 (Q9 c5)) (NY (VD (K:=K) rfl) U9 (by rfl) T.n_tuple ZK (vo 8)))))
   cK)
  ·exact(CM a (pv 4) (aT a (vv 6) c5) (cW (Y1 VY SW (bG (ZT (K:=K) rfl) aY (aT a (vv 6) c5) c5) (vv 5))) rfl)
  ·exact(cR (bG (ZT (K:=K) rfl) aY (cG (c7 (aT a (vv 6) c5) (c7 (aT a (vo 4) (aT a (vv 6) c5)) cT))) (NY (VD (K:=K) rfl) U9 (by rfl) T.n_tuple ZK (vo 8))))
noncomputable abbrev Nx40:List Rg:=["_law_script","_law_town","_law_many","_law_room","_law_rows_here","_law_made","_law_seen","_law_again"]
noncomputable abbrev Qx40:List Rg:=["_law_script","_law_town","_law_many","_law_room"]
theorem EF:cM Nx40 Qx40 (cV (top 67)):=aJ
theorem oX(F:YH K "_law_rows" "_law_rows" (top 67) f fd)(T:Txt K mg)(g:cB P w K mg base "_law_pick" 4 NB [1] bU f_x37)(d:cB P w K mg base "_law_row" 6 Qx39 [1,3] V8 f_x39)(e:cB P w K mg base "_law_next" 5 Qx41 [1,4] Y2 f_x41):bO P w K mg base CX0 7 f fd Qx40 (spV K [1] 4 W7):=
 XB P w K mg base Nx40 Qx40 6 QR [1] F EF λ_ _ _ _ _ _ c b a=>by
  refine(c0 ?_ (c0 ?_ (cY ?_)))
  ·exact(fE (i:=4) (j:=5) (k:=6) rfl EF.nd rfl rfl rfl (by decide) (by decide) (by decide) rfl rfl rfl (WL (aZ (cE cT))) (WL (aZ (cE cT))) (WL jQ) rfl)
  ·exact(GV Cj (bY F5 s_lt (YV T.n_len (vo 4)) (vv 2) (bQ _))
   (c0 (YW (K:=K) rfl Be Bf aM X4 (pv 4) (cE (c7 (bT d c (cX (vv 0) (bH (pv 1) (bH (pv 5) (bH (pv 6) (cX (vv 3) cU)))))) cT)))
   (c0 (bW (bY (MZ (K:=K) rfl b) (YE (neg:=true)) (aT a (aT a (vo 4) (PB c5)) c5) (cG (c7 cP (c7 cP cT))) (by with_unfolding_all rfl))
   (cY (YW (K:=K) rfl Be Bf aM X4 (pv 5) (cE (c7 (Y1 U5 Q6 (YV T.n_len (vo 4)) c5) cT))))
   cK)
   (cY (XC Cj rfl (WA (by rfl) T.n_range (bT g c (cX (vv 0) (bH (pv 1) (cX (bP (aZ (cE (c7 c5 (c7 c5 (c7 c5 (c7 c5 (c7 c5 cT)))))))) cU))))) (cJ EF.nd)
   (cY (bW (RE (IN (bY F5 s_lt (YV T.n_len (vo 4)) (vv 2) (bQ _)) (M9 (bY (SO (K:=K) rfl b) SX (aT a (aT a (vo 4) (PB c5)) c5) cP (bQ _)))))
   (c0 (YW (K:=K) rfl Be Bf aM X4 (pv 4) (cE (c7 (bT e c (cX (vv 0) (bH (pv 1) (bH (pv 4) (bH (pv 5) (bH (pv 6) (cX (vv 3) cU))))))) cT)))
   (cY (bW (bY (MZ (K:=K) rfl b) (YE (neg:=true)) (aT a (aT a (vo 4) (PB c5)) c5) (cG (c7 cP (c7 cP cT))) (by with_unfolding_all rfl))
   (cY (YW (K:=K) rfl Be Bf aM X4 (pv 5) (cE (c7 (Y1 U5 Q6 (YV T.n_len (vo 4)) c5) cT))))
   cK)))
   cK)))))))
  ·exact(cR (NY (VD (K:=K) rfl) U9 (by rfl) T.n_tuple ZK (vo 4)))
noncomputable abbrev Nx44:List Rg:=["_law_row_here"]
abbrev Qx44:List Rg:=["_law_row_here"]
theorem nO:cM Nx44 Qx44 (cV (top 71)):=aJ
theorem Xb(F:YH K "_law_names" "_law_names" (top 71) f fd)(T:Txt K mg):bO P w K mg base CX0 1 f fd Qx44 (spV K [] 1 Z8):=
 XB P w K mg base Nx44 Qx44 0 NP [] F nO λ_ _ _ _ _ _ c b a=>by
  refine(c0 ?_ (cY ?_))
  ·exact(bW (XV b (aT a (vv 0) c5) cP)
   (cY (cR (bP (aZ (cE cT)))))
   cK)
  ·exact(cR (WY (bY (TL (K:=K) rfl b) (YE (neg:=false)) (aT a (vv 0) c5) (cG (c7 cP (c7 cP (c7 cP (c7 cP cT))))) (by with_unfolding_all rfl)) (bP (CK (HR (K:=K) rfl) VV (by rfl) T.VV RN (Rz (Q7 rfl (vv 0) (Q9 c5) Q8)))) (bP (CK (HR (K:=K) rfl) VV (by rfl) T.VV RN (Rz (Q7 rfl (vv 0) (Q9 c5) Q8))))))
noncomputable abbrev Nx45:List Rg:=["_law_block_here","_law_row_here","_law_here"]
abbrev Qx45:List Rg:=["_law_block_here","_law_row_here"]
theorem zCB:cM Nx45 Qx45 (cV (top 72)):=aJ
theorem iN(F:YH K "_law_may" "_law_may" (top 72) f fd)(T:Txt K mg):bO P w K mg base CX0 1 f fd Qx45 (spV K [] 2 YG):=
 XB P w K mg base Nx45 Qx45 0 OK [] F zCB λ_ _ _ _ _ _ d b a=>by
  refine(c0 ?_ (c0 ?_ (cY ?_)))
  ·exact(bV zCB.nd (a6 (cW (aT a (aT a (vv 0) c5) (vv 1)))))
  ·exact (bW (bY (TL (K := K) rfl b) (YE (neg := false)) (aT a (vv 2) c5) (cG (c7 cP (c7 cP (c7 cP (c7 cP cT))))) (by with_unfolding_all rfl))
   (cY (cR (X6 Uk s_ge (aT a (vv 2) c5) (aT a (vv 0) c5) (bQ _))))
   cK)
  ·exact(cR (V5 (veq b (aT a (vv 2) c5) cP) (UF (X6 (MZ (K:=K) rfl b) (YE (neg:=true)) (Q7 rfl (aT a (aT a (vv 0) c5) (aT a (vv 2) c5)) Q8 (Q9 c5)) (bP (aA ["_law_k"] [] 1 (AB (by rfl) T.n_range c5 c5) (λc _ _ _ _=>⟨(cJ c),X5,(cW (cG (c7 cP (c7 (vv 0) cT))))⟩))) (by with_unfolding_all rfl)))))
noncomputable abbrev Nx46:List Rg:=["_law_block_here","_law_made","_law_cells_here","_law_two","_law_there","_law_one","_law_here","_law_writes","_law_reasons"]
abbrev Qx46:List Rg:=["_law_block_here"]
theorem SY:cM Nx46 Qx46 (cV (top 73)):=aJ
theorem gH(F:YH K "_law_must" "_law_must" (top 73) f fd)(T:Txt K mg)(g:cB P w K mg base "_law_names" 1 Qx44 [] Z8 f_x44)(d:cB P w K mg base "_law_may" 1 Qx45 [] YG f_x45):bO P w K mg base CX0 2 f fd Qx46 (spV K [] 1 W6):=
 XB P w K mg base Nx46 Qx46 1 QP [] F SY λ_ _ _ _ _ _ c b a=>by
  refine c0 ?_ ?_
  ·exact(CN (i:=1) (j:=2) rfl SY.nd rfl rfl (by decide) rfl rfl (@WL _ _ _ _ _ _ (@aZ _ _ _ _ _ _ _ (@cE _ _ _ _ _ _ _ cT rfl))) (@a6 _ _ _ _ _ _ (@cW _ _ _ _ _ _ _ _ (@cG _ _ _ _ _ _ _ _ _ (@c7 _ _ _ _ _ _ _ _ _ _ _ _ cP (@c7 _ _ _ _ _ _ _ _ _ _ _ _ cP (@c7 _ _ _ _ _ _ _ _ _ _ _ _ cP (@c7 _ _ _ _ _ _ _ _ _ _ _ _ cP cT rfl rfl rfl) rfl rfl rfl) rfl rfl rfl) rfl rfl rfl)) rfl)) rfl)
  refine c0 ?_ ?_
  ·exact (XC Cj rfl (QD rfl (by rfl) T.n_enumerate (cW (aT a (vv 0) c5))) (Y8 (K := K) rfl rfl (b7 (cJ SY.nd) (b7 (cJ SY.nd) Z1)))
   (cY (XC Cj rfl (QD rfl (by rfl) T.n_enumerate (cW (Q7 rfl (aT a (vv 0) c5) Q8 (Q9 (vv 3))))) (Y8 (K:=K) rfl rfl (b7 (cJ SY.nd) (b7 (cJ SY.nd) Z1)))
   (c0 (pA false SY.nd ["_law_row_here"] [] 1 (YS rfl (cW (cG (c7 (vv 6) (c7 (vv 4) cT))))) (λe _ _ _ _=>⟨(cJ e),(IM (bY (TL (K:=K) rfl b) (YE (neg:=false)) (aT a (vv 0) c5) (cG (c7 cP (c7 cP cT))) (by with_unfolding_all rfl))),(vv 0)⟩))
   (c0 (bV SY.nd (WL (aZ (cE (c7 (X6 (TL (K:=K) rfl b) (YE (neg:=false)) (vv 5) (bT g c (cX (vv 4) cU)) (by with_unfolding_all rfl)) (c7 (V5 (bT d c (cX (vv 0) (cX (vv 5) cU))) (UF (bT d c (cX (vv 0) (cX (vv 3) cU))))) cT))))))
   (c0 (YW (K:=K) rfl Be Bf aM X4 (pv 8) (cE (c7 (V5 (X6 (TL (K:=K) rfl b) (YE (neg:=false)) (aT a (vv 6) c5) (vv 2) (by with_unfolding_all rfl)) (V5 (X6 (TL (K:=K) rfl b) (YE (neg:=false)) (aT a (vv 4) c5) (vv 2) (by with_unfolding_all rfl)) (V5 (veq b (aT a (vv 6) c5) (aT a (vv 4) c5)) (UF (X6 (SO (K:=K) rfl b) SX (vv 7) (bP (aZ (cE cT))) (bQ _)))))) cT)))
   (c0 (YW (K:=K) rfl Be Bf aM X4 (pv 8) (cE (c7 (V5 (bT d c (cX (vv 0) (cX (vv 5) cU))) (UF (X6 (TL (K:=K) rfl b) (YE (neg:=false)) (aT a (vv 4) c5) (cG (c7 cP (c7 cP cT))) (by with_unfolding_all rfl)))) cT)))
   (c0 (YW (K:=K) rfl Be Bf aM X4 (pv 8) (cE (c7 (V5 (bT d c (cX (vv 0) (cX (vv 3) cU))) (UF (X6 (TL (K:=K) rfl b) (YE (neg:=false)) (aT a (vv 6) c5) (cG (c7 cP (c7 cP cT))) (by with_unfolding_all rfl)))) cT)))
   (cY (bW (bY (TL (K:=K) rfl b) (YE (neg:=false)) YA (vo 8) (by with_unfolding_all rfl))
   (cY (YW (K:=K) rfl Be Bf aM X4 (pv 1) (cE (c7 (cG (c7 (vv 5) (c7 (vv 3) cT))) cT))))
   cK))))))))))
  exact cY (cR (bP (mM (dY (K:=K) rfl) qE (by rfl) T.n_sorted dQ (Rz (vo 1)))))
noncomputable abbrev Nx47:List Rg:=["_law_script","_law_town","_law_block_here","_law_pairs","_law_left","_law_made","_law_ready"]
noncomputable abbrev Qx47:List Rg:=["_law_script","_law_town","_law_block_here"]
theorem EH:cM Nx47 Qx47 (cV (top 74)):=aJ
theorem Zo(F:YH K "_law_mixed_order" "_law_mixed_order" (top 74) f fd)(T:Txt K mg)(g:cB P w K mg base "_law_pick" 4 NB [1] bU f_x37)(e:cB P w K mg base "_law_must" 2 Qx46 [] W6 f_x46):bO P w K mg base CX0 5 f fd Qx47 (spV K [1] 3 Z5):=
 XB P w K mg base Nx47 Qx47 4 XO [1] F EH λ_ _ _ _ _ _ d b a=>by
  refine(c0 ?_ (c0 ?_ (cY ?_)))
  ·exact(nX (i:=3) (j:=4) (k:=5) rfl rfl EH.nd rfl rfl rfl (by decide) (by decide) (by decide) (Fx rfl) (Fx rfl) (Gx rfl) (a6 (cW (bT e d (cX (vv 2) cU)))) (WL (AD rfl (by rfl) T.VV RN (by rfl) T.n_range kG (YV T.n_len (aT a (vv 2) c5)))) (WL (aZ (cE cT))))
  ·exact(GV Cj (bY (SO (K:=K) rfl b) SX (vo 4) (bP (aZ (cE cT))) (bQ _))
   (c0 (lV false EH.nd ["_law_pairs","_law_left","_law_row_here"] [3,4] 1 (dP rfl (vo 4)) (λc _ _ _ _=>⟨(cJ c),(IM (XV b (bP (aA ["_law_left","_law_row_here","_law_one","_law_two"] [1,2] 2 (YS rfl (vv 0)) (λc _ _ _ _=>⟨(Y8 (K:=K) rfl rfl (b7 (cJ c) (b7 (cJ c) Z1))),(IM (RE (IN (XV b (vv 3) (vv 1)) (M9 (bY (TL (K:=K) rfl b) (YE (neg:=false)) (vv 2) (vo 0) (by with_unfolding_all rfl)))))),c5⟩))) (bP (aZ (cE cT))))),(vv 2)⟩))
   (c0 (YW (K:=K) rfl Be Bf aM X4 (pv 5) (cE (c7 (bT g d (cX (vv 0) (bH (pv 1) (cX (vv 6) cU)))) cT)))
   (cY (YW (K:=K) rfl PySem.F.slot_list_remove PySem.F.type_list_remove eO dG (pv 4) (cE (c7 (aT a (vo 5) (PB c5)) cT)))))))
  ·exact(CO (pv 5))
noncomputable abbrev Nx48:List Rg:=["_law_row_here","_law_names_here","_law_first"]
noncomputable abbrev Qx48:List Rg:=["_law_row_here","_law_names_here"]
theorem zCA:cM Nx48 Qx48 (cV (top 75)):=aJ
theorem nV(F:YH K "_law_renamed" "_law_renamed" (top 75) f fd)(T:Txt K mg):bO P w K mg base CX0 1 f fd Qx48 (spV K [] 2 cD):=
 XB P w K mg base Nx48 Qx48 0 aS [] F zCA λ_ _ _ _ _ _ d b a=>by
  refine(c0 ?_ (c0 ?_ (cY ?_)))
  ·exact(bW (XV b (aT a (vv 0) c5) cP)
   (cY (cR (vv 0)))
   cK)
  ·exact(bV zCA.nd (a6 (cW (WY (bY (TL (K:=K) rfl b) (YE (neg:=false)) (aT a (vv 0) c5) (cG (c7 cP (c7 cP (c7 cP (c7 cP cT))))) (by with_unfolding_all rfl)) c5 c5))))
  ·exact(cR (bG (ZT (K:=K) rfl) aY (Q7 rfl (vv 0) Q8 (Q9 (vv 2))) (NY (VD (K:=K) rfl) U9 (by rfl) T.n_tuple ZK (bP (aA ["_law_names_here","_law_name"] [1] 1 (YS rfl (cW (Q7 rfl (vv 0) (Q9 (vv 2)) Q8))) (λc _ _ _ _=>⟨(cJ c),X5,(cW (aT a (vv 0) (vv 1)))⟩))))))
noncomputable abbrev Nx42:List Rg:=["_law_script","_law_town","_law_most","_law_room","_law_sure","_law_block_here","_law_order_there","_law_names_here"]
noncomputable abbrev Qx42:List Rg:=["_law_script","_law_town","_law_most"]
theorem O7:cM Nx42 Qx42 (cV (top 69)):=aJ
theorem Zx(F:YH K "_law_block" "_law_block" (top 69) f fd)(T:Txt K mg)(d:cB P w K mg base "_law_draw" 3 G3 [1] bX f_x36)(e:cB P w K mg base "_law_pick" 4 NB [1] bU f_x37)(g:cB P w K mg base "_law_rows" 7 Qx40 [1] W7 f_x40)(h:cB P w K mg base "_law_mixed_order" 5 Qx47 [1] Z5 f_x47)(i:cB P w K mg base "_law_renamed" 1 Qx48 [] cD f_x48):bO P w K mg base CX0 8 f fd Qx42 (spV K [1] 3 Y9):=
 XB P w K mg base Nx42 Qx42 7 VA [1] F O7 λ_ _ _ _ _ _ a j b=>by
  refine(c0 ?_ (c0 ?_ (c0 ?_ (c0 ?_ (c0 ?_ (c0 ?_ (cY ?_)))))))
  ·exact(bV O7.nd (a6 (cW (bT e a (cX (vv 0) (bH (pv 1) (cX (bP (aZ (cE (c7 c5 (c7 c5 (c7 c5 (c7 c5 cT))))))) cU)))))))
  ·exact(bV O7.nd (a6 (cW (bT e a (cX (vv 0) (bH (pv 1) (cX (bP (aZ (cE (c7 c5 (c7 (vv 3) (c7 (vv 3) (c7 (bT d a (cX (vv 0) (bH (pv 1) (cX (cW (bG (ZT (K:=K) rfl) aY (vv 3) c5)) cU)))) cT))))))) cU)))))))
  ·exact(bV O7.nd (a6 (cW (cG (c7 (vv 4) (c7 (bT g a (cX (vv 0) (bH (pv 1) (cX (cW (bT d a (cX (vv 0) (bH (pv 1) (cX (cW (bG (ZT (K:=K) rfl) aY (vv 2) c5)) cU))))) (cX (vv 3) cU))))) cT))))))
  ·exact(bW (bY BK s_gt (bT d a (cX (vv 0) (bH (pv 1) (cX c5 cU)))) c5 (bQ _))
   (cY (cR (vv 5)))
   cK)
  ·exact(bV O7.nd (a6 (cW (bT h a (cX (vv 0) (bH (pv 1) (cX (vv 5) cU)))))))
  ·exact(bV O7.nd (a6 (bP (KJ rfl rfl (by rfl) T.n_dict AI (bP (aA ["_law_number","_law_row_here"] [] 2 (QD rfl (by rfl) T.n_enumerate (vv 6)) (λc _ _ _ _=>⟨(Y8 (K:=K) rfl rfl (b7 (cJ c) (b7 (cJ c) Z1))),X5,(cW (cG (c7 (vv 1) (c7 (vv 0) cT))))⟩)))))))
  ·exact(cR (cG (c7 (vv 4) (c7 (NY (VD (K:=K) rfl) U9 (by rfl) T.n_tuple ZK (bP (aA ["_law_block_here","_law_names_here","_law_row_here"] [5,7] 1 (YS rfl (vv 6)) (λc _ _ _ _=>⟨(cJ c),X5,(cW (bT i a (cX (cW (aT b (aT b (vv 0) c5) (vv 2))) (cX (vv 1) cU))))⟩)))) cT))))
noncomputable abbrev Nx43:List Rg:=["_law_script","_law_town","_law_low","_law_many","_law_small"]
noncomputable abbrev Qx43:List Rg:=["_law_script","_law_town","_law_low"]
theorem EG:cM Nx43 Qx43 (cV (top 70)):=aJ
theorem eZ(F:YH K "_law_cells" "_law_cells" (top 70) f fd)(T:Txt K mg)(b:cB P w K mg base "_law_draw" 3 G3 [1] bX f_x36)(c:cB P w K mg base "_law_pick" 4 NB [1] bU f_x37):bO P w K mg base CX0 5 f fd Qx43 (spV K [1] 3 XY):=
 XB P w K mg base Nx43 Qx43 4 SI [1] F EG λ_ _ _ _ _ _ a g d=>by
  refine(c0 ?_ (c0 ?_ (cY ?_)))
  ·exact(bV EG.nd (a6 (cW (bT c a (cX (vv 0) (bH (pv 1) (cX (bP (aZ (cE (c7 (vv 2) (c7 (MN (OD rfl) Se (by rfl) T.n_min C3 c5 (bG (ZT (K:=K) rfl) aY (vv 2) (bT b a (cX (vv 0) (bH (pv 1) (cX c5 cU)))))) (c7 c5 cT)))))) cU)))))))
  ·exact(bV EG.nd (a6 (cW (bT c a (cX (vv 0) (bH (pv 1) (cX (bP (aZ (cE (c7 c5 (c7 c5 (c7 c5 cT)))))) cU)))))))
  ·exact(cR (bP (aA ["_law_script","_law_town","_law_small","_law_k"] [0,1,4] 1 (WA (by rfl) T.n_range (vv 3)) (λe _ _ _ _=>⟨(cJ e),X5,(cW (bT b a (cX (vv 0) (bH (pv 1) (cX (vv 2) cU)))))⟩))))
noncomputable abbrev Nx49:List Rg:=["_law_rows_here","_law_by","_law_names_here"]
noncomputable abbrev Qx49:List Rg:=["_law_rows_here","_law_by"]
theorem zC9:cM Nx49 Qx49 (cV (top 76)):=aJ
theorem Zj(F:YH K "_law_shifted" "_law_shifted" (top 76) f fd)(T:Txt K mg)(d:cB P w K mg base "_law_renamed" 1 Qx48 [] cD f_x48):bO P w K mg base CX0 2 f fd Qx49 (spV K [] 2 aB):=
 XB P w K mg base Nx49 Qx49 1 U2 [] F zC9 λ_ _ _ _ _ _ c e b=>by
  refine(c0 ?_ (cY ?_))
  ·exact(bV zC9.nd (a6 (bP (KJ rfl rfl (by rfl) T.n_dict AI (bP (aA ["_law_by","_law_row_here"] [1] 1 (WA (by rfl) T.n_range (YV T.n_len (vv 0))) (λa _ _ _ _=>⟨(cJ a),X5,(cW (cG (c7 (vv 1) (c7 (bG (ZT (K:=K) rfl) aY (vv 1) (vv 0)) cT))))⟩)))))))
  ·exact(cR (NY (VD (K:=K) rfl) U9 (by rfl) T.n_tuple ZK (bP (aA ["_law_names_here","_law_row_here"] [2] 1 (YS rfl (vv 0)) (λa _ _ _ _=>⟨(cJ a),X5,(cW (bT d c (cX (vv 1) (cX (vv 0) cU))))⟩)))))
noncomputable abbrev Nx50:List Rg:=["_law_script","_law_town","_law_one","_law_two","_law_sure","_law_number","_law_tree","_law_block_here","_law_where","_law_first","_law_again","_law_cells_here","_law_later","_law_fault","_law_due"]
abbrev Qx50:List Rg:=["_law_script"]
theorem XR:cM Nx50 Qx50 (cV (top 77)):=aJ
theorem qW(F:YH K "law" "law" (top 77) f fd)(T:Txt K mg)(d:cB P w K mg base "run" 7 Qx25 [] NK f_x25)(m:cB P w K mg base "is_tree" 13 CV [] YZ f_x29)(h:cB P w K mg base "run_tree" 14 Qx32 [] W8 f_x32)(k:cB P w K mg base "flattened" 14 Qx33 [] XX f_x33)(n:cB P w K mg base "_law_pick" 4 NB [1] bU f_x37)(e:cB P w K mg base "_law_block" 8 Qx42 [1] Y9 f_x42)(l:cB P w K mg base "_law_cells" 5 Qx43 [1] XY f_x43)(g:cB P w K mg base "_law_shifted" 2 Qx49 [] aB f_x49):bO P w K mg base CX0 15 f fd Qx50 (spV K [] 1 IQ):=
 XB P w K mg base Nx50 Qx50 14 zEK [] F XR λ_ _ _ _ _ _ b c a=>by
  refine c0 ?_ ?_
  ·exact(bV XR.nd (WL (aZ (cE cT))))
  refine c0 ?_ ?_
  ·exact(CN (i:=2) (j:=3) rfl XR.nd rfl rfl (by decide) rfl rfl (a6 (cW (bT e b (cX (vv 0) (bH (pv 1) (cX c5 cU)))))) (a6 (cW (bT e b (cX (vv 0) (bH (pv 1) (cX c5 cU)))))) rfl)
  refine c0 ?_ ?_
  ·exact(bV XR.nd (a6 (cW (MN (OC rfl) Sc (by rfl) T.n_max C2 (aT a (vv 2) c5) (aT a (vv 3) c5)))))
  refine c0 ?_ ?_
  ·exact(bV XR.nd (a6 (cW (bT n b (cX (vv 0) (bH (pv 1) (cX (bP (aZ (cE (c7 c5 (c7 c5 (c7 c5 (c7 c5 (c7 c5 cT)))))))) cU)))))))
  refine c0 ?_ ?_
  ·exact(@bV _ _ _ _ _ _ _ _ _ XR.nd (@a6 _ _ _ _ _ _ (@cW _ _ _ _ _ _ _ _ (@cG _ _ _ _ _ _ _ _ _ (@c7 _ _ _ _ _ _ _ _ _ _ _ _ (@vv _ _ _ _ _ 4 rfl (by first|exact Gx rfl|exact Fx (Gx rfl)|exact Fx (Fx rfl)) (by decide) (by decide)) (@c7 _ _ _ _ _ _ _ _ _ _ _ _ (@cG _ _ _ _ _ _ _ _ _ (@c7 _ _ _ _ _ _ _ _ _ _ _ _ (@cG _ _ _ _ _ _ _ _ _ (@c7 _ _ _ _ _ _ _ _ _ _ _ _ cP (@c7 _ _ _ _ _ _ _ _ _ _ _ _ (@vv _ _ _ _ _ 5 rfl (by first|exact Gx rfl|exact Fx (Gx rfl)|exact Fx (Fx rfl)) (by decide) (by decide)) cT rfl rfl rfl) rfl rfl rfl)) (@c7 _ _ _ _ _ _ _ _ _ _ _ _ (@cG _ _ _ _ _ _ _ _ _ (@c7 _ _ _ _ _ _ _ _ _ _ _ _ cP (@c7 _ _ _ _ _ _ _ _ _ _ _ _ c5 (@c7 _ _ _ _ _ _ _ _ _ _ _ _ (@bT _ _ _ _ _ _ _ _ _ _ _ _ _ _ _ _ _ g b (@cX _ _ _ _ _ _ _ _ _ (@cW _ _ _ _ _ _ _ _ (@aT _ _ _ _ _ _ _ _ _ _ _ _ _ _ a (@vv _ _ _ _ _ 2 rfl (by first|exact Gx rfl|exact Fx (Gx rfl)|exact Fx (Fx rfl)) (by decide) (by decide)) c5 rfl (by exact λ_ _=>rfl) rfl) rfl) (@cX _ _ _ _ _ _ _ _ _ c5 cU rfl) rfl) rfl (by decide) rfl (by decide) rfl rfl) (@c7 _ _ _ _ _ _ _ _ _ _ _ _ (@bT _ _ _ _ _ _ _ _ _ _ _ _ _ _ _ _ _ g b (@cX _ _ _ _ _ _ _ _ _ (@cW _ _ _ _ _ _ _ _ (@aT _ _ _ _ _ _ _ _ _ _ _ _ _ _ a (@vv _ _ _ _ _ 3 rfl (by first|exact Gx rfl|exact Fx (Gx rfl)|exact Fx (Fx rfl)) (by decide) (by decide)) c5 rfl (by exact λ_ _=>rfl) rfl) rfl) (@cX _ _ _ _ _ _ _ _ _ (@cW _ _ _ _ _ _ _ _ (@bG _ _ _ _ _ _ _ _ _ _ _ _ _ _ _ _ _ (ZT (K:=K) rfl) aY c5 (@YV _ _ _ _ _ _ _ _ _ _ T.n_len (@aT _ _ _ _ _ _ _ _ _ _ _ _ _ _ a (@vv _ _ _ _ _ 2 rfl (by first|exact Gx rfl|exact Fx (Gx rfl)|exact Fx (Fx rfl)) (by decide) (by decide)) c5 rfl (by exact λ_ _=>rfl) rfl) rfl rfl rfl) rfl) rfl) cU rfl) rfl) rfl (by decide) rfl (by decide) rfl rfl) cT rfl rfl rfl) rfl rfl rfl) rfl rfl rfl) rfl rfl rfl)) cT rfl rfl rfl) rfl rfl rfl)) cT rfl rfl rfl) rfl rfl rfl)) rfl)) rfl (by first|exact .inl rfl|exact .inr rfl) (by decide) rfl (by first|exact .inl rfl|exact .inr rfl|assumption))
  refine c0 ?_ ?_
  ·exact(bW (bY pP eD (bT m b (cX (vv 6) cU)) YA (bQ _))
   (cY (cR YA))
   cK)
  refine c0 ?_ ?_
  ·exact(UG (cW (bT k b (cX (vv 6) cU))) (Y8 (K:=K) rfl rfl (b7 (cJ XR.nd) (b7 (cJ XR.nd) Z1))))
  refine c0 ?_ ?_
  ·exact(bV XR.nd (a6 (cW (WY (bY (SO (K:=K) rfl c) SX (vv 5) c5 (bQ _)) c5 (bG (ZT (K:=K) rfl) aY c5 (YV T.n_len (aT a (vv 2) c5)))))))
  refine c0 ?_ ?_
  ·exact (XC Cj rfl (WA (by rfl) T.n_range c5) (cJ XR.nd)
   (c0 (bV XR.nd (a6 (cW (bT l b (cX (vv 0) (bH (pv 1) (cX (vv 4) cU)))))))
   (c0 (UG (cW (bT d b (cX (cW (cG (c7 (vv 4) (c7 (WY (bY (SO (K:=K) rfl c) SX (vv 5) c5 (bQ _)) (aT a (vv 2) c5) (aT a (vv 3) c5)) cT)))) (cX (vv 11) cU)))) (Y8 (K:=K) rfl rfl (b7 (cJ XR.nd) (b7 (cJ XR.nd) Z1))))
   (c0 (bV XR.nd (a6 (cW (WY (bY T8 P9 (vv 13) bF (bQ _)) bF (cG (c7 (bG (ZT (K:=K) rfl) aY (aT a (vv 13) c5) (vv 9)) (c7 (aT a (vv 13) c5) cT)))))))
   (c0 (bW (bY (SO (K:=K) rfl c) SX (bT h b (cX (vv 6) (cX (vv 11) cU))) (cG (c7 (vv 12) (c7 (vv 14) cT))) (bQ _))
   (cY (cR YA))
   cK)
   (cY (bW (bY (SO (K:=K) rfl c) SX (bT d b (cX (vv 7) (cX (vv 11) cU))) (cG (c7 (vv 12) (c7 (WY (bY T8 P9 (vv 14) bF (bQ _)) bF (cG (c7 (aT a (vv 8) (aT a (vv 14) c5)) (c7 (aT a (vv 14) c5) cT)))) cT))) (bQ _))
   (cY (cR YA))
   cK)))))))
  exact cY (cR (V5 (X6 T8 P9 (aT a (vv 8) c5) bF (bQ _)) (UF (veq c (YV T.n_len (vv 8)) (bG (ZT (K:=K) rfl) aY (bG (ZT (K:=K) rfl) aY c5 (YV T.n_len (aT a (vv 2) c5))) (YV T.n_len (aT a (vv 3) c5)))))))
end
end RR
namespace L2
open PySem
theorem ZM(a b:String):Bj a=Bj b↔a=b:=by
 refine⟨λh=>?_,λh=>by rw[h]⟩;rw[Hq,Hq] at h;injection h with h;have h2:a.toList.map Nj=b.toList.map Nj:=by simpa using h
 have f:a.toList=b.toList:=by
  have inj:∀(l m:List Char),l.map Nj=m.map Nj->l=m:=by
   intro l;induction l with
   |nil=>intro m h;cases m with
    |nil=>rfl
    |cons=>cases h
   | cons c l d => intro m h;cases m with
    |nil=>cases h
    |cons e m=>
     simp only[As,Jj] at h;rw[d m h.2,Char.toNat_inj.mp h.1]
  exact inj _ _ h2
 exact String.toList_inj.mp f
theorem Xl(a:String):Qs (Bj a)=true:=by
 unfold Qs;rw[Hq];simp only[List.all_toArray,Qr,Fy,Qk,decide_eq_true_eq];intro c _;have:=c.valid
 rcases this with h|⟨_,h⟩
 ·show c.val.toNat<1114112
  have:c.val.toNat<55296:=h
  lia
 ·exact h
def UJ(k:Nat)(d:c6):Prop:=d.isD=true/\d.pd.canLay0=true/\d.pd.depth<=k
theorem aR{k:Nat}{i:Int}:UJ k (.int i):=⟨rfl,rfl,Dg _⟩
theorem Sw{k:Nat}{i:Bool}:UJ k (.bl i):=⟨rfl,rfl,Dg _⟩
theorem M4{k:Nat}:UJ k .non:=⟨rfl,rfl,Dg _⟩
theorem YL{k:Nat}{a:String}:UJ k (.str (Bj a)):=⟨rfl,by simp[c6.pd,Ga,Xl],Dg _⟩
theorem HX{k:Nat}:∀{ds:List c6},(∀d∈ds,UJ k d)->FI ds=true/\Hz (pds ds)=true/\Et (pds ds)<=k
 |[],_=>⟨rfl,rfl,Dg _⟩
 |d::ds,h=>by obtain⟨f,a2,i⟩:=h d Ay;obtain⟨c,b,g⟩:=HX λe a=>h e (Ar _ a);refine⟨by simp[FI,f,c],by simp[pds,Hz,a2,b],?_⟩;simp only[pds,Et];lia
theorem RX{k:Nat}{ds:List c6}(h:∀d∈ds,UJ k d):UJ (k+1) (.tup ds):=by obtain⟨a,b,c⟩:=HX h;exact⟨by simpa[c6.isD] using a,by simpa[c6.pd,Ga] using b,by simp only[c6.pd,Ii];lia⟩
theorem W3{k:Nat}{ds:List c6}(h:∀d∈ds,UJ k d):UJ (k+1) (.lst ds):=by obtain⟨a,b,c⟩:=HX h;exact⟨by simpa[c6.isD] using a,by simpa[c6.pd,Ga] using b,by simp only[c6.pd,Ii];lia⟩
theorem UJ.ok{k:Nat}{d:c6}(h:UJ k d)(hk:k<=64:=by decide):J0 d=true:=by
 unfold J0 Ei;simp only[h.1,h.2.1,Ql,Ah,decide_eq_true_eq];have:=h.2.2
 lia
@[simp] theorem w8{a:String}:J0 (.str (Bj a))=true:=(YL (k:=0)).ok
theorem YM{k:Nat}:∀d∈([]:List c6),UJ k d:=λ_ h=>nomatch h
theorem aW{k:Nat}{d:c6}{ds:List c6}(h:UJ k d)(t:∀d∈ds,UJ k d):∀e∈d::ds,UJ k e:=λe a=>by
 rcases Aj.mp a with z|z
 ·rw[z];exact h
 ·exact t e z
@[simp] theorem iO{i j:Int}:eqD (.int i) (.int j)=decide (i=j):=by show(i==j)=_;rw[Lj]
@[simp] theorem vN{a b:String}:eqD (.str (Bj a)) (.str (Bj b))=decide (a=b):=by show(Bj a==Bj b)=_;rw[Lj];simp only[ZM]
@[simp] theorem wE{i j:Int}:XF (.int i) (.int j)=some (.bl (decide (i=j))):=by unfold XF;simp
@[simp] theorem uZ{i j:Int}:QF (.int i) (.int j)=some (.bl (!decide (i=j))):=by unfold QF;simp
@[simp] theorem uW{a b:String}:XF (.str (Bj a)) (.str (Bj b))=some (.bl (decide (a=b))):=by unfold XF;simp
@[simp] theorem vE{a b:String}:QF (.str (Bj a)) (.str (Bj b))=some (.bl (!decide (a=b))):=by unfold QF;simp
theorem Wj{j k:Nat}{d e:c6}(h:UJ j d)(h':UJ k e)(a:j<=64:=by decide)(hk:k<=64:=by decide):XF d e=some (.bl (eqD d e)):=by unfold XF;rw[h.ok a,h'.ok hk];rfl
theorem BH{j k:Nat}{d e:c6}(h:UJ j d)(h':UJ k e)(a:j<=64:=by decide)(hk:k<=64:=by decide):QF d e=some (.bl (!eqD d e)):=by unfold QF;rw[h.ok a,h'.ok hk];rfl
theorem Sm{j k:Nat}{neg:Bool}{d:c6}{ds:List c6}(h:UJ j d)(h':∀e∈ds,UJ k e)(a:j<=64:=by decide)(hk:k+1<=64:=by decide):ZN neg d (.tup ds)=some (.bl (if neg then !JN d ds else JN d ds)):=by unfold ZN;simp[h.ok a,(RX h').ok hk]
theorem HV{j k:Nat}{neg:Bool}{d:c6}{ds:List c6}(h:UJ j d)(h':∀e∈ds,UJ k e)(a:j<=64:=by decide)(hk:k+1<=64:=by decide):ZN neg d (.lst ds)=some (.bl (if neg then !JN d ds else JN d ds)):=by unfold ZN;simp[h.ok a,(W3 h').ok hk]
@[simp] theorem wo{d:c6}:JN d []=false:=(rfl)
@[simp] theorem Sd{d e:c6}{ds:List c6}:JN d (e::ds)=(eqD e d || JN d ds):=(rfl)
@[simp] theorem A5{neg:Bool}{a b c:String}:ZN neg (.str (Bj a)) (.tup [.str (Bj b),.str (Bj c)])=some (.bl (if neg then !(decide (b=a) || decide (c=a)) else decide (b=a) || decide (c=a))):=by rw[Sm (j:=0) YL (aW (YL (k:=0)) (aW YL YM))];simp
@[simp] theorem Ts{neg:Bool}{a b c d e:String}:ZN neg (.str (Bj a)) (.tup [.str (Bj b),.str (Bj c),.str (Bj d),.str (Bj e)])=some (.bl (if neg then !(decide (b=a) || (decide (c=a) || (decide (d=a) || decide (e=a)))) else decide (b=a) || (decide (c=a) || (decide (d=a) || decide (e=a))))):=by rw[Sm (j:=0) YL (aW (YL (k:=0)) (aW YL (aW YL (aW YL YM))))];simp
@[simp] theorem vz{neg:Bool}{a b c:Int}:ZN neg (.int a) (.tup [.int b,.int c])=some (.bl (if neg then !(decide (b=a) || decide (c=a)) else decide (b=a) || decide (c=a))):=by rw[Sm (j:=0) aR (aW (aR (k:=0)) (aW aR YM))];simp
theorem kM{k:Nat}{d:c6}(h:UJ k d):eqD d d=true:=PySem.SeqAt.eqv_refl _ h.2.1
def VN(ns:List Int):c6:=.lst (ns.map .int)
noncomputable def XE(n:Nat):c6:=.lst (Bn n (.int 0))
theorem JO:∀ns:List Int,FI (ns.map c6.int)=true
 |[]=>rfl
 |n::ns=>by simp[FI,c6.isD,JO ns]
theorem F8:∀ns:List Int,pds (ns.map c6.int)=ns.map Nb
 |[]=>rfl
 |n::ns=>by simp[pds,c6.pd,F8 ns]
theorem Xa(ns:List Int):J0 (.lst (ns.map .int))=true:=by unfold J0;simp only[c6.isD,JO,c6.pd,F8,Ql];exact GK ns
theorem QJ(ns:List Int):XF (.lst (ns.map .int)) (.lst [])=some (.bl ns.isEmpty):=by unfold XF;rw[Xa,show J0 (.lst [])=true from by decide+kernel];cases ns<;>rfl
theorem JM:∀n:Nat,TU (Bn n (.int 0))=true
 |0=>rfl
 |n+1=>by simp[Di,TU,c6.hard,JM n]
@[simp] theorem xc(n:Nat):SQ (XE n)=true:=JM n
theorem JD:∀(ds:List c6) (a b:c6) (r:Int) (s:Sl),∃r' s',YQ (gN 3) (aL 2 (xV (f2 FZ (fV 2) (fC (.int 1000003))))) ds [.va a,.va b,.va (.int r),s]=some (.nx [.va a,.va b,.va (.int r'),s'])
 |[],a,b,r,s=>⟨r,s,rfl⟩
 |d::ds,a,b,r,s=>by obtain⟨r',s',h⟩:=JD ds a b (r/1000003) (.va d);exact⟨r',s',by simp[cDiv,h]⟩
theorem MY{ns:List Int}{i:Int}(c:0<=i)(h1:i<ns.length):∃r∈ns,WJ (ns.map c6.int) i=some (.int r):=by obtain⟨x,a,e⟩:=C0 (xs:=ns.map c6.int) c (by simpa using h1);obtain⟨r,b,rfl⟩:=Cc.mp a;exact⟨r,b,e⟩
theorem iM(ns:List Int)(k:Nat)(hl:ns.length<=63)(hk:k<1000000):∃r,ZX [VN ns,.int k]=some (.int r,[]):=by
 unfold ZX;rw[cO];unfold U1 TR VN;by_cases h:(k:Int)<ns.length
 ·obtain ⟨r,_,e⟩ := MY (ns := ns) (i := k) (by lia) h
  exact⟨r,by simp[cF,h,e]⟩
 ·cases ns with
  |nil=>
   have o:¬((k:Int)<0):=by lia
   have e:XF (.lst []) (.lst [])=some (.bl true):=QJ [];exact⟨0,by simp[cF,o,e]⟩
  |cons m g=>
   generalize a:m::g=ns at*;have f:(0:Int)<ns.length:=by rw[<-a];simp
   have n:=Hl (k:Int) (show(ns.length:Int)≠0 by lia);have d:=El (k:Int) f;obtain⟨r,_,e⟩:=MY (ns:=ns) n d;have l:ns.isEmpty=false:=by rw[<-a];rfl
   have q:0<=(k:Int)/ns.length:=Pk (by lia) (by lia);have j: -4611686018427387904<=(if(60:Int)<(k:Int)/ns.length then 60 else(k:Int)/ns.length)/\(if(60:Int)<(k:Int)/ns.length then 60 else(k:Int)/ns.length)<4611686018427387904:=by split<;>lia
   obtain⟨r',s',p⟩:=JD (ZF 0 (if(60:Int)<(k:Int)/ns.length then 60 else(k:Int)/ns.length).toNat) (.lst (ns.map .int)) (.int k) r .no;have c:0<ns.length:=by lia
   have b:(ns.length:Int)<1073741824:=by lia
   exact⟨r*31+k+r'*101,by simp[cF,h,QJ,l,f,c,b,e,cDiv,j,p,cMul]⟩
noncomputable def cel(ns:List Int)(k:Nat):Int:=match ZX [VN ns,.int k] with
 |some (.int r,_)=>r
 |_=>0
theorem fH(ns:List Int)(k:Nat)(hl:ns.length<=63)(hk:k<1000000):ZX [VN ns,.int k]=some (.int (cel ns k),[]):=by obtain⟨r,e⟩:=iM ns k hl hk;unfold cel;rw[e]
noncomputable def K9(ns:List Int)(n:Nat)(b:Int):Int:=((cel ns (n+1)*1103515245+7919*(((n+1:Nat)):Int)+12345) % 2147483647) ^ 5 % 2147483647 % 999983 % b
theorem PU(ns:List Int)(n:Nat){b:Int}(h:0<b):0<=K9 ns n b:=Hl _ (by lia)
theorem FC(ns:List Int)(n:Nat){b:Int}(h:0<b):K9 ns n b<b:=El _ h
theorem mN(ns:List Int)(n:Nat)(b:Int)(hl:ns.length<=63)(d:n<900000)(c:0<b):XZ [VN ns,.int ((n+1:Nat):Int),.int b]=some (.int (K9 ns n b),[]):=by
 have e:=fH ns (n+1) hl (by lia);unfold XZ;rw[cO];unfold SJ K9;have g:=Hl (cel ns (n+1)*1103515245+7919*((n+1:Nat):Int)+12345) (show(2147483647:Int)≠0 by decide);have f:=El (cel ns (n+1)*1103515245+7919*((n+1:Nat):Int)+12345) (show(0:Int)<2147483647 by decide);generalize hz:(cel ns (n+1)*1103515245+7919*((n+1:Nat):Int)+12345) % 2147483647=z at*;have a:z.natAbs<18446744073709551616:=by lia
 generalize hk:((n+1:Nat):Int)=k at*;simp[cF,e,cMul,cPow,hz,a,c]
theorem XM(ns:List Int)(n:Nat)(b:Int)(hl:ns.length<=63)(f:n<900000)(g:0<b):bX [VN ns,XE n,.int b]=some (.int (K9 ns n b),[XE (n+1)]):=by
 have e:=mN ns n b hl f g;unfold bX;rw[cO];unfold QO;have c:XE n=.lst (Bn n (.int 0)):=rfl;have a:XE (n+1)=.lst (Bn n (.int 0)++[.int 0]):=by unfold XE;rw[List.replicate_succ']
 rw[a,c];have d:n<16777216:=by lia
 push_cast at e
 simp[cF,d,e]
theorem W4(ns:List Int)(n:Nat)(xs:List c6)(hl:ns.length<=63)(b:n<900000)(d:0<xs.length):∃x∈xs,bU [VN ns,XE n,.lst xs]=some (x,[XE (n+1)]):=by
 have a:(0:Int)<xs.length:=by lia
 obtain⟨x,c,e⟩:=C0 (xs:=xs) (PU ns n a) (FC ns n a);refine⟨x,c,?_⟩;unfold bU;rw[cO];unfold QQ;simp[cF,XM ns n _ hl b a,e]
theorem AO(ns:List Int)(n:Nat)(b:Int)(hl:ns.length<=63)(a:n<900000)(c:0<b)(tl:Ev):cQ 3 [1] bX (aE (fV 0) (aO 1 (aE (fC (.int b)) b9))) (.va (VN ns):: .ow (XE n)::tl)=some (.int (K9 ns n b),.va (VN ns):: .ow (XE (n+1))::tl):=by simp[XM ns n b hl a c]
abbrev Sn(m:Nat)(d:c6):Prop:=∃(ks:List aG) (vs:List Int),d=.dct ks (vs.map .int)/\ks.length=vs.length/\ks.Nodup/\ks.length<=m
abbrev K3(n:Nat)(d:c6):Prop:=Sn (8*n) d
theorem K3.mono{n m:Nat}{d:c6}(h:K3 n d)(b:n<=m):K3 m d:=by obtain⟨ks,vs,h1,h2,a,c⟩:=h;exact⟨ks,vs,h1,h2,a,by lia⟩
theorem Uv:∀(ks:List aG) (vs:List Int) (k:aG) (q:Int),∃r,(bN ks (vs.map .int) k).getD (.int q)=.int r
 |[],_,_,q=>⟨q,by simp[bN]⟩
 |_::_,[],_,q=>⟨q,by simp[bN]⟩
 | k' :: ks,v :: vs,k,q => by
  by_cases h:k'=k
  ·exact⟨v,by simp[bN,h]⟩
  ·obtain⟨r,e⟩:=Uv ks vs k q
   exact⟨r,by simp only[As,bN,if_neg h];exact e⟩
theorem putI:∀(ks:List aG) (vs:List Int) (k:aG) (p:Int),ks.length=vs.length->ks.Nodup->∃(a:List aG) (b:List Int),XQ ks (vs.map .int) k (.int p)=(a,b.map .int)/\a.length=b.length/\a.Nodup/\a.length<=ks.length+1/\(∀z∈a,z=k∨z∈ks)/\bN a (b.map .int) k=some (.int p)
 |[],[],k,p,_,_=>⟨[k],[p],by simp[XQ],rfl,by simp,by simp,by simp,by simp[bN]⟩
 | k' :: ks,v :: vs,k,p,hl,c => by
  by_cases h:k'=k
  ·subst h
   exact⟨k'::ks,p::vs,by simp[XQ],by simpa using hl,c,by simp,by simp,by simp[bN]⟩
  ·obtain ⟨a,b,e,h1,h2,g,d,f⟩ := putI ks vs k p (by simpa using hl) (Cv.mp c).2
   refine⟨k'::a,v::b,by simp only[As,XQ,if_neg h,e],by simp[h1],?_,by simp;lia,?_,by simp only[As,bN,if_neg h];exact f⟩
   ·refine Cv.mpr ⟨λz => ?_,h2⟩
    rcases d _ z with y|y
    ·exact h y
    ·exact(Cv.mp c).1 y
   ·intro z hz
    rcases Aj.mp hz with y|y
    ·exact .inr (by rw[y];exact Ay)
    ·exact(d z y).imp id (Ar _)
theorem F9(ns:List Int)(n:Nat)(sn:c6)(x:Rg)(c:Int)(hl:ns.length<=63)(s:n<800000)(k:K3 n sn)(i:0<c):∃p f,0<=p/\p<c/\K3 (n+2) f/\Z9 [VN ns,XE n,sn,.str x,.int c]=some (.int p,[XE (n+2),f]):=by
 obtain⟨ks,vs,rfl,h1,h2,v⟩:=k;obtain⟨a,l⟩:=Uv ks vs (.inr x) (K9 ns n c);obtain⟨y,j,r⟩:=W4 ns (n+1) [.int 1,.int 1,.int 1,.int 0,.int 3] hl (by lia) (by simp);obtain⟨b,rfl⟩:∃b,y=.int b:=by simp only[Aj,Aw,or_false] at j;rcases j with h|h|h|h|h<;>exact⟨_,h⟩
 obtain⟨g,d,e,q,o,u,t,m⟩:=putI ks vs (.inr x) ((a+b) % c) h1 h2;refine⟨(a+b) % c,.dct g (d.map .int),Hl _ (by lia),El _ i,⟨g,d,rfl,q,o,by lia⟩,?_⟩;have hk:ks.length<16777216:=by lia
 unfold Z9;rw[cO];unfold SK;simp[cF,XM ns n c hl (by lia) i,l,r,i,hk,h2,e,m]
inductive aC(M:Int->Prop):c6->Prop
 |number {n:Int}:0<=n->n<=999->aC M (.tup [.str "number",.int n])
 |two {x:String} {a b:Int}:x∈["over","plus","minus","times","least","most","less"]->M a->M b->aC M (.tup [.str x,.int a,.int b])
 |pick {c a b:Int}:M c->M a->M b->aC M (.tup [.str "pick",.int c,.int a,.int b])
 |load {p:Int}:0<=p->p<=63->aC M (.tup [.str "load",.int p])
 |take {p c a:Int}:0<=p->p<=63->M c->M a->aC M (.tup [.str "take",.int p,.int c,.int a])
 |store {p a:Int}:0<=p->p<=63->M a->aC M (.tup [.str "store",.int p,.int a])
 |put {p a c:Int}:0<=p->p<=63->M a->M c->aC M (.tup [.str "put",.int p,.int a,.int c])
theorem dF(ns:List Int)(n:Nat)(made:List Int)(hl:ns.length<=63)(l:n<800000)(o:0<made.length)(s:Sl):∃a b c,a∈made/\b∈made/\c∈made∧ZZ 3 1 (gN 3) WC (f2 cH (fV 2) (f2 oMax (fC (.int 0)) (f2 OW (f2 OW (f1 ZO (fV 2)) (fC (.int 1))) (cQ 3 [1] bX (aE (fV 0) (aO 1 (aE (fC (.int 6)) b9))))))) [.int 0,.int 1,.int 2] [] [.va (VN ns),.ow (XE n),.va (.lst (made.map .int))]=some ([.int a,.int b,.int c],[.va (VN ns),.ow (XE (n+3)),.va (.lst (made.map .int))]):=by
 have one:∀m,∃a∈made,WJ (made.map c6.int) (if(made.length:Int) - 1 - K9 ns m 6>0 then(made.length:Int) - 1 - K9 ns m 6 else 0)=some (.int a):=λm=>by
  have:=PU ns m (b:=6) (by decide)
  exact MY (by split<;>lia) (by split<;>lia)
 obtain⟨a,h,f⟩:=one n;obtain⟨b,g,e⟩:=one (n+1);obtain⟨c,hc,d⟩:=one (n+2);refine⟨a,b,c,h,g,hc,?_⟩;have k:=XM ns n 6 hl (by lia) (by decide);have j:=XM ns (n+1) 6 hl (by lia) (by decide);have i:=XM ns (n+2) 6 hl (by lia) (by decide);simp only[gt_iff_lt,Int.sub_pos] at f e d;simp[k,j,i,f,e,d]
def onC(x:String):Prop:=x= "load" ∨x= "take" ∨x= "store" ∨x= "put"
def PlOK(a:Int)(row:c6):Prop:=∀(x:String) (p:Int) (t:List c6),row=.tup (.str x:: .int p::t)->onC x->p<a
theorem P6{a p:Int}{x:String}{t:List c6}(h:p<a):PlOK a (.tup (.str x:: .int p::t)):=λy q u e _=>by simp only[c6.tup.injEq,Jj,c6.int.injEq] at e;lia
theorem D1{b:Int}{x:String}{t:List c6}(h:¬onC x):PlOK b (.tup (.str x::t)):=λy q u e a=>by simp only[c6.tup.injEq,Jj,c6.str.injEq,ZM] at e;rw[<-e.1] at a;exact absurd a h
theorem CI{x:String}(a:x∈["over","plus","minus","times","least","most","less"]):¬onC x:=λh=>by simp only[Aj,Aw,or_false] at a;rcases a with rfl|rfl|rfl|rfl|rfl|rfl|rfl<;>rcases h with h|h|h|h<;>exact absurd h (by decide)
theorem EJ{s1 s2:VS}{δ δ1:Ev}(h:s1 δ=some (.nx δ1)):cI s1 s2 δ=s2 δ1:=by rw[Vm,h,qS_n]
theorem nJ(ns:List Int)(n:Nat)(made:List Int)(sn:c6)(g:Int)(hl:ns.length<=63)(hn:n<700000)(l:K3 n sn)(H:0<g)(Q:g<=64):∃row u d,n<=u/\u<=n+10/\K3 u d/\aC (· ∈made) row/\PlOK g row/\V8 [VN ns,XE n,.lst (made.map .int),sn,.int g]=some (row,[XE u,d]):=by
  have t:=AO ns n 13 hl (by lia) (by decide);have Z:=PU ns n (b:=13) (by decide);have Y:=FC ns n (b:=13) (by decide);generalize K9 ns n 13=e at*;unfold V8;rw[cO];unfold OL;by_cases J:made.isEmpty=true∨e=0
  · have w := AO ns (n + 1) 2 hl (by lia) (by decide)
    have m:made.isEmpty=true∨(made.isEmpty=false/\e=0):=by
      cases C:made.isEmpty with
      |true=>exact .inl rfl
      | false => rcases J with h | h
                 · rw[C] at h;cases h
                 · exact .inr ⟨rfl,h⟩
    by_cases h2:K9 ns (n+1) 2=0
    · have K := AO ns (n + 2) 1000 hl (by lia) (by decide)
      obtain⟨y,v,r⟩:=W4 ns (n+3) [.int 0,.int 1,.int 2,.int 5,.int 999,.int (K9 ns (n+2) 1000)] hl (by lia) (by simp);obtain⟨b,rfl,F,E⟩:∃b,y=.int b/\0<=b/\b<=999:=by
        have:=PU ns (n+2) (b:=1000) (by decide)
        have:=FC ns (n+2) (b:=1000) (by decide)
        simp only[Aj,Aw,or_false] at v;rcases v with h|h|h|h|h|h<;>exact⟨_,h,by lia,by lia⟩
      refine⟨.tup [.str "number",.int b],n+4,sn,by lia,by lia,l.mono (by lia),.number F E,D1 (by unfold onC;decide),?_⟩;rcases m with h|⟨h,h'⟩
      · simp[cF,↓t,QJ,h,↓w,h2,↓K,r]
      · simp[cF,↓t,QJ,h,h',↓w,h2,↓K,r]
    · obtain ⟨p,d,k,j,f,i⟩ := F9 ns (n + 2) sn "load" g hl (by lia) (l.mono (by lia)) H
      refine⟨.tup [.str "load",.int p],n+4,d,by lia,by lia,f,.load k (by lia),P6 j,?_⟩;rcases m with h|⟨h,h'⟩
      · simp[cF,↓t,QJ,h,↓w,h2,i]
      · simp[cF,↓t,QJ,h,h',↓w,h2,i]
  · obtain⟨C,D⟩:=not_or.mp J
    have o:made.isEmpty=false:=by simpa using C
    have R:0<made.length:=by
      cases made with
      |nil=>cases o
      |cons=>simp
    obtain⟨a,b,c,q,I,hc,S⟩:=dF ns (n+1) made hl (by lia) R .no;rw[show cF [1,3] 9 [VN ns,XE n,.lst (made.map .int),sn,.int g]=[.va (VN ns),.ow (XE n),.va (.lst (made.map .int)),.ow sn,.va (.int g),.no,.no,.no,.no] from rfl,EJ (δ1:=[.va (VN ns),.ow (XE (n+1)),.va (.lst (made.map .int)),.ow sn,.va (.int g),.va (.int e),.no,.no,.no]) (by simp[↓t]),EJ (δ1:=[.va (VN ns),.ow (XE (n+1)),.va (.lst (made.map .int)),.ow sn,.va (.int g),.va (.int e),.no,.no,.no]) (by simp[QJ,o,D]),EJ (δ1:=[.va (VN ns),.ow (XE (n+4)),.va (.lst (made.map .int)),.ow sn,.va (.int g),.va (.int e),.va (.int a),.va (.int b),.va (.int c)]) (by simp[bL,S])]
    have L:(e=1∨e=2)∨e=3∨(e=4∨e=5)∨e=6∨e=7∨(8<=e/\e<=12):=by lia
    have pl:∀x:Rg,∃p d,0<=p/\p<=63/\p<g/\K3 (n+6) d/\∀s tl,cQ 5 [1,2] Z9 (aE (fV 0) (aO 1 (aO 3 (aE (fC (.str x)) (aE (fV 4) b9))))) (.va (VN ns):: .ow (XE (n+4))::s:: .ow sn:: .va (.int g)::tl)=some (.int p,.va (VN ns):: .ow (XE (n+6))::s:: .ow d:: .va (.int g)::tl):=λx=>by obtain⟨p,d,k,j,f,i⟩:=F9 ns (n+4) sn x g hl (by lia) (l.mono (by lia)) H;exact⟨p,d,k,by lia,j,f,λs tl=>by simp[i]⟩
    rcases L with h|h|h|h|h|h
    · have t12 : (decide (1 = e) || decide (2 = e)) = true := by rcases h with rfl | rfl <;> decide
      obtain⟨p,d,k,j,p2,f,i⟩:=pl "load";exact⟨.tup [.str "load",.int p],n+6,d,by lia,by lia,f,.load k j,P6 p2,by simp[↓i,t12]⟩
    · subst h
      obtain⟨p,d,k,j,p2,f,i⟩:=pl "take";exact⟨.tup [.str "take",.int p,.int c,.int a],n+6,d,by lia,by lia,f,.take k j hc q,P6 p2,by simp[↓i]⟩
    · have t45 : (decide (4 = e) || decide (5 = e)) = true := by rcases h with rfl | rfl <;> decide
      have z:¬e=3:=by lia
      have B:¬1=e:=by lia
      have A:¬2=e:=by lia
      obtain⟨p,d,k,j,p2,f,i⟩:=pl "store";exact⟨.tup [.str "store",.int p,.int a],n+6,d,by lia,by lia,f,.store k j q,P6 p2,by simp[↓i,z,B,A,t45]⟩
    · subst h
      obtain⟨p,d,k,j,p2,f,i⟩:=pl "put";exact⟨.tup [.str "put",.int p,.int a,.int c],n+6,d,by lia,by lia,f,.put k j q hc,P6 p2,by simp[↓i]⟩
    · subst h
      exact⟨.tup [.str "pick",.int c,.int a,.int b],n+4,sn,by lia,by lia,l.mono (by lia),.pick hc q I,D1 (by unfold onC;decide),by simp⟩
    · have T := AO ns (n + 4) 7 hl (by lia) (by decide)
      have q0:=PU ns (n+4) (b:=7) (by decide);have q1:=FC ns (n+4) (b:=7) (by decide);obtain⟨y,v,r⟩:=C0 (xs:=["over","plus","minus","times","least","most","less"].map λs:String=>c6.str (Bj s)) q0 (by simpa using q1);obtain⟨x,G,rfl⟩:=Cc.mp v;simp only[As,Cr] at r;have X:¬e=1:=by lia
      have W:¬e=2:=by lia
      have z:¬e=3:=by lia
      have V:¬e=4:=by lia
      have U:¬e=5:=by lia
      have N:¬e=6:=by lia
      have M:¬e=7:=by lia
      have B:¬1=e:=by lia
      have A:¬2=e:=by lia
      have P:¬4=e:=by lia
      have O:¬5=e:=by lia
      exact⟨.tup [.str x,.int a,.int b],n+5,sn,by lia,by lia,l.mono (by lia),.two G q I,D1 (CI G),by simp[z,N,M,B,A,P,O,↓T,r]⟩
inductive Kd where
 |w|p|n
 deriving DecidableEq
def Nm(kds:List Kd)(k:Kd)(a:Int):Prop:=0<=a/\kds[a.toNat]?=some k
theorem Nm.lt{kds:List Kd}{k:Kd}{a:Int}(h:Nm kds k a):a<kds.length:=by
 have:=(Ag.mp h.2).1
 have:=h.1
 lia
theorem Nm.snoc{kds:List Kd}{k j:Kd}{a:Int}(h:Nm kds k a):Nm (kds++[j]) k a:=⟨h.1,by rw[Ai (Ag.mp h.2).1];exact h.2⟩
theorem Nm.new{kds:List Kd}{k:Kd}:Nm (kds++[k]) k kds.length:=⟨by lia,by simp⟩
noncomputable def JW(k:Kd):c6->Kd
 |.tup (.str x::_)=>if x= "store" ∨x= "put" then .n else k
 |_=>.n
theorem aC.imp{M M':Int->Prop}{row:c6}(h:aC M row)(f:∀a,M a->M' a):aC M' row:=by
 cases h with
 |number a b=>exact .number a b
 |two a b c=>exact .two a (f _ b) (f _ c)
 |pick a b c=>exact .pick (f _ a) (f _ b) (f _ c)
 |load a b=>exact .load a b
 |take a b c d=>exact .take a b (f _ c) (f _ d)
 |store a b c=>exact .store a b (f _ c)
 |put a b c d=>exact .put a b (f _ c) (f _ d)
theorem aC.hard{M:Int->Prop}{row:c6}(h:aC M row):row.hard=true:=by
 cases h<;>simp[c6.hard,TU]
theorem JE(ns:List Int)(b:Int)(hl:ns.length<=63)(g:0<b)(fe:VF)(x:Sl)(tail:Ev)(c:Nat)(a:c=tail.length+2)(f:∀n d,n<800000->fe ([.va (VN ns),.ow (XE n)]++tail++[.va d])=some (.int (K9 ns n b),[.va (VN ns),.ow (XE (n+1))]++tail++[.va d])):∀(ds:List c6) (n:Nat) (acc:List c6),n+ds.length<800000->acc.length+ds.length<1000000->∃ws:List Int,ws.length=ds.length/\(∀w∈ws,0<=w/\w<b)∧ZZ c 1 (gN c) WC fe ds acc ([.va (VN ns),.ow (XE n)]++tail)=some (acc++ws.map .int,[.va (VN ns),.ow (XE (n+ds.length))]++tail)
 |[],n,acc,_,_=>⟨[],rfl,(λ_ h=>nomatch h),by simp⟩
 | d :: ds,n,acc,i,j => by
  obtain⟨ws,h1,h2,k⟩:=JE ns b hl g fe x tail c a f ds (n+1) (acc++[.int (K9 ns n b)]) (by simp at i;lia) (by simp at j⊢;lia);refine⟨K9 ns n b::ws,by simp[h1],λw hw=>?_,?_⟩
  ·rcases Aj.mp hw with z|z
   ·rw[z];exact⟨PU ns n g,FC ns n g⟩
   ·exact h2 w z
  ·have e := f n d (by simp at i;lia)
   have l:([Sl.va (VN ns),Sl.ow (XE n)]++tail++[Sl.no]).set c (.va d)=[Sl.va (VN ns),Sl.ow (XE n)]++tail++[Sl.va d]:=by rw[Ff _ _ (by simp[a])];simp[a]
   have o:([Sl.va (VN ns),Sl.ow (XE (n+1))]++tail++[Sl.va d]).take c=[Sl.va (VN ns),Sl.ow (XE (n+1))]++tail:=by rw[Cz (by simp[a]),Cg (by simp[a])]
   have m:acc.length<16777216:=by simp at j;lia
   simp only[RO,BF,NE,l,J3,Te,BU,e,BV,if_pos m,o,k];simp[show n+1+ds.length=n+(ds.length+1) by lia]
@[simp] theorem wT{i:Int}:F0 (.int i)=some (.int (-i)):=(rfl)
theorem RP{ds:List c6}{k:Nat}(h:k<=ds.length):UN ds (some (k:Int)) none=ds.drop k:=by unfold UN;rw[HT.CA,HT.GH,Pn h,Cg (by simp)]
theorem PR{ds:List c6}{k:Nat}:UN ds none (some (k:Int))=ds.take k:=by
 unfold UN;rw[HT.CA,HT.GH];simp only[Lp,Nat.sub_zero];by_cases h:k<=ds.length
 ·rw[Pn h]
 ·rw[Nat.min_eq_right (by lia),Cg (by lia),Cg (by lia)]
@[simp] theorem uL{d:c6}{ds:List c6}:UN (d::ds) (some 1) none=ds:=RP (k:=1) (by simp)
@[simp] theorem sJ{d e:c6}{ds:List c6}:UN (d::e::ds) (some 2) none=ds:=RP (k:=2) (by simp)
@[simp] theorem vM{ds:List c6}:UN ds none (some 2)=ds.take 2:=PR (k:=2)
@[simp] theorem vi{ds:List c6}:UN ds none (some 1)=ds.take 1:=PR (k:=1)
@[simp] theorem wV{α:Type}{xs:List α}{x:α}:WJ (xs++[x]) (-1)=some x:=by
 unfold WJ JQ;rw[if_neg (by decide),if_pos (by simp;lia)];have e:(-1+((xs++[x]).length:Int)).toNat=xs.length:=by simp;lia
 show(xs++[x])[(-1+((xs++[x]).length:Int)).toNat]?=some x;rw[e];simp
@[simp] theorem uD{α:Type}{x:α}{xs:List α}:WJ (x::xs) 0=some x:=by rw[X1 (by decide) (by simp)];rfl
@[simp] theorem tU{α:Type}{x y:α}{xs:List α}:WJ (x::y::xs) 1=some y:=by rw[X1 (by decide) (by simp;lia)];rfl
@[simp] theorem v6{α:Type}{x y z:α}{xs:List α}:WJ (x::y::z::xs) 2=some z:=by rw[X1 (by decide) (by simp;lia)];rfl
@[simp] theorem sZ{α:Type}{x y z u:α}{xs:List α}:WJ (x::y::z::u::xs) 3=some u:=by rw[X1 (by decide) (by simp;lia)];rfl
theorem Zv{k:Kd}{x:String}{t:List c6}(a:x∉["store","put"]):JW k (.tup (.str x::t))=k:=by simp only[Aj,Aw,or_false,not_or] at a;simp[JW,ZM,a]
theorem iU{k:Kd}{x:String}{t:List c6}(a:x= "store" ∨x= "put"):JW k (.tup (.str x::t))=.n:=by
 rcases a with rfl|rfl<;>simp[JW,ZM]
theorem MA{M:Int->Prop}{row:c6}(h:aC M row):∃(x:String) (t:List c6),row=.tup (.str x::t)/\x∉["wide","gather","shuffle"]:=by
 cases h with
 |two a _ _=>
  simp only[Aj,Aw,or_false] at a;rcases a with rfl|rfl|rfl|rfl|rfl|rfl|rfl<;>exact⟨_,_,rfl,by decide⟩
 |_=>exact⟨_,_,rfl,by decide⟩
@[simp] theorem xm(n lo hi:Int):a9 [.int n,.int lo,.int hi]=some (.bl (decide (lo<=n)&&decide (n<=hi)),[]):=by unfold a9;rw[cO];unfold QN;simp[cF];by_cases h:lo<=n<;>simp[h]
theorem Yd{x:String}(h:x∈["over","plus","minus","times","least","most","less"]):aD [.str x]=some (.tup [.str "row",.str "row"],[]):=by simp only[Aj,Aw,or_false] at h;rcases h with rfl|rfl|rfl|rfl|rfl|rfl|rfl<;>kernel_rfl
@[simp] theorem wI:aD [.str "number"]=some (.tup [.str "word"],[]):=by kernel_rfl
@[simp] theorem wA:aD [.str "pick"]=some (.tup [.str "row",.str "row",.str "row"],[]):=by kernel_rfl
@[simp] theorem vO:aD [.str "load"]=some (.tup [.str "place"],[]):=by kernel_rfl
@[simp] theorem uo:aD [.str "take"]=some (.tup [.str "place",.str "row",.str "row"],[]):=by kernel_rfl
@[simp] theorem sH:aD [.str "store"]=some (.tup [.str "place",.str "row"],[]):=by kernel_rfl
@[simp] theorem vG:aD [.str "put"]=some (.tup [.str "place",.str "row",.str "row"],[]):=by kernel_rfl
def Ab(b:List Bool)(a:Int):Prop:=0<=a/\b[a.toNat]?=some true
theorem Up{b:List Bool}{a:Int}(h:Ab b a):YO [.int a,.lst (b.map .bl)]=some (.bl true,[]):=by
 have d:=(Ag.mp h.2).1;have c:=h.1;have h1:a<=(b.length:Int) - 1:=by lia
 have h2:WJ (b.map c6.bl) a=some (.bl true):=by rw[X1 c (by simp;lia)];simp[h.2]
 unfold YO;rw[cO];unfold QS;simp[cF,c,h1,h2]
theorem X9{b:List Bool}{a:Int}(h:Ab b a):UW [.str "row",.int a,.lst (b.map .bl)]=some (.bl true,[]):=by unfold UW;rw[cO];unfold LH;simp[cF,Up h]
theorem Xx{d:c6}{a:Int}(h:0<=a)(h':a<=999):UW [.str "word",.int a,d]=some (.bl true,[]):=by unfold UW;rw[cO];unfold LH;simp[cF,aK,h,h']
theorem T5{d:c6}{a:Int}(h:0<=a)(h':a<=63):UW [.str "place",.int a,d]=some (.bl true,[]):=by unfold UW;rw[cO];unfold LH;simp[cF,T3,h,h']
@[simp] theorem uB:OB []=some []:=(rfl)
@[simp] theorem oY{b:Bool}{ds:List c6}:OB (.bl b::ds)=(OB ds).map λks=>b::ks:=(rfl)
@[simp] theorem v8{g:List Bool->Bool}{ds:List c6}:BG g (.lst ds)=(OB ds).map λks=>.bl (g ks):=(rfl)
@[simp] theorem wM{ds:List c6}:RF ds []=[]:=by cases ds<;>rfl
@[simp] theorem wC{d e:c6}{ds es:List c6}:RF (d::ds) (e::es)=.tup [d,e]::RF ds es:=(rfl)
theorem FJ{e:List Bool}{row:c6}(h:aC (Ab e) row):WU [row,.lst (e.map .bl)]=some (.bl true,[]):=by
 unfold WU;rw[cO];unfold LI;cases h with
 |number a b=>simp[cF,bL,Xx a b]
 |two f a b=>simp[cF,bL,Yd f,X9 a,X9 b]
 |pick a b c=>simp[cF,bL,X9 a,X9 b,X9 c]
 |load a b=>simp[cF,bL,T5 a b]
 |take a b c d=>simp[cF,bL,T5 a b,X9 c,X9 d]
 |store a b c=>simp[cF,bL,T5 a b,X9 c]
 |put a b c d=>simp[cF,bL,T5 a b,X9 c,X9 d]
theorem XJ(a:Nat)(fe:VF)(δ:Ev)(f:c6->c6)(b:δ.length=a):∀(ds acc:List c6),(∀d∈ds,fe (δ++[Sl.va d])=some (f d,δ++[Sl.va d]))->acc.length+ds.length<16777216->ZZ a 1 (gN a) WC fe ds acc δ=some (acc++ds.map f,δ)
 |[],acc,_,_=>by simp
 |d::ds,acc,h,hl=>by
  have i:(δ++[Sl.no]).set a (.va d)=δ++[Sl.va d]:=by rw[Ff _ _ (by lia)];simp[b]
  have k:(δ++[Sl.va d]).take a=δ:=by rw[Cz (by lia),Cg (by lia)]
  have j:acc.length<16777216:=by simp at hl;lia
  have c:=XJ a fe δ f b ds (acc++[f d]) (λe g=>h e (Ar _ g)) (by simp at hl⊢;lia);simp only[RO,BF,NE,i,J3,Te,BU,h d Ay,BV,if_pos j,k,c];simp
theorem E2{α:Type}:∀ds:List α,OB (ds.map λ_=>.bl true)=some (ds.map λ_=>true)
 |[]=>rfl
 |d::ds=>by simp[E2 ds]
@[simp] theorem xn{α β:Type}(f:α->β)(ds:List α):OB (ds.map ((λ_=>c6.bl true)∘f))=some (ds.map λ_=>true):=E2 ds
def Wd(w:Int):Prop:=0<=w/\w<=999
theorem Yx{a b:Int}(e:Wd a)(d:Wd b):0<=a*b/\a*b<=998001:=by obtain⟨h,g⟩:=e;obtain⟨c,f⟩:=d;exact⟨Int.mul_nonneg h c,Int.le_trans (Int.mul_le_mul g f c (by decide)) (by decide)⟩
theorem lD{x:String}(c:x∈["over","plus","minus","times","least","most","less"]){a b:Int}(f:Wd a)(d:Wd b):∃r,WM [.str x,.lst [.int a,.int b]]=some (r,[])/\((r=.non/\x= "over" /\b=0)∨∃w,r=.int w/\Wd w):=by
 have ab:=Yx f d;obtain⟨g,o⟩:=f;obtain⟨n,m⟩:=d;have hc:cMul a b=true:=by simp[cMul];lia
 have k: -18446744073709551616<a/\a<18446744073709551616∨ -18446744073709551616<b/\b<18446744073709551616:=by lia
 unfold WM;rw[cO];unfold LG;simp only[Aj,Aw,or_false] at c;rcases c with rfl|rfl|rfl|rfl|rfl|rfl|rfl
 ·by_cases h:b=0
  ·subst h
   have e:UX [.int a,.int 0]=some (.non,[]):=by unfold UX;rw[cO];unfold LK;simp[cF]
   exact⟨.non,by simp[cF,VQ,bN,ZM,VZ,e,c6.hard],.inl ⟨rfl,rfl,rfl⟩⟩
  ·have j : 0 < b := by lia
   have i:b<1073741824:=by lia
   have q0:0<=a/b:=Pk g (by lia);have q1:a/b<=a:=Int.ediv_le_self _ g;have l:a/b<9223372036854775808:=by lia
   have e:UX [.int a,.int b]=some (.int (a/b),[]):=by unfold UX;rw[cO];unfold LK;simp[cF,h,cDiv,j,i]
   exact⟨.int (a/b),by simp[cF,VQ,bN,ZM,VZ,e,c6.hard],.inr ⟨_,rfl,q0,by lia⟩⟩
 ·have e:N7 [.int a,.int b]=some (.int ((a+b) % 1000),[]):=by unfold N7;rw[cO];unfold DG;simp[cF,aK]
  exact⟨.int ((a+b) % 1000),by simp[cF,VQ,bN,ZM,VZ,e,c6.hard],.inr ⟨_,rfl,by lia,by lia⟩⟩
 ·have e:RJ [.int a,.int b]=some (.int ((a - b) % 1000),[]):=by unfold RJ;rw[cO];unfold HJ;simp[cF,aK]
  exact⟨.int ((a - b) % 1000),by simp[cF,VQ,bN,ZM,VZ,e,c6.hard],.inr ⟨_,rfl,by lia,by lia⟩⟩
 ·have e:RK [.int a,.int b]=some (.int (a*b % 1000),[]):=by unfold RK;rw[cO];unfold HK;simp[cF,aK,hc]
  exact⟨.int (a*b % 1000),by simp[cF,VQ,bN,ZM,VZ,e,c6.hard],.inr ⟨_,rfl,by lia,by lia⟩⟩
 ·have e:RH [.int a,.int b]=some (.int (if a<=b then a else b),[]):=by
   unfold RH;rw[cO];unfold HI;by_cases h:a<=b
   ·have h' : ¬ b < a := by lia
    simp[cF,h,h']
   ·have h' : b < a := by lia
    simp[cF,h,h']
  exact⟨.int (if a<=b then a else b),by simp[cF,VQ,bN,ZM,VZ,e,c6.hard],.inr ⟨_,rfl,by split<;>lia,by split<;>lia⟩⟩
 ·have e:N5 [.int a,.int b]=some (.int (if a<=b then b else a),[]):=by
   unfold N5;rw[cO];unfold DE;by_cases h:a<b
   ·have h' : a <= b := by lia
    simp[cF,h,h']
   ·by_cases h2:a=b
    ·subst h2
     simp[cF]
    ·have h' : ¬ a <= b := by lia
     simp[cF,h,h']
  exact⟨.int (if a<=b then b else a),by simp[cF,VQ,bN,ZM,VZ,e,c6.hard],.inr ⟨_,rfl,by split<;>lia,by split<;>lia⟩⟩
 ·have e:N3 [.int a,.int b]=some (.int (if a<b then 1 else 0),[]):=by unfold N3;rw[cO];unfold DD;by_cases h:a<b<;>simp[cF,h]
  exact⟨.int (if a<b then 1 else 0),by simp[cF,VQ,bN,ZM,VZ,e,c6.hard],.inr ⟨_,rfl,by split<;>lia,by split<;>lia⟩⟩
theorem GD(k:Nat):(ZF 0 k).length=k:=by simp[ZF]
theorem E8{cs:List Int}{sure:Int}(b:∀c∈cs,Wd c)(h1:sure<=cs.length)(h2:cs.length<=64):YN [.lst (cs.map .int),.int sure]=some (.bl true,[]):=by
 have e:=XJ 0 (cQ 3 [] a9 (aE (fV 0) (aE (fC (.int 0)) (aE (fC aK) b9)))) [] (λ_=>.bl true) rfl (cs.map .int) [] (λx d=>by
  obtain⟨w,a,rfl⟩:=Cc.mp d;have:=b w a
  simp[aK,this.1,this.2]) (by simp;lia)
 have f:(cs.length:Int)<=64:=by lia
 unfold YN;rw[cO];unfold QM;simp only[Cd] at e;simp[cF,T2,h1,f,bL,e]
theorem gT(ns:List Int)(n:Nat)(sure:Int)(hl:ns.length<=63)(w:n<10000)(x:0<=sure)(h1:sure<=64):∃(cs:List Int) (f:Nat),(∀c∈cs,Wd c)/\sure<=cs.length/\cs.length<=64/\f<=n+67/\XY [VN ns,XE n,.int sure]=some (.lst (cs.map .int),[XE f]):=by
 have r:=XM ns n 9 hl (by lia) (by decide);have u:=PU ns n (b:=9) (by decide);obtain⟨y,g,p⟩:=W4 ns (n+1) [.int sure,.int (if sure+K9 ns n 9<64 then sure+K9 ns n 9 else 64),.int 64] hl (by lia) (by simp);obtain⟨m,rfl,t,s⟩:∃m:Int,y=.int m/\sure<=m/\m<=64:=by
  simp only[Aj,Aw,or_false] at g;rcases g with h|h|h
  ·exact⟨_,h,by lia,by lia⟩
  ·exact⟨_,h,by split<;>lia,by split<;>lia⟩
  ·exact⟨_,h,by lia,by lia⟩
 obtain⟨z,hz,o⟩:=W4 ns (n+2) [.int 2,.int 4,.int 1000] hl (by lia) (by simp);obtain⟨b,rfl,i,A⟩:∃b:Int,z=.int b/\0<b/\b<=1000:=by simp only[Aj,Aw,or_false] at hz;rcases hz with h|h|h<;>exact⟨_,h,by lia,by lia⟩
 have a:=GD m.toNat;obtain⟨ws,k,j,e⟩:=JE ns b hl i (cQ 3 [1] bX (aE (fV 0) (aO 1 (aE (fV 2) b9)))) .no [.va (.int b)] 3 rfl (λq d v=>by simp[XM ns q b hl (by lia) i]) (ZF 0 m.toNat) (n+3) [] (by rw[a];lia) (by rw[a];simp;lia);simp only[Cd,a,Cy] at e;rw[a] at k;have l:(-4611686018427387904:Int)<=m/\m<4611686018427387904:=by lia
 refine⟨ws,n+3+m.toNat,λc hc=>?_,by lia,by lia,by lia,?_⟩
 ·have:=j c hc
  exact⟨by lia,by lia⟩
 ·unfold XY
  rw[cO];unfold SI;simp[cF,r,p,o,l,bL,e]
theorem FO:∀(ks:List aG) (ws:List c6) (i:Nat) (k:aG),ks.Nodup->ks.length=ws.length->ks[i]?=some k->bN ks ws k=ws[i]?
 |[],_,i,k,_,_,e=>by simp at e
 |k'::ks,[],i,k,_,hl,_=>by simp at hl
 |k'::ks,w::ws,0,k,_,_,e=>by simp at e;simp[bN,e]
 |k'::ks,w::ws,i+1,k,b,hl,e=>by
  have c:ks[i]?=some k:=by simpa using e
  have a:¬k'=k:=λz=>(Cv.mp b).1 (by rw[z];exact Cp c);have:=FO ks ws i k (Cv.mp b).2 (by simpa using hl) c
  simp[bN,a,this]
noncomputable def cnt:c6->Nat
 |.tup (.str x::_)=>if x= "number" ∨x= "load" then 0 else if x= "store" then 1 else if x= "pick" then 3 else 2
 |_=>0
theorem HD{x:String}(b:x∈["over","plus","minus","times","least","most","less"]){y:String}(a:(["over","plus","minus","times","least","most","less"].contains y)=false):(¬x=y)/\¬y=x:=by
 have h:¬x=y:=λe=>by subst e;rw[List.contains_iff_mem.mpr b] at a;cases a
 exact⟨h,λe=>h e.symm⟩
theorem DQ{M:Int->Prop}{row:c6}(h:aC M row):∃as:List Int,(∀a∈as,M a)/\as.length=cnt row/\Z8 [row]=some (.lst (as.map .int),[])/\ZH [row]=some (.lst (as.map .int),[]):=by
 cases h with
 | @number n _ _=>
  refine⟨[],(λ_ h=>nomatch h),by kernel_rfl,?_,?_⟩
  ·kernel_rfl
  ·kernel_rfl
 | @two x a b e d f=>
  refine⟨[a,b],by simp[d,f],?_,?_,?_⟩
  ·simp only[Aj,Aw,or_false] at e
   rcases e with rfl|rfl|rfl|rfl|rfl|rfl|rfl<;>kernel_rfl
  ·simp only[Aj,Aw,or_false] at e
   rcases e with rfl|rfl|rfl|rfl|rfl|rfl|rfl<;>kernel_rfl
  ·simp only[Aj,Aw,or_false] at e
   rcases e with rfl|rfl|rfl|rfl|rfl|rfl|rfl<;>kernel_rfl
 | @pick c a b hc d f=>
  refine⟨[c,a,b],by simp[hc,d,f],by kernel_rfl,?_,?_⟩
  ·kernel_rfl
  ·kernel_rfl
 | @load p _ _=>
  refine⟨[],(λ_ h=>nomatch h),by kernel_rfl,?_,?_⟩
  ·kernel_rfl
  ·kernel_rfl
 | @take p c a _ _ hc d=>
  refine⟨[c,a],by simp[hc,d],by kernel_rfl,?_,?_⟩
  ·kernel_rfl
  ·kernel_rfl
 | @store p a _ _ d=>
  refine⟨[a],by simp[d],by kernel_rfl,?_,?_⟩
  ·kernel_rfl
  ·kernel_rfl
 | @put p a c _ _ d hc=>
  refine⟨[a,c],by simp[d,hc],by kernel_rfl,?_,?_⟩
  ·kernel_rfl
  ·kernel_rfl
inductive Bl:List Kd->List c6->List Kd->Prop
 |nil {kds:List Kd}:Bl kds [] kds
 |cons {kds am:List Kd} {row:c6} {rows:List c6}:aC (Nm kds .w) row->Bl (kds++[JW .w row]) rows am->Bl kds (row::rows) am
theorem Bl.snoc{kds b:List Kd}{rows:List c6}{row:c6}(h:Bl kds rows b)(r:aC (Nm b .w) row):Bl kds (rows++[row]) (b++[JW .w row]):=by
 induction h with
 |nil=>exact .cons r .nil
 |cons a _ c=>exact .cons a (c r)
theorem Bl.len{kds a:List Kd}{rows:List c6}(h:Bl kds rows a):a.length=kds.length+rows.length:=by
 induction h with
 |nil=>simp
 |cons _ _ b=>simp only[b,Ao,Ax,Hg];lia
theorem Bl.all{kds c:List Kd}{rows:List c6}(h:Bl kds rows c):∀d∈rows,aC (Nm c .w) d:=by
 induction h with
 |nil=>intro d hd;cases hd
 | @cons kds c row rows a t b=>
  intro d hd;rcases Aj.mp hd with rfl|hd
  ·refine a.imp λx e => ?_
   have:∀{k k':List Kd} {rs:List c6},Bl k rs k'->Nm k .w x->Nm k' .w x:=by
    intro k k' rs h;induction h with
    |nil=>exact id
    |cons _ _ b=>exact λz=>b z.snoc
   exact this t e.snoc
  ·exact b d hd
theorem ON:∀ns:List Int,TW (ns.map .int)=some ns
 |[]=>rfl
 |i::ns=>by show(TW (ns.map .int)).map (λns=>i::ns)=_;rw[ON ns];rfl
theorem BP{n:Int}:∀{ns:List Int},n∈ns->∃j:Nat,T9 n ns=some j/\j<ns.length
 | i :: ns,h => by
  unfold T9;by_cases e:i=n
  ·rw[if_pos e];exact⟨0,rfl,by simp⟩
  ·rw[if_neg e]
   obtain⟨j,h1,h2⟩:=BP (ns:=ns) (by
    rcases Aj.mp h with z|z
    ·exact absurd z.symm e
    ·exact z)
   exact⟨j+1,by rw[h1];rfl,by simp;lia⟩
noncomputable def nst(ns:List Int)(n:Nat)(rows:List c6)(made:List Int)(sn:c6)(d:Int)(last:c6)(c:Int)(bs:List Int)(b a:Sl):Ev:=
 [.va (VN ns),.ow (XE n),.va (.lst rows),.va (.lst (made.map .int)),.ow sn,.va (.int d),.va last,.va (.int c),.ow (.lst (bs.map .int)),b,a]
theorem lG(ns:List Int)(n:Nat)(rows:List c6)(made:List Int)(sn:c6)(i:Int)(last:c6)(h:Int)(bs:List Int)(a:Int)(d:Sl)(hl:ns.length<=63)(s:n<700000)(e:a∈made)(t:bs.length<100):∃b∈made,∃r,YI (nst ns n rows made sn i last h bs (.va (.int a)) d)=some (.nx (nst ns (n+1) rows made sn i last h (bs++[b]) (.va (.int a)) r)):=by
 obtain⟨j,m,l⟩:=BP e;obtain⟨x,g,ex⟩:=W4 ns n [.int 1,.int 1,.int 1,.int 1,.int (-1),.int 0,.int 2] hl (by lia) (by simp);obtain⟨p,rfl⟩:∃p,x=.int p:=by simp only[Aj,Aw,or_false] at g;rcases g with rfl|rfl|rfl|rfl|rfl|rfl|rfl<;>exact⟨_,rfl⟩
 have hi:DT (.lst (made.map .int)) (.int a)=some (.int j):=by show(TW (made.map .int)).bind (λns=>(T9 a ns).map λj=>c6.int j)=_;rw[ON,Ak,m];rfl
 have c:bs.length<16777216:=by lia
 by_cases h1:0<=(j:Int)+p/\(j:Int)+p<made.length
 ·obtain⟨q,k,eq⟩:=MY (ns:=made) h1.1 h1.2
  by_cases h2:q=(rows.length:Int) - 1
  ·refine⟨a,e,.va (.int (j+p)),?_⟩
   unfold YI;simp[nst,hi,ex,h1.1,h1.2,eq,h2,c]
  ·refine⟨q,k,.va (.int (j+p)),?_⟩
   unfold YI;simp[nst,hi,ex,h1.1,h1.2,eq,h2,c]
 ·refine⟨a,e,.va (.int (j+p)),?_⟩
  unfold YI;by_cases f:0<=(j:Int)+p
  ·have o : ¬ (j : Int) + p < made.length := λz => h1 ⟨f,z⟩
   simp[nst,hi,ex,f,o,c]
  ·simp[nst,hi,ex,f,c]
theorem DS(ns:List Int)(rows:List c6)(made:List Int)(sn:c6)(h:Int)(last:c6)(g:Int)(hl:ns.length<=63):∀(as:List Int) (n:Nat) (bs:List Int) (i d:Sl),n+as.length<700000->(∀a∈as,a∈made)->bs.length+as.length<100->∃cs:List Int,(∀c∈cs,c∈made)/\cs.length=as.length/\∃f l,YQ (gN 9) YI (as.map .int) (nst ns n rows made sn h last g bs i d)=some (.nx (nst ns (n+as.length) rows made sn h last g (bs++cs) f l))
 |[],n,bs,i,d,_,_,_=>⟨[],by simp,rfl,i,d,by simp⟩
 | a :: as,n,bs,i,d,q,m,r => by
  simp only[Ax] at q r;obtain⟨b,k,j,e⟩:=lG ns n rows made sn h last g bs a d hl (by lia) (m a Ay) (by lia);obtain⟨cs,h1,h2,f,l,o⟩:=DS ns rows made sn h last g hl as (n+1) (bs++[b]) (.va (.int a)) j (by lia) (λx p=>m x (Ar _ p)) (by simp;lia);refine⟨b::cs,λc hc=>?_,by simp[h2],f,l,?_⟩
  ·rcases Aj.mp hc with rfl|hc
   ·exact k
   ·exact h1 c hc
  rw[As,XN,NE,VE,show(nst ns n rows made sn h last g bs i d).set 9 (.va (.int a))=nst ns n rows made sn h last g bs (.va (.int a)) d from rfl,e,VH,o];simp[Qm,Nu 1]
theorem cel4{x:String}(h:onC x):(decide ("load"=x) || (decide ("take"=x) || (decide ("store"=x) || decide ("put"=x))))=true:=by
 rcases h with rfl|rfl|rfl|rfl<;>decide
theorem snM{m k:Nat}{d:c6}(h:Sn m d)(hk:m<=k):Sn k d:=by obtain⟨ks,vs,e,h1,h2,a⟩:=h;exact⟨ks,vs,e,h1,h2,by lia⟩
theorem M3(ns:List Int)(n:Nat)(rows:List c6)(made:List Int)(sn:c6)(b:Int){x:String}{p:Int}{as:List Int}{m:Nat}(hl:ns.length<=63)(D:n<600000)(E:m<8000000)(t:Sn m sn)(l:0<b)(s:onC x)(A:WJ rows (-1)=some (.tup (.str x:: .int p::as.map .int)))(u:∀a∈as,a∈made)(H:as.length<=3):∃(q:Int) (cs:List Int) (f:c6),0<=q/\q<b/\(∀c∈cs,c∈made)/\cs.length=as.length/\Sn (m+1) f/\Y2 [VN ns,XE n,.lst rows,.lst (made.map .int),sn,.int b]=some (.tup (.str x:: .int q::cs.map .int),[XE (n+as.length),f]):=by
 obtain⟨cs,h1,h2,B,o,e⟩:=DS ns rows made sn b (.tup (.str x:: .int p::as.map .int)) 2 hl as n [] .no .no (by lia) u (by simp;lia);simp only[nst,Cd,Cr] at e;obtain⟨ks,vs,rfl,r,j,C⟩:=t;obtain⟨g,d,pe,y,w,G,F,v⟩:=putI ks vs (.inr (x:Rg)) ((p+1) % b) r j;have hk:ks.length<16777216:=by lia
 refine⟨(p+1) % b,cs,.dct g (d.map .int),Hl _ (by lia),El _ l,h1,h2,⟨g,d,rfl,y,w,by lia⟩,?_⟩;unfold Y2;rw[cO,T6.eq_1];have h:=cel4 s;have z:UN (.str x:: .int p::as.map c6.int) (some 2) none=as.map c6.int:=by
  have:=RP (ds:=.str x:: .int p::as.map c6.int) (k:=2) (by simp)
  simpa using this
 have i:2+cs.length<=16777216:=by lia
 simp[cF,A,h,z,e,l,hk,j,pe,v,i]
theorem off4{x:String}(h:¬onC x):(¬x= "load" /\¬ "load"=x)/\(¬x= "take" /\¬ "take"=x)/\(¬x= "store" /\¬ "store"=x)/\¬x= "put" /\¬ "put"=x:=by refine⟨⟨λz=>h (.inl z),λz=>h (.inl z.symm)⟩,⟨λz=>h (.inr (.inl z)),λz=>h (.inr (.inl z.symm))⟩,⟨λz=>h (.inr (.inr (.inl z))),λz=>h (.inr (.inr (.inl z.symm)))⟩,λz=>h (.inr (.inr (.inr z))),λz=>h (.inr (.inr (.inr z.symm)))⟩
theorem FX(ns:List Int)(n:Nat)(rows:List c6)(made:List Int)(sn:c6)(d:Int){x:String}{as:List Int}(hl:ns.length<=63)(s:n<600000)(m:¬onC x)(q:WJ rows (-1)=some (.tup (.str x::as.map .int)))(o:∀a∈as,a∈made)(t:as.length<=3):∃cs:List Int,(∀c∈cs,c∈made)/\cs.length=as.length/\Y2 [VN ns,XE n,.lst rows,.lst (made.map .int),sn,.int d]=some (.tup (.str x::cs.map .int),[XE (n+as.length),sn]):=by
 obtain⟨cs,h1,h2,r,j,e⟩:=DS ns rows made sn d (.tup (.str x::as.map .int)) 1 hl as n [] .no .no (by lia) o (by simp;lia);simp only[nst,Cd,Cr] at e;refine⟨cs,h1,h2,?_⟩;unfold Y2;rw[cO,T6.eq_1];obtain⟨⟨_,i⟩,⟨_,h⟩,⟨_,g⟩,_,f⟩:=off4 m;have p:UN (.str x::as.map c6.int) (some 1) none=as.map c6.int:=by
  have:=RP (ds:=.str x::as.map c6.int) (k:=1) (by simp)
  simpa using this
 have l:UN (.str x::as.map c6.int) none (some 1)=[.str x]:=by
  have:=PR (ds:=.str x::as.map c6.int) (k:=1)
  simpa using this
 have b:1+cs.length<=16777216:=by lia
 simp[cF,q,i,h,g,f,p,l,e,b]
theorem mC(ns:List Int)(n:Nat)(rows:List c6)(made:List Int)(sn:c6)(j:Int){last:c6}{m:Nat}(hl:ns.length<=63)(o:n<600000)(t:m<8000000)(l:Sn m sn)(s:0<j)(C:j<=64)(r:WJ rows (-1)=some last)(ok:aC (· ∈made) last)(B:∀k,last≠ .tup [.str "number",.int k]):∃row w g,n<=w/\w<=n+3/\Sn (m+1) g/\aC (· ∈made) row/\Y2 [VN ns,XE n,.lst rows,.lst (made.map .int),sn,.int j]=some (row,[XE w,g]):=by
 cases ok with
 |number=>exact absurd rfl (B _)
 | @two x a b A i y=>
  obtain⟨cs,h1,h2,e⟩:=FX ns n rows made sn j (x:=x) (as:=[a,b]) hl o (CI A) r (by simp[i,y]) (by simp);match cs,h2 with
  |[c,d],_=>exact⟨_,n+2,sn,by lia,by lia,snM l (by lia),.two A (h1 c (by simp)) (h1 d (by simp)),e⟩
 | @pick c a b hc i y=>
  obtain⟨cs,h1,h2,e⟩:=FX ns n rows made sn j (x:= "pick") (as:=[c,a,b]) hl o (λz=>by rcases z with z|z|z|z<;>exact absurd z (by decide)) r (by simp[i,y,hc]) (by simp);match cs,h2 with
  |[c,d,f],_=>exact⟨_,n+3,sn,by lia,by lia,snM l (by lia),.pick (h1 c (by simp)) (h1 d (by simp)) (h1 f (by simp)),e⟩
 | @load p v u=>
  obtain⟨q,cs,g,q0,q1,h1,h2,h,e⟩:=M3 ns n rows made sn j (x:= "load") (p:=p) (as:=[]) hl o t l s (.inl rfl) r (by simp) (by simp);match cs,h2 with
  |[],_=>exact⟨_,n+0,g,by lia,by lia,h,.load q0 (by lia),e⟩
 | @take p c a v u hc i=>
  obtain⟨q,cs,g,q0,q1,h1,h2,h,e⟩:=M3 ns n rows made sn j (x:= "take") (p:=p) (as:=[c,a]) hl o t l s (.inr (.inl rfl)) r (by simp[hc,i]) (by simp);match cs,h2 with
  |[c,d],_=>exact⟨_,n+2,g,by lia,by lia,h,.take q0 (by lia) (h1 c (by simp)) (h1 d (by simp)),e⟩
 | @store p a v u i=>
  obtain⟨q,cs,g,q0,q1,h1,h2,h,e⟩:=M3 ns n rows made sn j (x:= "store") (p:=p) (as:=[a]) hl o t l s (.inr (.inr (.inl rfl))) r (by simp[i]) (by simp);match cs,h2 with
  |[c],_=>exact⟨_,n+1,g,by lia,by lia,h,.store q0 (by lia) (h1 c (by simp)),e⟩
 | @put p a c v u i hc=>
  obtain⟨q,cs,g,q0,q1,h1,h2,h,e⟩:=M3 ns n rows made sn j (x:= "put") (p:=p) (as:=[a,c]) hl o t l s (.inr (.inr (.inr rfl))) r (by simp[i,hc]) (by simp);match cs,h2 with
  |[c,d],_=>exact⟨_,n+2,g,by lia,by lia,h,.put q0 (by lia) (h1 c (by simp)) (h1 d (by simp)),e⟩
structure RI(rows:List c6)(made:List Int)(kds:List Kd):Prop where
 bl:Bl [] rows kds
 ex:∀a,a∈made↔Nm kds .w a
 ml:made.length<=rows.length
theorem RI.len{rows:List c6}{made:List Int}{kds:List Kd}(h:RI rows made kds):kds.length=rows.length:=by
 have:=h.bl.len
 simpa using this
theorem oQ{kds:List Kd}{k:Kd}{a:Int}:Nm (kds++[k]) .w a↔Nm kds .w a∨(k=.w/\a=kds.length):=by
 constructor
 ·intro h
  have b:=h.1;have hl:=h.lt;rw[Ao,Dh] at hl;by_cases hi:a.toNat<kds.length
  ·exact .inl ⟨b,by have:=h.2;rwa[Ai hi] at this⟩
  ·have hi : a.toNat = kds.length := by lia
   have e:=h.2;rw[hi] at e;simp at e;exact .inr ⟨e,by lia⟩
 ·rintro (h|⟨rfl,rfl⟩)
  ·exact h.snoc
  ·exact Nm.new
theorem RI.more{rows:List c6}{made:List Int}{kds:List Kd}{row:c6}(h:RI rows made kds)(r:aC (· ∈made) row):RI (rows++[row]) (if JW .w row=.w then made++[(rows.length:Int)] else made) (kds++[JW .w row]):=by
 refine⟨h.bl.snoc (r.imp λa b=>(h.ex a).mp b),λa=>?_,?_⟩
 ·rw[oQ,<- h.ex a,h.len]
  split
  ·rename_i e
   simp[e]
  ·rename_i e
   simp[e]
 ·have:=h.ml
  split<;>simp<;>lia
theorem RI.last{rs:List c6}{last:c6}{made:List Int}{kds:List Kd}(h:RI (rs++[last]) made kds):aC (· ∈made) last:=(h.bl.all last (by simp)).imp λa b=>(h.ex a).mpr b
noncomputable def NH(ns:List Int)(n:Nat)(b c:Int)(rows:List c6)(made:List Int)(sn:c6)(a:Sl):Ev:=
 [.va (VN ns),.ow (XE n),.va (.int b),.va (.int c),.ow (.lst rows),.ow (.lst (made.map .int)),.ow sn,a]
theorem JL:∀vs:List Int,TU (vs.map .int)=true
 |[]=>rfl
 |_::vs=>by show((c6.int _).hard&&TU (vs.map .int))=true;rw[JL vs];rfl
theorem CC{m:Nat}{sn:c6}(h:Sn m sn):SQ sn=true:=by obtain⟨ks,vs,rfl,_⟩:=h;exact JL vs
theorem BC{row:c6}(x:String)(t:List c6)(e:row=.tup (.str x::t)):JW .w row=.w↔ ¬(x= "store" ∨x= "put"):=by
 subst e;by_cases h:x= "store" ∨x= "put"
 ·rw[iU h];simp[h]
 ·have : x ∉ ["store","put"] := by simpa using h
  rw[Zv this];simp[h]
theorem lZ(ns:List Int)(n:Nat)(r s:Int){rows:List c6}{made:List Int}{kds:List Kd}{sn:c6}{m:Nat}(B:Sl)(hl:ns.length<=63)(J:n<600000)(K:m<8000000)(v:Sn m sn)(I:0<s)(w:s<=64)(R:RI rows made kds)(C:rows≠[])(N:rows.length<1000):∃q D L h a,RI q D L/\rows.length<=q.length/\((rows.length:Int)<=r->(q.length:Int)<=r)/\q.length<=rows.length+1/\n<=h/\h<=n+3/\Sn (m+1) a/\YJ (NH ns n r s rows made sn B)=some (.nx (NH ns h r s q D a B)):=by
 obtain⟨rs,last,rfl⟩:∃rs last,rows=rs++[last]:=⟨rows.dropLast,rows.getLast C,(List.dropLast_concat_getLast C).symm⟩;have ok:=R.last;have p:=PM rs last;have A:made.length<16777216:=by have:=R.ml;lia
 have f:(rs++[last]).length<16777216:=by lia
 generalize M:rs++[last]=rows at*;obtain⟨x,t,o,_⟩:=MA ok;by_cases h1:(rows.length:Int)<r
 ·by_cases h2:x= "number"
  ·refine ⟨rows,made,kds,n,sn,R,Au _,id,by lia,by lia,by lia,snM v (by lia),?_⟩
   unfold YJ;simp[NH,h1,p,o,h2]
  ·obtain ⟨row,h,a,H,G,i,c,e⟩ := mC ns n rows made sn s hl J K v I w p ok (λk z => by rw [o] at z;simp [ZM] at z;exact h2 z.1)
   obtain⟨y,u,l,_⟩:=MA c;have g:=PM rows row;refine⟨_,_,_,h,a,R.more c,by simp,by simp;lia,by simp,H,G,i,?_⟩;unfold YJ;have key:=BC y u l;have b:=c.hard;rw[l] at b;have d:=CC i;by_cases j:y= "store" ∨y= "put"
   ·rw [if_neg (by rw [key];simp [j])]
    rcases j with rfl|rfl
    ·simp[NH,h1,p,o,h2,e,g,l,f,b,d]
    ·simp[NH,h1,p,o,h2,e,g,l,f,b,d]
   ·rw [if_pos (by rw [key];exact j)]
    have F:¬ "store"=y:=λz=>j (.inl z.symm);have E:¬ "put"=y:=λz=>j (.inr z.symm);simp[NH,h1,p,o,h2,e,g,l,f,b,d,F,E,A]
 ·refine ⟨rows,made,kds,n,sn,R,Au _,id,by lia,by lia,by lia,snM v (by lia),?_⟩
  unfold YJ;simp[NH,h1]
theorem Vu(ns:List Int)(b c:Int)(hl:ns.length<=63)(s:0<c)(j:c<=64):∀(ds:List c6) (n:Nat) {rows:List c6} {made:List Int} {kds:List Kd} {sn:c6} {m:Nat} (h:Sl),n+3*ds.length<600000->m+ds.length<8000000->Sn m sn->RI rows made kds->rows≠[]->rows.length+ds.length<1000->∃g k q i a f,RI g k q/\rows.length<=g.length/\((rows.length:Int)<=b->(g.length:Int)<=b)/\n<=i/\i<=n+3*ds.length/\Sn (m+ds.length) a/\YQ (gN 7) YJ ds (NH ns n b c rows made sn h)=some (.nx (NH ns i b c g k a f))
 |[],n,rows,made,kds,sn,m,h,_,_,p,R,_,_=>⟨rows,made,kds,n,sn,h,R,Au _,id,by lia,by simp,p,by simp⟩
 |d::ds,n,rows,made,kds,sn,m,h,w,x,p,R,t,hz=>by simp only[Ax] at w x hz;obtain⟨F,E,D,v,u,B,r,a2,K,a4,J,l,y⟩:=lZ ns n b c (.va d) hl (by lia) (by lia) p s j R t (by lia);obtain⟨g,k,q,i,a,f,C,I,A,H,G,o,e⟩:=Vu ns b c hl s j ds v (.va d) (by lia) (by lia) l B (λz=>by rw[z] at r;simp at r;exact t r) (by lia);refine⟨g,k,q,i,a,f,C,by lia,λz=>A (a2 z),by lia,by simp only[Ax];lia,snM o (by simp only[Ax];lia),?_⟩;rw[XN,NE,VE,show(NH ns n b c rows made sn h).set 7 (.va d)=NH ns n b c rows made sn (.va d) from rfl,y,VH,e]
theorem Yi(ns:List Int)(n:Nat)(p q:Int){rows:List c6}{made:List Int}{kds:List Kd}{sn:c6}(C:Sl)(hl:ns.length<=63)(U:n<500000)(J:K3 n sn)(F:0<q)(s:q<=64)(R:RI rows made kds)(K:(rows.length:Int)<p)(M:p<=40):∃o v B m a d,RI o v B/\rows.length<o.length/\(o.length:Int)<=p/\n<=m/\m<=n+20/\K3 m a/\WG (NH ns n p q rows made sn C)=some (.nx (NH ns m p q o v a d)):=by
 obtain⟨row,D,I,V,c2,r,f,_,e⟩:=nJ ns n made sn q hl (by lia) J F s;obtain⟨x,E,ex⟩:=W4 ns D [.int 0,.int 1,.int 1,.int 2,.int 3] hl (by lia) (by simp);obtain⟨k,rfl,T,S⟩:∃k:Nat,x=.int k/\0<=k/\k<=3:=by
  simp only[Aj,Aw,or_false] at E;rcases E with rfl|rfl|rfl|rfl|rfl
  ·exact⟨0,rfl,by lia,by lia⟩
  ·exact⟨1,rfl,by lia,by lia⟩
  ·exact⟨1,rfl,by lia,by lia⟩
  ·exact⟨2,rfl,by lia,by lia⟩
  ·exact⟨3,rfl,by lia,by lia⟩
 have P:=R.more f;have h:rows.length<16777216:=by lia
 have A:made.length<16777216:=by have:=R.ml;lia
 have L:(ZF 0 k).length=k:=GD k;obtain⟨o,v,B,m,a,d,Q,O,N,X,W,w,c⟩:=Vu ns p q hl F s (ZF 0 k) (D+1) C (by lia) (by lia) r P (by simp) (by simp;lia);refine⟨o,v,B,m,a,d,Q,by simp at O;lia,N (by simp;lia),by lia,by lia,snM w (by lia),?_⟩;obtain⟨y,u,l,_⟩:=MA f;have i:=PM rows row;have key:=BC y u l;have b:=f.hard;rw[l] at b;have g:=CC r;have j:(-4611686018427387904:Int)<=k/\(k:Int)<4611686018427387904:=by lia
 unfold WG;by_cases t:y= "store" ∨y= "put"
 ·rw [if_neg (by rw [key];simp [t])] at c
  simp only[NH] at c;rw[l] at c;rcases t with rfl|rfl
  ·simp[NH,e,i,l,h,b,g,ex,j,c]
  ·simp[NH,e,i,l,h,b,g,ex,j,c]
 ·rw [if_pos (by rw [key];exact t)] at c
  simp only[NH,Bq,As,Cr] at c;rw[l] at c;have H:¬ "store"=y:=λz=>t (.inl z.symm);have G:¬ "put"=y:=λz=>t (.inr z.symm);simp[NH,e,i,l,h,b,g,ex,j,H,G,A,c]
theorem GY{t:VB}{g:VS}{k:Nat}{δ δ1 δ2:Ev}(h:t δ=some (true,δ1))(h2:g δ1=some (.nx δ2)):aF t g (k+1) δ=aF t g k δ2:=by show((t δ).bind λp=>if p.1=true then(g p.2).bind (XI (aF t g k)) else some (.nx p.2))=_;rw[h,Ak];show(if true=true then(g δ1).bind (XI (aF t g k)) else _)=_;rw[if_pos rfl,h2];rfl
theorem MP{t:VB}{g:VS}{k:Nat}{δ δ1:Ev}(h:t δ=some (false,δ1)):aF t g (k+1) δ=some (.nx δ1):=by show((t δ).bind λp=>if p.1=true then(g p.2).bind (XI (aF t g k)) else some (.nx p.2))=_;rw[h];rfl
theorem Uf(ns:List Int)(a h:Int)(hl:ns.length<=63)(r:0<h)(j:h<=64)(k:a<=40):∀(f:Nat) (n:Nat) {rows:List c6} {made:List Int} {kds:List Kd} {sn:c6} (d:Sl),a - rows.length<=f->(rows.length:Int)<=a->n+20*f<500000->K3 n sn->RI rows made kds->∃l m p i b c,RI l m p/\(l.length:Int)=a/\n<=i/\i<=n+20*f/\aF (fB (f2 oLt (f1 ZO (fO 4)) (fV 2))) WG (f+1) (NH ns n a h rows made sn d)=some (.nx (NH ns i a h l m b c))
 |0,n,rows,made,kds,sn,d,h1,h2,v,q,R=>by
  refine⟨rows,made,kds,n,sn,d,R,by lia,by lia,by lia,MP ?_⟩;have:¬(rows.length:Int)<a:=by lia
  simp[NH,this]
 | f + 1,n,rows,made,kds,sn,d,h1,h2,v,q,R => by
  by_cases g:(rows.length:Int)<a
  ·obtain ⟨C,B,A,u,t,s,y,G,a2,F,a4,o,w⟩ := Yi ns n a h d hl (by lia) q r j R g k
   obtain⟨l,m,p,i,b,c,z,x,E,D,e⟩:=Uf ns a h hl r j k f u s (by lia) a2 (by lia) o y;refine⟨l,m,p,i,b,c,z,x,by lia,by lia,?_⟩;rw[GY (δ1:=NH ns n a h rows made sn d) (by simp[NH,g]) w,e]
  ·refine ⟨rows,made,kds,n,sn,d,R,by lia,by lia,by lia,MP ?_⟩
   simp[NH,g]
theorem oJ(ns:List Int)(n:Nat)(b d:Int)(hl:ns.length<=63)(l:n<400000)(h:0<d)(f:d<=64)(i:0<=b)(g:b<=40):∃rows kds c,Bl [] rows kds/\(rows.length:Int)=b/\n<=c/\c<=n+20*40/\W7 [VN ns,XE n,.int b,.int d]=some (.tup rows,[XE c]):=by obtain⟨rows,made,kds,c,sn,k,R,j,a2,m,e⟩:=Uf ns b d hl h f g b.toNat n (rows:=[]) (made:=[]) (kds:=[]) (sn:=.dct [] []) .no (by simp;lia) (by simpa using i) (by lia) ⟨[],[],rfl,rfl,List.nodup_nil,Dg _⟩ ⟨.nil,λa=>by simp[Nm],by simp⟩;refine⟨rows,kds,c,R.bl,j,a2,by lia,?_⟩;have e:=J7 e;simp only[NH,Cr] at e;unfold W7;rw[cO,QR.eq_1];simp[cF,e]
theorem Wz{f g:VF}{δ δ1 δ2:Ev}{i j:Int}(h1:f δ=some (.int i,δ1))(h2:g δ1=some (.int j,δ2))(a:(-4611686018427387904<=i/\i<4611686018427387904)/\ -4611686018427387904<=j/\j<4611686018427387904):iR2 f g δ=some (ZF i (j - i).toNat,δ2):=by unfold iR2;rw[h1,Ak,h2,Ak];exact if_pos a
theorem MV(a:Nat)(tb:VB)(p:c6->Bool)(fe:VF)(f:c6->c6)(δ:Ev)(b:δ.length=a):∀(ds acc:List c6),(∀d∈ds,tb (δ++[Sl.va d])=some (p d,δ++[Sl.va d])/\(p d=true->fe (δ++[Sl.va d])=some (f d,δ++[Sl.va d])))->acc.length+ds.length<16777216->ZZ a 1 (gN a) tb fe ds acc δ=some (acc++(ds.filter p).map f,δ)
 |[],acc,_,_=>by simp
 | d :: ds,acc,h,hl => by
  have j:(δ++[Sl.no]).set a (.va d)=δ++[Sl.va d]:=by rw[Ff _ _ (by lia)];simp[b]
  have k:(δ++[Sl.va d]).take a=δ:=by rw[Cz (by lia),Cg (by lia)]
  have l:acc.length<16777216:=by simp at hl;lia
  obtain⟨h1,h2⟩:=h d Ay;cases c:p d with
  |true=>
   have g:=MV a tb p fe f δ b ds (acc++[f d]) (λe i=>h e (Ar _ i)) (by simp at hl⊢;lia);have h2:=h2 c;rw[c] at h1;simp only[RO,BF,NE,j,J3,h1,BU,h2,BV,if_pos l,k,g];simp[c]
  |false=>
   have g:=MV a tb p fe f δ b ds acc (λe i=>h e (Ar _ i)) (by simp at hl⊢;lia);rw[c] at h1;simp only[RO,BF,NE,j,J3,h1,Ut,k,g];simp[c]
theorem aC.ints{M:Int->Prop}{row:c6}(h:aC M row):∃(x:String) (a:Int) (as:List Int),row=.tup (.str x:: .int a::as.map .int)/\(x= "over" ->∃b,as=[b]/\M b):=by
 cases h with
 | @number n _ _=>exact⟨"number",n,[],rfl,λz=>absurd z (by decide)⟩
 | @two x a b e f d=>exact⟨x,a,[b],rfl,λ_=>⟨b,rfl,d⟩⟩
 | @pick c a b _ _ _=>exact⟨"pick",c,[a,b],rfl,λz=>absurd z (by decide)⟩
 | @load p _ _=>exact⟨"load",p,[],rfl,λz=>absurd z (by decide)⟩
 | @take p c a _ _ _ _=>exact⟨"take",p,[c,a],rfl,λz=>absurd z (by decide)⟩
 | @store p a _ _ _=>exact⟨"store",p,[a],rfl,λz=>absurd z (by decide)⟩
 | @put p a c _ _ _ _=>exact⟨"put",p,[a,c],rfl,λz=>absurd z (by decide)⟩
theorem SN{k:Nat}:∀as:List Int,∀d∈as.map c6.int,UJ k d
 |[],d,h=>nomatch h
 |a::as,d,h=>by
  rcases Aj.mp h with rfl|h
  ·exact aR
  ·exact SN as d h
theorem B8{M:Int->Prop}{row:c6}(h:aC M row):UJ 1 row:=by obtain⟨x,a,as,rfl,_⟩:=h.ints;exact RX (aW YL (aW aR (SN as)))
theorem Tc{sure:Int}{rows:List c6}{kds:List Kd}(s:Bl [] rows kds){i:Int}(E:0<=i)(h1:i<rows.length):∃b,YG [.tup [.int sure,.tup rows],.int i]=some (.bl b,[]):=by
 have N:kds.length=rows.length:=by simpa using s.len
 obtain⟨row,G,t⟩:∃row∈rows,WJ rows i=some row:=by
  have hi:i.toNat<rows.length:=by lia
  exact⟨rows[i.toNat],Ik hi,by rw[X1 E h1];simp[hi]⟩
 have ok:=s.all row G;obtain⟨x,a,as,rfl,n⟩:=ok.ints;unfold YG;rw[cO];unfold OK;by_cases u:onC x
 ·have C:=cel4 u
  exact⟨_,by simp[cF,t,C];rfl⟩
 ·obtain⟨⟨_,A⟩,⟨_,z⟩,⟨_,y⟩,_,w⟩:=off4 u
  by_cases o:x= "over"
  ·obtain⟨b,rfl,c⟩:=n o
   subst o;have K:=c.1;have M:=c.lt;obtain⟨B,m,I⟩:∃row∈rows,WJ rows b=some row:=by
    have hi:b.toNat<rows.length:=by lia
    exact⟨rows[b.toNat],Ik hi,by rw[X1 K (by lia)];simp[hi]⟩
   obtain⟨l,a2,h,rfl,_⟩:=(s.all B m).ints;have F:UN (.str l:: .int a2::h.map c6.int) none (some 2)=[.str l,.int a2]:=by
    have:=PR (ds:=.str l:: .int a2::h.map c6.int) (k:=2)
    simpa using this
   have H:∀δ,iR2 (fC (.int 1)) (fC (.int 1000)) δ=some (ZF 1 ((1000:Int) - 1).toNat,δ):=λδ=>Wz (f:=fC (.int 1)) (g:=fC (.int 1000)) (δ:=δ) (δ1:=δ) (δ2:=δ) (i:=1) (j:=1000) rfl rfl (by lia);have v:=XJ 0 (bE (cZ (fC (.str "number")) (cZ (fV 0) cC))) [] (λd=>.tup [.str "number",d]) rfl (ZF 1 ((1000:Int) - 1).toNat) [] (λd _=>by simp) (by simp[ZF]);have p:∀neg,∃b,ZN neg (.tup [.str l,.int a2]) (.lst ((ZF 1 ((1000:Int) - 1).toNat).map λd=>.tup [.str "number",d]))=some (.bl b):=λneg=>⟨_,HV (j:=1) (k:=1) (RX (aW YL (aW aR YM))) (λe D=>by
    obtain⟨d,hd,rfl⟩:=Cc.mp D;obtain⟨q,rfl⟩:∃q,d=.int q:=by unfold ZF at hd;obtain⟨q,_,rfl⟩:=Cc.mp hd;exact⟨_,rfl⟩
    exact RX (aW YL (aW aR YM)))⟩
   obtain⟨J,r⟩:=p true;simp only[Cd] at v;generalize (ZF 1 ((1000:Int) - 1).toNat).map (λd=>c6.tup [.str "number",d])=big at*;generalize ZF 1 ((1000:Int) - 1).toNat=L at*;exact⟨J,by simp -implicitDefEqProofs [cF,t,I,F,bL,H,v,r]⟩
  ·exact⟨false,by simp[cF,t,A,z,y,w,o]⟩
noncomputable def ZP(p:Int×Int):c6:=.tup [.int p.1,.int p.2]
noncomputable def K6:c6:=.tup [.str "load",.str "take",.str "store",.str "put"]
noncomputable def OT(a:c6)(ps:List (Int×Int))(j:Int)(there:Sl)(e d c b:Sl):Ev:=
 [.va a,.ow (.lst (ps.map ZP)),.va K6,.va (.int j),there,e,d,c,b]
theorem gR{bs:List Bool}:ZN false (.bl true) (.lst (bs.map .bl))=some (.bl (bs.any id)):=by
 rw[HV (j:=0) (k:=0) Sw (λe c=>by obtain⟨b,_,rfl⟩:=Cc.mp c;exact Sw)]
 induction bs with
 |nil=>rfl
 |cons b bs a=>
  have e:eqD (.bl b) (.bl true)=b:=by cases b<;>rfl
  simp only[As,Sd,Gk,id,e];simp only[Fd,if_false,Option.some.injEq,c6.bl.injEq] at a⊢;rw[a]
theorem AZ{i:Int}:∀{as:List Int},i∈as->JN (.int i) (as.map .int)=true
 |q::as,h=>by
  simp only[As,Sd];rcases Aj.mp h with rfl|h
  ·simp
  ·simp[AZ h]
noncomputable def wrT:c6->Bool
 |.tup (.str x::_)=>decide (Bj "store"=x) || decide (Bj "put"=x)
 |_=>false
theorem MH{s1 s2:VS}{δ δ1:Ev}{r:Option Ou}(h1:s1 δ=some (.nx δ1))(h2:s2 δ1=r):cI s1 s2 δ=r:=by rw[Vm,h1,qS_n,h2]
theorem eP{sure:Int}{rows:List c6}{kds:List Kd}(q:Bl [] rows kds)(ps:List (Int×Int)){i j:Int}{here there:c6}(S:0<=i)(R:i<rows.length)(Q:0<=j)(P:j<rows.length)(Y:here∈rows)(T:there∈rows){as:List Int}(X:Z8 [there]=some (.lst (as.map .int),[]))(J D:Sl)(Z:ps.length<1000000):∃(c:Bool) (t7 t8:Sl),(i∈as->c=true)/\WE (OT (.tup [.int sure,.tup rows]) ps j (.va there) (.va (.int i)) (.va here) J D)=some (.nx (OT (.tup [.int sure,.tup rows]) (ps++if c then[(i,j)] else[]) j (.va there) (.va (.int i)) (.va here) t7 t8)):=by
 obtain⟨f,H⟩:=Tc (sure:=sure) q S R;obtain⟨l,G⟩:=Tc (sure:=sure) q Q P;have p:=q.all here Y;have o:=q.all there T;have O:=B8 p;have N:=B8 o;obtain⟨x,a,xs,F,_⟩:=p.ints;obtain⟨y,b,ys,E,_⟩:=o.ints;have A:ZN false (.int i) (.lst (as.map .int))=some (.bl (JN (.int i) (as.map .int))):=by rw[HV (j:=0) (k:=0) aR (SN as)];simp
 have I:=AZ (i:=i) (as:=as);generalize JN (.int i) (as.map .int)=bi at*;have C:∃w:List c6,ZZ 0 1 (gN 0) (fB (f2 (ZN false) (f2 cH (fV 0) (fC (.int 0))) (bE (cZ (fC (.str "store")) (cZ (fC (.str "put")) cC))))) (fV 0) [here,there] [] []=some (w,[])/\∀d∈w,UJ 1 d:=by
  have c:=MV 0 (fB (f2 (ZN false) (f2 cH (fV 0) (fC (.int 0))) (bE (cZ (fC (.str "store")) (cZ (fC (.str "put")) cC))))) wrT (fV 0) id [] rfl [here,there] [] (λd hd=>by
   simp only[Aj,Aw,or_false] at hd;rcases hd with rfl|rfl
   ·rw[F];simp[wrT,ZM]
   ·rw[E];simp[wrT,ZM]) (by simp)
  refine⟨_,c,λd hd=>?_⟩;simp only[Cd,List.map_id_fun,id,Ha,Aj,Aw,or_false] at hd;rcases hd.1 with rfl|rfl
  ·exact O
  ·exact N
 obtain⟨w,C,M⟩:=C;have z:QF (.lst w) (.lst [])=some (.bl (!eqD (.lst w) (.lst []))):=BH (j:=2) (k:=0+1) (W3 M) (W3 YM);generalize (!eqD (.lst w) (.lst []))=bw at*;have v:ps.length<16777216:=by lia
 have t:∃h,ZN false (.str x) K6=some (.bl h):=⟨_,Ts⟩;have r:∃e,ZN false (.str y) K6=some (.bl e):=⟨_,Ts⟩;have u:∃h,ZN false (.str x) (.tup [.str "store",.str "put"])=some (.bl h):=⟨_,A5⟩;have s:∃e,ZN false (.str y) (.tup [.str "store",.str "put"])=some (.bl e):=⟨_,A5⟩;obtain⟨h,t⟩:=t;obtain⟨e,r⟩:=r;obtain⟨n,u⟩:=u;obtain⟨m,s⟩:=s;subst F E;have g:=gR (bs:=[bi,f&&l,h&&(e&&(decide (a=b)&&bw)),f&&m,l&&n]);simp only[As,Cr] at g;refine⟨[bi,f&&l,h&&(e&&(decide (a=b)&&bw)),f&&m,l&&n].any id,.va (.lst w),.ow (.lst [.bl bi,.bl (f&&l),.bl (h&&(e&&(decide (a=b)&&bw))),.bl (f&&m),.bl (l&&n)]),?_,?_⟩
 ·intro hi
  rw[I hi];rfl
 ·unfold WE
  refine MH (δ1:=OT (.tup [.int sure,.tup rows]) ps j (.va (.tup (.str y:: .int b::ys.map .int))) (.va (.int i)) (.va (.tup (.str x:: .int a::xs.map .int))) (.va (.lst w)) D) (by simp[OT,bL,C]) ?_;refine MH (δ1:=OT (.tup [.int sure,.tup rows]) ps j (.va (.tup (.str y:: .int b::ys.map .int))) (.va (.int i)) (.va (.tup (.str x:: .int a::xs.map .int))) (.va (.lst w)) (.ow (.lst [.bl bi,.bl (f&&l)]))) ?_ ?_
  ·clear g
   cases f<;>simp[OT,X,A,H,G]
  refine MH (δ1:=OT (.tup [.int sure,.tup rows]) ps j (.va (.tup (.str y:: .int b::ys.map .int))) (.va (.int i)) (.va (.tup (.str x:: .int a::xs.map .int))) (.va (.lst w)) (.ow (.lst [.bl bi,.bl (f&&l),.bl (h&&(e&&(decide (a=b)&&bw)))]))) ?_ ?_
  ·clear g
   cases h<;>cases e<;>by_cases B:a=b<;>simp[OT,t,r,z,B]
  refine MH (δ1:=OT (.tup [.int sure,.tup rows]) ps j (.va (.tup (.str y:: .int b::ys.map .int))) (.va (.int i)) (.va (.tup (.str x:: .int a::xs.map .int))) (.va (.lst w)) (.ow (.lst [.bl bi,.bl (f&&l),.bl (h&&(e&&(decide (a=b)&&bw))),.bl (f&&m)]))) ?_ ?_
  ·clear g
   generalize (h&&(e&&(decide (a=b)&&bw)))=q3;cases f<;>simp[-A5,OT,H,s]
  refine MH (δ1:=OT (.tup [.int sure,.tup rows]) ps j (.va (.tup (.str y:: .int b::ys.map .int))) (.va (.int i)) (.va (.tup (.str x:: .int a::xs.map .int))) (.va (.lst w)) (.ow (.lst [.bl bi,.bl (f&&l),.bl (h&&(e&&(decide (a=b)&&bw))),.bl (f&&m),.bl (l&&n)]))) ?_ ?_
  ·clear g
   generalize (h&&(e&&(decide (a=b)&&bw)))=q3;cases l<;>simp[-A5,OT,G,u]
  generalize (h&&(e&&(decide (a=b)&&bw)))=q3 at*;generalize W:(f&&l)=q1 at*;generalize V:(f&&m)=L at*;generalize U:(l&&n)=K at*;generalize hc:[bi,q1,q3,L,K].any id=c at*;cases c
  ·simp[OT,g]
  ·simp[OT,g,v,ZP]
theorem XA(i:Nat)(d:c6)(ds:List c6):Y6 i (d::ds)=.tup [.int i,d]::Y6 (i+1) ds:=rfl
abbrev GP(a b:Nat):VG:=PC 2 (bZ (gN a) (bZ (gN b) ZA))
theorem Uo{sure:Int}{rows:List c6}{kds:List Kd}(t:Bl [] rows kds){j:Int}{there:c6}(o:0<=j)(n:j<rows.length)(q:there∈rows){as:List Int}(r:Z8 [there]=some (.lst (as.map .int),[])):∀(a:List c6) (k:Nat) (ps:List (Int×Int)) (l g f b:Sl),(∀d∈a,d∈rows)->k+a.length<=rows.length->ps.length+a.length<1000000->∃(qs:List (Int×Int)) (t5 t6 t7 t8:Sl),(∀p∈qs,p.2=j/\(k:Int)<=p.1/\p.1<k+a.length)/\(∀i∈as,(k:Int)<=i->i<k+a.length->(i,j)∈qs)/\qs.length<=a.length∧YQ (GP 5 6) WE (Y6 k a) (OT (.tup [.int sure,.tup rows]) ps j (.va there) l g f b)=some (.nx (OT (.tup [.int sure,.tup rows]) (ps++qs) j (.va there) t5 t6 t7 t8))
 |[],k,ps,l,g,f,b,_,_,_=>⟨[],l,g,f,b,by simp,λi _ h1 h2=>by simp at h2;lia,by simp,by simp[Y6]⟩
 | h :: a,k,ps,l,g,f,b,s,hk,m => by
  simp only[Ax] at hk m;obtain⟨c,t7,t8,C,e⟩:=eP (sure:=sure) t ps (i:=(k:Int)) (j:=j) (here:=h) (there:=there) (by lia) (by lia) o n (s h Ay) q r f b (by lia);obtain⟨qs,y,x,w,v,q1,q2,q3,A⟩:=Uo t o n q r a (k+1) (ps++if c then[((k:Int),j)] else[]) (.va (.int k)) (.va h) t7 t8 (λd hd=>s d (Ar _ hd)) (by lia) (by cases c<;>simp<;>lia);refine⟨(if c then[((k:Int),j)] else[])++qs,y,x,w,v,?_,?_,?_,?_⟩
  ·intro p m
   simp only[Ax];rcases Bz.mp m with z|z
   ·cases c
    ·simp at z
    ·simp at z;subst z;exact⟨rfl,by simp,by simp;lia⟩
   ·obtain⟨u,E,D⟩:=q1 p z
    exact⟨u,by lia,by lia⟩
  ·intro i hi h1 h2
   simp only[Ax] at h2;by_cases B:i=k
   ·subst B
    rw[C hi];simp
   ·exact Bz.mpr (.inr (q2 i hi (by lia) (by lia)))
  ·cases c<;>simp<;>lia
  ·rw[XA,XN]
   have s1:GP 5 6 (.tup [.int k,h]) (OT (.tup [.int sure,.tup rows]) ps j (.va there) l g f b)=some (OT (.tup [.int sure,.tup rows]) ps j (.va there) (.va (.int k)) (.va h) f b):=by simp[OT]
   rw[s1,VE,e,VH,A,Bo]
structure Prs(rows:List c6)(ps:List (Int×Int)):Prop where
 lt:∀p∈ps,0<=p.1/\p.1<p.2/\p.2<rows.length
 nm:∀(j:Nat) (row:c6) (as:List Int),rows[j]?=some row->Z8 [row]=some (.lst (as.map .int),[])->∀i∈as,0<=i->i<j->(i,(j:Int))∈ps
theorem lU{as bs:List Int}(h:as.map c6.int=bs.map c6.int):as=bs:=by
 induction as generalizing bs with
 |nil=>cases bs with
  |nil=>rfl
  |cons=>simp at h
 | cons a as c => cases bs with
  |nil=>simp at h
  |cons b bs=>
   simp only[As,Jj,c6.int.injEq] at h;rw[h.1,c h.2]
noncomputable def tri:Nat->Nat->Nat
 |0,_=>0
 |t+1,k=>k+tri t (k+1)
theorem jG{n:Nat}(h:n<=10):tri n 0<64:=by
 have:=Fy.mp (show(Bh 11).all (λn=>decide (tri n 0<64))=true by decide) n (Ck.mpr (by lia))
 exact of_decide_eq_true this
theorem Ss{sure:Int}{rows:List c6}{kds:List Kd}(u:Bl [] rows kds)(v:rows.length<=10):∀(g:List c6) (k:Nat) (ps:List (Int×Int)) (w:Int) (n f c b a:Sl) (m:Sl),rows.drop k=g->k+g.length=rows.length->ps.length+40*g.length<10000->∃(qs:List (Int×Int)) (t3 t4 t5 t6 t7 t8:Sl),(∀p∈qs,0<=p.1/\p.1<p.2/\p.2<rows.length)/\(∀(j:Nat) (row:c6) (as:List Int),k<=j->rows[j]?=some row->Z8 [row]=some (.lst (as.map .int),[])->∀i∈as,0<=i->i<j->(i,(j:Int))∈qs)/\(qs.length<=tri g.length k/\qs.length<=40*g.length)∧YQ (GP 3 4) WF (Y6 k g) [.va (.tup [.int sure,.tup rows]),.ow (.lst (ps.map ZP)),.va K6,m,n,f,c,b,a]=some (.nx [.va (.tup [.int sure,.tup rows]),.ow (.lst ((ps++qs).map ZP)),.va K6,t3,t4,t5,t6,t7,t8])
 |[],k,ps,w,n,f,c,b,a,m,h1,h2,_=>by
  refine⟨[],m,n,f,c,b,a,by simp,λj row as Q L=>?_,by simp[tri],by simp[Y6]⟩;have:=(Ag.mp L).1
  simp at h2;lia
 | t :: g,k,ps,w,n,f,c,b,a,m,h1,h2,r => by
  simp only[Ax] at h2 r;have x:t∈rows:=List.mem_of_mem_drop (by rw[h1];exact Ay);have hk:rows[k]?=some t:=by
   have:(rows.drop k)[0]?=some t:=by rw[h1];rfl
   simpa using this
  obtain⟨as,_,_,y,_⟩:=DQ (u.all t x);have A:(rows.take k).length=k:=by rw[Cw];lia
  obtain⟨h,t5,t6,t7,t8,q1,q2,q3,e⟩:=Uo (sure:=sure) u (j:=(k:Int)) (by lia) (by lia) x y (rows.take k) 0 ps f c b a (λd hd=>List.mem_of_mem_take hd) (by lia) (by lia);obtain⟨q,H,G,F,E,D,C,r1,r2,O,I⟩:=Ss u v g (k+1) (ps++h) 0 (.va t) t5 t6 t7 t8 (.va (.int k)) (by rw[<-List.drop_drop,h1];rfl) (by lia) (by simp;lia);refine⟨h++q,H,G,F,E,D,C,?_,?_,?_,?_⟩
  ·intro p r
   rcases Bz.mp r with z|z
   ·obtain⟨N,M,B⟩:=q1 p z
    rw[A] at B;exact⟨by lia,by lia,by lia⟩
   ·exact r1 p z
  ·intro j row bs P o l i hi K J
   by_cases s:j=k
   ·subst s
    rw[hk] at o;injection o with o;subst o;rw[y] at l;have:as=bs:=lU (by simpa using l)
    subst this;exact Bz.mpr (.inl (q2 i hi (by lia) (by rw[A];lia)))
   ·exact Bz.mpr (.inr (r2 j row bs (by lia) o l i hi K J))
  ·simp only[Ao,Ax,tri];lia
  ·rw[XA,XN]
   have s1:GP 3 4 (.tup [.int k,t]) [.va (.tup [.int sure,.tup rows]),.ow (.lst (ps.map ZP)),.va K6,m,n,f,c,b,a]=some (OT (.tup [.int sure,.tup rows]) ps k (.va t) f c b a):=by simp[OT]
   have s2:WF (OT (.tup [.int sure,.tup rows]) ps k (.va t) f c b a)=some (.nx (OT (.tup [.int sure,.tup rows]) (ps++h) k (.va t) t5 t6 t7 t8)):=by
    unfold WF;have hc:=PR (ds:=rows) (k:=k);rw[iY];have:P1 (DB (f2 cH (fV 0) (fC (.int 1))) pNo (DW (fV 3))) (OT (.tup [.int sure,.tup rows]) ps k (.va t) f c b a)=some (Y6 0 (rows.take k),OT (.tup [.int sure,.tup rows]) ps k (.va t) f c b a):=by simp[OT,hc]
    rw[this,qF_s];exact e
   rw[s1,VE,s2,VH];simp only[OT];rw[I,Bo]
theorem BQ:∀ps:List (Int×Int),L6 (ps.map ZP)=some ps
 |[]=>rfl
 |p::ps=>by show(prD (ZP p)).bind (λq=>(L6 (ps.map ZP)).map λqs=>q::qs)=_;rw[BQ ps];rfl
theorem eY(ps:List (Int×Int))(h64:ps.length<64):∃qs:List (Int×Int),qs.Perm ps/\DU (.lst (ps.map ZP))=some (.lst (qs.map ZP)):=by
 refine⟨(GN ps).map λi=>ps.getD i (0,0),?_,?_⟩
 ·have h := (R8 ps).map λi => ps.getD i (0,0)
  refine h.trans ?_
  have:(Bh ps.length).map (λi=>ps.getD i (0,0))=ps:=by refine List.ext_getElem (by simp) λi h1 h2=>?_;simp at h1;simp[h1]
  rw[this]
 ·show (if (ps.map ZP).length < 64 then (L6 (ps.map ZP)).bind λqs => some (c6.lst ((GN qs).map λi => (ps.map ZP).getD i c6.non)) else none) = _
  rw[if_pos (by simpa using h64),BQ,Ak,Gi];congr 2;refine Fw λi hi=>?_;have:i<ps.length:=Ck.mp ((R8 ps).mem_iff.mp hi)
  simp[this]
theorem Zg{sure:Int}{rows:List c6}{kds:List Kd}(f:Bl [] rows kds)(a:rows.length<=10):∃ps:List (Int×Int),Prs rows ps/\ps.length<=1600/\W6 [.tup [.int sure,.tup rows]]=some (.lst (ps.map ZP),[]):=by obtain⟨qs,t3,t4,t5,t6,t7,t8,q1,q2,q3,e⟩:=Ss (sure:=sure) f a rows 0 [] 0 .no .no .no .no .no .no (by simp) (by simp) (by simp;lia);simp only[Cr,Cd,K6] at e;obtain⟨ps,b,es⟩:=eY qs (by have:=jG a;lia);refine⟨ps,⟨λp h=>q1 p (b.mem_iff.mp h),λj row as h1 h2 i hi d c=>b.mem_iff.mpr (q2 j row as (by lia) h1 h2 i hi d c)⟩,by rw[b.length_eq];lia,?_⟩;unfold W6;rw[cO,QP.eq_1];simp[cF,e,es]
theorem PQ(c:Nat)(tb:VB)(p:c6->Bool)(fe:VF)(f:c6->c6)(δ:Ev)(g:δ.length=c):∀(ds acc:List c6),(∀d∈ds,∃a b,d=.tup [a,b]/\tb (δ++[Sl.va a,Sl.va b])=some (p d,δ++[Sl.va a,Sl.va b])/\(p d=true->fe (δ++[Sl.va a,Sl.va b])=some (f d,δ++[Sl.va a,Sl.va b])))->acc.length+ds.length<16777216->ZZ c 2 (GP c (c+1)) tb fe ds acc δ=some (acc++(ds.filter p).map f,δ)
 |[],acc,_,_=>by simp
 | d :: ds,acc,h,hl => by
  obtain⟨a,b,rfl,h1,h2⟩:=h d Ay;have l:GP c (c+1) (.tup [a,b]) (δ++[Sl.no,Sl.no])=some (δ++[Sl.va a,Sl.va b]):=by
   have o:(δ++[Sl.no,Sl.no]).set c (.va a)=δ++[Sl.va a,Sl.no]:=by rw[Ff _ _ (by lia)];simp[g]
   have n:(δ++[Sl.va a,Sl.no]).set (c+1) (.va b)=δ++[Sl.va a,Sl.va b]:=by rw[Ff _ _ (by lia),g,show c+1 - c=1 by lia];rfl
   simp[o,n]
  have m:(δ++[Sl.va a,Sl.va b]).take c=δ:=by rw[Cz (by lia),Cg (by lia)]
  have q:acc.length<16777216:=by simp at hl;lia
  cases i:p (.tup [a,b]) with
  |true=>
   have j:=PQ c tb p fe f δ g ds (acc++[f (.tup [a,b])]) (λe k=>h e (Ar _ k)) (by simp at hl⊢;lia);have h2:=h2 i;rw[i] at h1;simp only[RO,Um,l,J3,h1,BU,h2,BV,if_pos q,m,j];simp[i]
  |false=>
   have j:=PQ c tb p fe f δ g ds acc (λe k=>h e (Ar _ k)) (by simp at hl⊢;lia);rw[i] at h1;simp only[RO,Um,l,J3,h1,Ut,m,j];simp[i]
noncomputable def ost(ns:List Int)(n:Nat)(a:c6)(ps:List (Int×Int))(left made:List Int)(b:Sl):Ev:=
 [.va (VN ns),.ow (XE n),.va a,.va (.lst (ps.map ZP)),.ow (.lst (left.map .int)),.ow (.lst (made.map .int)),b]
noncomputable def pw(left:List Int)(r:Int):c6->Bool
 |.tup [.int a,.int b]=>decide (b=r)&&JN (.int a) (left.map .int)
 |_=>false
theorem HM{i:Int}:∀{as:List Int},JN (.int i) (as.map .int)=true↔i∈as
 |[]=>by simp
 |a::as=>by rw[As,Sd,Hj,iO,decide_eq_true_eq,HM (as:=as),Aj];exact⟨λh=>h.imp Eq.symm id,λh=>h.imp Eq.symm id⟩
theorem Yb(ps:List (Int×Int))(left:List Int)(r:Int)(g:ps.length<16777216):ZZ 2 2 (GP 2 3) (ND (fB (f2 XF (fV 3) (fV 1))) (fB (f2 (ZN false) (fV 2) (fO 0)))) (fC (.int 1)) (ps.map ZP) [] [.ow (.lst (left.map .int)),.va (.int r)]=some (((ps.map ZP).filter (pw left r)).map λ_=>.int 1,[.ow (.lst (left.map .int)),.va (.int r)]):=by
 have e:∀a:Int,ZN false (.int a) (.lst (left.map .int))=some (.bl (JN (.int a) (left.map .int))):=λa=>by rw[HV (j:=0) (k:=0) aR (SN left)];simp
 have:=PQ 2 (ND (fB (f2 XF (fV 3) (fV 1))) (fB (f2 (ZN false) (fV 2) (fO 0)))) (pw left r) (fC (.int 1)) (λ_=>.int 1) [.ow (.lst (left.map .int)),.va (.int r)] rfl (ps.map ZP) [] (λd hd=>by
  obtain⟨⟨a,b⟩,_,rfl⟩:=Cc.mp hd;refine⟨.int a,.int b,rfl,?_,λ_=>by simp⟩;have hi:=e a;have c:pw left r (ZP (a,b))=(decide (b=r)&&JN (.int a) (left.map .int)):=rfl;rw[c];generalize left.map c6.int=L at*;by_cases f:b=r
  ·simp[f,hi]
  ·simp[f]) (by simpa using g)
 simpa using this
theorem DA{ds:List c6}:eqD (.lst ds) (.lst [])=ds.isEmpty:=by cases ds<;>rfl
noncomputable def rdD(ps:List (Int×Int))(left:List Int):c6->Bool
 |.int r=>((ps.map ZP).filter (pw left r)).isEmpty
 |_=>false
theorem L5{x:Int}:∀{ns:List Int},x∈ns->∃j,T9 x ns=some j/\ns.eraseIdx j=ns.erase x
 | i :: ns,h => by
  unfold T9;by_cases e:i=x
  ·rw[if_pos e];exact⟨0,rfl,by simp[e]⟩
  ·rw[if_neg e]
   obtain⟨j,h1,h2⟩:=L5 (ns:=ns) (by
    rcases Aj.mp h with z|z
    ·exact absurd z.symm e
    ·exact z)
   refine⟨j+1,by rw[h1];rfl,?_⟩;rw[List.eraseIdx_cons_succ,h2,List.erase_cons_tail (by simpa using e)]
theorem mR{x:Int}{ns:List Int}(h:x∈ns):mRem (ns.map .int) [.int x]=some ((ns.erase x).map .int):=by obtain⟨j,h1,h2⟩:=L5 h;show(TW (ns.map .int)).bind (λns=>(T9 x ns).map λj=>(ns.eraseIdx j).map c6.int)=_;rw[ON,Ak,h1,Po,h2]
theorem BZ{ps:List (Int×Int)}{left:List Int}{r:Int}:rdD ps left (.int r)=true↔ ∀p∈ps,p.2=r->p.1∉left:=by
 show((ps.map ZP).filter (pw left r)).isEmpty=true↔_;rw[Nz,List.filter_eq_nil_iff];constructor
 ·intro h p a b hl
  have:=h (ZP p) (Cc.mpr ⟨p,a,rfl⟩)
  refine this ?_;show(decide (p.2=r)&&JN (.int p.1) (left.map .int))=true;rw[HM.mpr hl,b];simp
 ·intro h d hd z
  obtain⟨p,a,rfl⟩:=Cc.mp hd;have z:(decide (p.2=r)&&JN (.int p.1) (left.map .int))=true:=z;rw[Ah,decide_eq_true_eq,HM] at z;exact h p a z.1 z.2
theorem Wx(ps:List (Int×Int))(left:List Int)(c:ps.length<16777216)(a:left.length<16777216):ZZ 2 1 (gN 2) (fB (f2 XF (ZR [1,2] 2 (WO (fV 0)) (PC 2 (bZ (gN 2) (bZ (gN 3) ZA))) (ND (fB (f2 XF (fV 3) (fV 1))) (fB (f2 (ZN false) (fV 2) (fO 0)))) (fC (.int 1))) (YT cC))) (fV 2) (left.map .int) [] [.va (.lst (ps.map ZP)),.ow (.lst (left.map .int))]=some ((left.filter λr=>rdD ps left (.int r)).map .int,[.va (.lst (ps.map ZP)),.ow (.lst (left.map .int))]):=by
 have:=MV 2 (fB (f2 XF (ZR [1,2] 2 (WO (fV 0)) (PC 2 (bZ (gN 2) (bZ (gN 3) ZA))) (ND (fB (f2 XF (fV 3) (fV 1))) (fB (f2 (ZN false) (fV 2) (fO 0)))) (fC (.int 1))) (YT cC))) (rdD ps left) (fV 2) id [.va (.lst (ps.map ZP)),.ow (.lst (left.map .int))] rfl (left.map .int) [] (λd hd=>by
  obtain⟨r,_,rfl⟩:=Cc.mp hd;refine⟨?_,λ_=>by simp⟩;have w:=Yb ps left r c;have b:XF (.lst (((ps.map ZP).filter (pw left r)).map λ_=>c6.int 1)) (.lst [])=some (.bl (rdD ps left (.int r))):=by
   rw[Wj (j:=1) (k:=1) (W3 λd hd=>by obtain⟨_,_,rfl⟩:=Cc.mp hd;exact aR) (W3 YM),DA,List.isEmpty_map]
   rfl
  generalize ((ps.map ZP).filter (pw left r)).map (λ_=>c6.int 1)=W at*;generalize rdD ps left (.int r)=B at*;generalize left.map c6.int=L at*;generalize ps.map ZP=Q at*;simp[bL,w,b]) (by simpa using a)
 rw[this,List.filter_map];simp[Function.comp_def]
theorem nS(ns:List Int)(n:Nat)(c:c6)(ps:List (Int×Int))(left made:List Int)(m:Sl)(hl:ns.length<=63)(F:n<800000)(h:left≠[])(g:left.Pairwise (· < ·))(i:∀p∈ps,p.1<p.2)(y:left.length<1000)(v:made.length<1000)(s:ps.length<10000):∃x∈left,(∀p∈ps,p.2=x->p.1∉left)/\∃e,ZG (ost ns n c ps left made m)=some (.nx (ost ns (n+1) c ps (left.erase x) (made++[x]) e)):=by
 have q:=Wx ps left (by lia) (by lia);have B:0<((left.filter λr=>rdD ps left (.int r)).map c6.int).length:=by
  match left,h,g with
  |a::t,_,g=>
   have:a∈((a::t).filter λr=>rdD ps (a::t) (.int r)):=by
    refine Ha.mpr ⟨Ay,BZ.mpr λp u A hi=>?_⟩;have h1:=i p u;rw[A] at h1;rcases Aj.mp hi with z|z
    ·lia
    ·have:=(List.pairwise_cons.mp g).1 _ z
     lia
   rw[Aq];exact List.length_pos_of_mem this
 obtain⟨d,hd,C⟩:=W4 ns n ((left.filter λr=>rdD ps left (.int r)).map .int) hl (by lia) B;obtain⟨x,o,rfl⟩:=Cc.mp hd;obtain⟨b,f⟩:=Ha.mp o;have w:=mR b;have j:=PM (made.map c6.int) (.int x);have k:made.length<16777216:=by lia
 refine⟨x,b,BZ.mp f,.va (.lst ((left.filter λr=>rdD ps left (.int r)).map .int)),?_⟩;unfold ZG;simp only[ost,Bq,As,Cr];generalize (left.filter λr=>rdD ps left (.int r)).map c6.int=R at*;generalize (left.erase x).map c6.int=E at*;generalize left.map c6.int=L at*;generalize ps.map ZP=Q at*;have l:(made.map c6.int).length<16777216:=by simpa using k
 generalize made.map c6.int=D at*;simp[bL,q,C,w,j,l]
theorem BM(ns:List Int)(b:c6)(ps:List (Int×Int))(hl:ns.length<=63)(l:∀p∈ps,p.1<p.2)(h:ps.length<10000):∀(f n:Nat) (left made:List Int) (d:Sl),left.length=f->n+f<700000->left.Pairwise (· < ·)->made.length+left.length<1000->(∀p∈ps,p.1∈made∨p.1∈left)->(∀p∈ps,∀k:Nat,made[k]?=some p.2->p.1∈made.take k)->∃(order:List Int) (c:Sl),order.Perm (made++left)/\(∀p∈ps,∀k:Nat,order[k]?=some p.2->p.1∈order.take k)/\aF (fB (f2 QF (fO 4) (YT cC))) ZG (f+1) (ost ns n b ps left made d)=some (.nx (ost ns (n+f) b ps [] order c))
 |0,n,left,made,d,m,A,o,B,h1,h2=>by
  have:left=[]:=Fv.mp m
  subst this;refine⟨made,d,by simp,h2,MP ?_⟩;have e:QF (.lst []) (.lst [])=some (.bl false):=by rw[BH (j:=1) (k:=1) (W3 YM) (W3 YM),DA];rfl
  simp[ost,e]
 | f + 1,n,left,made,d,m,A,o,B,h1,h2 => by
  have i:left≠[]:=λz=>by rw[z] at m;simp at m
  obtain⟨x,s,y,t,E⟩:=nS ns n b ps left made d hl (by lia) i o l (by lia) (by lia) h;have C:=List.length_erase_of_mem s;obtain⟨order,c,v,u,D⟩:=BM ns b ps hl l h f (n+1) (left.erase x) (made++[x]) t (by lia) (by lia) (o.sublist (List.erase_sublist)) (by simp;lia) (λp a=>by
   rcases h1 p a with z|z
   ·exact .inl (Bz.mpr (.inl z))
   ·by_cases g:p.1=x
    ·exact .inl (by simp[g])
    ·exact .inr ((List.mem_erase_of_ne g).mpr z)) (λp a k hk=>by
   by_cases r:k<made.length
   ·rw[Ai r] at hk
    rw[Cz (by lia)];exact h2 p a k hk
   ·have w:=(Ag.mp hk).1
    simp at w;have:k=made.length:=by lia
    subst this;simp at hk;have q:=y p a hk.symm;rw[Ie];exact(h1 p a).resolve_right q)
  refine⟨order,c,?_,u,?_⟩
  ·refine v.trans ?_
   rw[Bo,List.singleton_append];exact(List.perm_cons_erase s).symm.append_left made
  ·have e:QF (.lst (left.map .int)) (.lst [])=some (.bl true):=by
    rw[BH (j:=1) (k:=1) (W3 (SN left)) (W3 YM),DA];cases left with
    |nil=>exact absurd rfl i
    |cons=>rfl
   rw[GY (δ1:=ost ns n b ps left made d) (by simp[ost,e]) E,D,show n+1+f=n+(f+1) by lia]
theorem fG{f:VF}{δ δ1:Ev}{j:Int}(h:f δ=some (.int j,δ1))(a:0<=j)(h1:j<=16777216):RQ f δ=some (.lst (ZF 0 j.toNat),δ1):=by unfold RQ;rw[h,Ak];exact if_pos ⟨a,h1⟩
def rgI(k:Nat):List Int:=(Bh k).map λi:Nat=>(i:Int)
theorem dM(k:Nat):ZF 0 k=(rgI k).map .int:=by simp[ZF,rgI]
theorem B7{k:Nat}{a:Int}:a∈rgI k↔0<=a/\a<k:=by
 unfold rgI;rw[Cc];constructor
 ·rintro ⟨i,hi,rfl⟩
  have:=Ck.mp hi
  lia
 ·rintro ⟨b,h1⟩
  exact⟨a.toNat,Ck.mpr (by lia),by lia⟩
theorem D6(k:Nat):(rgI k).Pairwise (· < ·):=Gm _ (λa b h=>by lia) (List.pairwise_lt_range)
theorem IC(k:Nat):(rgI k).length=k:=by simp[rgI]
theorem kF(ns:List Int)(n:Nat){sure:Int}{rows:List c6}{kds:List Kd}(hl:ns.length<=63)(l:n<500000)(g:Bl [] rows kds)(b:rows.length<=10):∃(ps:List (Int×Int)) (order:List Int),Prs rows ps/\order.Perm (rgI rows.length)/\(∀p∈ps,∀k:Nat,order[k]?=some p.2->p.1∈order.take k)/\Z5 [VN ns,XE n,.tup [.int sure,.tup rows]]=some (.lst (order.map .int),[XE (n+rows.length)]):=by
 obtain⟨ps,P,f,em⟩:=Zg (sure:=sure) g b;obtain⟨order,i,d,c,e⟩:=BM ns (.tup [.int sure,.tup rows]) ps hl (λp a=>(P.lt p a).2.1) (by lia) rows.length n (rgI rows.length) [] .no (IC _) (by lia) (D6 _) (by simp[IC];lia) (λp a=>.inr (B7.mpr ⟨(P.lt p a).1,by have:=P.lt p a;lia⟩)) (λp a k hk=>by simp at hk);refine⟨ps,order,P,by simpa using d,c,?_⟩;have e:=J7 e;simp only[ost,Cr] at e;have h:RQ (f1 ZO (f2 cH (fV 2) (fC (.int 1)))) [.va (VN ns),.ow (XE n),.va (.tup [.int sure,.tup rows]),.no,.no,.no,.no]=some (.lst ((rgI rows.length).map .int),[.va (VN ns),.ow (XE n),.va (.tup [.int sure,.tup rows]),.no,.no,.no,.no]):=by rw[<-dM,fG (j:=(rows.length:Int)) (δ1:=[.va (VN ns),.ow (XE n),.va (.tup [.int sure,.tup rows]),.no,.no,.no,.no]) (by simp) (by lia) (by lia)];simp
 unfold Z5;rw[cO,XO.eq_1];generalize (rgI rows.length).map c6.int=L at*;generalize order.map c6.int=O at*;generalize ps.map ZP=Q at*;simp[cF,em,h,e]
theorem aC.strong{M:Int->Prop}{row:c6}(h:aC M row):∃as:List Int,(∀a∈as,M a)/\aC (· ∈as) row/\Z8 [row]=some (.lst (as.map .int),[]):=by
 cases h with
 | @number n e h1=>exact⟨[],(λ_ h=>nomatch h),.number e h1,by kernel_rfl⟩
 | @two x a b f d g=>
  refine⟨[a,b],by simp[d,g],.two f (by simp) (by simp),?_⟩;simp only[Aj,Aw,or_false] at f;rcases f with rfl|rfl|rfl|rfl|rfl|rfl|rfl<;>kernel_rfl
 | @pick c a b hc d g=>exact⟨[c,a,b],by simp[hc,d,g],.pick (by simp) (by simp) (by simp),by kernel_rfl⟩
 | @load p e h1=>exact⟨[],(λ_ h=>nomatch h),.load e h1,by kernel_rfl⟩
 | @take p c a e h1 hc d=>exact⟨[c,a],by simp[hc,d],.take e h1 (by simp) (by simp),by kernel_rfl⟩
 | @store p a e h1 d=>exact⟨[a],by simp[d],.store e h1 (by simp),by kernel_rfl⟩
 | @put p a c e h1 d hc=>exact⟨[a,c],by simp[d,hc],.put e h1 (by simp) (by simp),by kernel_rfl⟩
theorem D5{as:List Int}{row:c6}(h:aC (· ∈as) row){ks:List aG}{vs:List c6}(e:Int->Int)(hk:∀a∈as,bN ks vs (.inl a)=some (.int (e a))):∃j,cD [row,.dct ks vs]=some (j,[])/\aC (λb=>∃a∈as,b=e a) j/\JW .w j=JW .w row:=by
 cases h with
 | @number n f h1=>
  refine⟨_,?_,.number f h1,rfl⟩;unfold cD;rw[cO];unfold aS;simp[cF]
 | @two x a b g d i=>
  have q:=(HD g (y:= "number") (by decide)).1;have o:=(HD g (y:= "load") (by decide)).2;have m:=(HD g (y:= "take") (by decide)).2;have l:=(HD g (y:= "store") (by decide)).2;have k:=(HD g (y:= "put") (by decide)).2;refine⟨.tup [.str x,.int (e a),.int (e b)],?_,.two g ⟨a,d,rfl⟩ ⟨b,i,rfl⟩,?_⟩
  ·unfold cD
   rw[cO];unfold aS;simp[cF,q,o,m,l,k,bL,hk a d,hk b i]
  ·simp only[Aj,Aw,or_false] at g
   rcases g with rfl|rfl|rfl|rfl|rfl|rfl|rfl<;>rfl
 | @pick c a b hc d i=>
  refine⟨.tup [.str "pick",.int (e c),.int (e a),.int (e b)],?_,.pick ⟨c,hc,rfl⟩ ⟨a,d,rfl⟩ ⟨b,i,rfl⟩,rfl⟩;unfold cD;rw[cO];unfold aS;simp[cF,bL,hk a d,hk b i,hk c hc]
 | @load p f h1=>
  refine⟨.tup [.str "load",.int p],?_,.load f h1,rfl⟩;unfold cD;rw[cO];unfold aS;simp[cF,bL]
 | @take p c a f h1 hc d=>
  refine⟨.tup [.str "take",.int p,.int (e c),.int (e a)],?_,.take f h1 ⟨c,hc,rfl⟩ ⟨a,d,rfl⟩,rfl⟩;unfold cD;rw[cO];unfold aS;simp[cF,bL,hk a d,hk c hc]
 | @store p a f h1 d=>
  refine⟨.tup [.str "store",.int p,.int (e a)],?_,.store f h1 ⟨a,d,rfl⟩,rfl⟩;unfold cD;rw[cO];unfold aS;simp[cF,bL,hk a d]
 | @put p a c f h1 d hc=>
  refine⟨.tup [.str "put",.int p,.int (e a),.int (e c)],?_,.put f h1 ⟨a,d,rfl⟩ ⟨c,hc,rfl⟩,rfl⟩;unfold cD;rw[cO];unfold aS;simp[cF,bL,hk a d,hk c hc]
theorem Bl.at{kds d:List Kd}{rows:List c6}(h:Bl kds rows d):∀{j:Nat} {row:c6},rows[j]?=some row->aC (λa=>Nm d .w a/\a<kds.length+j) row/\d[kds.length+j]?=some (JW .w row)/\∀a,Nm kds .w a->Nm d .w a:=by
 have keep:∀{k k':List Kd} {rs:List c6},Bl k rs k'->∀(i:Nat) (x:Kd),k[i]?=some x->k'[i]?=some x:=by
  intro k k' rs h;induction h with
  |nil=>exact λ_ _ z=>z
  |cons _ _ e=>exact λi x z=>e i x (by rw[Ai (Ag.mp z).1];exact z)
 induction h with
 |nil=>intro j row c;simp at c
 | @cons kds d r rows a t e=>
  intro j row c;cases j with
  |zero=>
   simp at c;subst c;refine⟨a.imp λx b=>⟨⟨b.1,keep t _ _ (b.snoc (j:=JW .w r)).2⟩,by have:=b.lt;lia⟩,keep t _ _ (by simp),λx b=>⟨b.1,keep t _ _ (b.snoc (j:=JW .w r)).2⟩⟩
  |succ j=>
   obtain⟨h1,h2,f⟩:=e (by simpa using c);rw[Ao,Dh] at h1 h2;refine⟨h1.imp λx b=>⟨b.1,by have:=b.2;lia⟩,by rw[show kds.length+(j+1)=kds.length+1+j by lia];exact h2,λx b=>f x b.snoc⟩
noncomputable def swD:c6->c6
 |.tup [a,b]=>.tup [b,a]
 |_=>.non
noncomputable def kvz:Nat->List Int->List (aG×c6)
 |_,[]=>[]
 |k,x::xs=>(.inl x,.int (k:Int))::kvz (k+1) xs
theorem FK:∀(xs:List Int) (k:Nat),TY ((Y6 k (xs.map .int)).map swD)=some (kvz k xs)
 |[],_=>rfl
 |x::xs,k=>by rw[As,XA,As];show(kprD (.tup [.int x,.int (k:Int)])).bind (λp=>(TY ((Y6 (k+1) (xs.map .int)).map swD)).map λps=>p::ps)=_;rw[FK xs (k+1)];rfl
theorem M0:∀(xs:List Int) (k:Nat),(kvz k xs).map Db=xs.map .inl
 |[],_=>rfl
 |x::xs,k=>by rw[kvz,As,M0 xs (k+1)];rfl
theorem BA:∀(xs:List Int) (k i:Nat),i<xs.length->((kvz k xs).map Ec)[i]?=some (.int ((k+i:Nat):Int))
 |[],_,i,h=>by simp at h
 |x::xs,k,0,_=>rfl
 |x::xs,k,i+1,h=>by
  have:=BA xs (k+1) i (by simpa using h)
  rw[kvz,As,List.getElem?_cons_succ,this];congr 3;lia
theorem lM{order:List Int}(c:order.Nodup){a:Int}(d:a∈order):bN ((kvz 0 order).map Db) ((kvz 0 order).map Ec) (.inl a)=some (.int (order.idxOf a:Int)):=by
 have hi:order.idxOf a<order.length:=Jk d;rw[FO _ _ (order.idxOf a) (.inl a) ?_ (by simp) ?_,BA _ _ _ hi]
 ·simp
 ·rw[M0]
  exact Gm _ (λa b h e=>h (by injection e)) c
 ·rw[M0,Dc,Dw hi,Mr hi]
  rfl
noncomputable def TZ(rows:List c6)(r:Int):c6:=(rows[r.toNat]?).getD .non
noncomputable def D4(rows:List c6)(names:c6):c6->c6
 |.int r=>match cD [TZ rows r,names] with
  |some (d,_)=>d
  |none=>.non
 |_=>.non
theorem B5{rows os:List c6}{names a:c6}{r:Int}(e:cD [TZ rows r,names]=some (a,os)):D4 rows names (.int r)=a:=by simp only[D4,e]
def HC(order:List Int):c6:=.dct ((kvz 0 order).map Db) ((kvz 0 order).map Ec)
theorem Tw{rows:List c6}{kds:List Kd}(n:Bl [] rows kds){ps:List (Int×Int)}(P:Prs rows ps){order:List Int}(q:order.Perm (rgI rows.length))(x:∀p∈ps,∀k:Nat,order[k]?=some p.2->p.1∈order.take k){pre rest:List Int}{r:Int}(f:order=pre++r::rest):∃i,cD [TZ rows r,HC order]=some (i,[])/\WJ rows r=some (TZ rows r)/\aC (Nm (pre.map λa=>JW .w (TZ rows a)) .w) i/\JW .w i=JW .w (TZ rows r):=by
 have y:order.Nodup:=q.nodup_iff.mpr ((D6 _).imp λh=>by lia);have z:r∈order:=by rw[f];simp
 have j:=B7.mp (q.mem_iff.mp z);have o:rows[r.toNat]?=some (TZ rows r):=by unfold TZ;rw[Dw (by lia)];rfl
 obtain⟨h1,h2,_⟩:=n.at o;obtain⟨as,u,a2,C⟩:=h1.strong;have t:∀a∈as,a∈pre:=λa c=>by
  have d:=u a c;have D:a<r:=by have:=d.2;simp at this;lia
  have A:=P.nm r.toNat _ as o C a c d.1.1 (by lia);have:=x _ A pre.length (by rw[f];simp;lia)
  rw[f,Ie] at this;exact this
 obtain⟨i,e,ok,mk⟩:=D5 a2 (ks:=(kvz 0 order).map Db) (vs:=(kvz 0 order).map Ec) (λa=>(order.idxOf a:Int)) (λa c=>lM y (by rw[f];exact Bz.mpr (.inl (t a c))));refine⟨i,e,by rw[X1 j.1 (by lia)];exact o,ok.imp λb m=>?_,mk⟩;obtain⟨a,c,rfl⟩:=m;have g:=t a c;have hi:pre.idxOf a<pre.length:=Jk g;have l:order.idxOf a=pre.idxOf a:=by rw[f,List.idxOf_append,if_pos g]
 refine⟨by lia,?_⟩;rw[l,Hv,Dc,Dw hi,Mr hi];have d:=(u a c).1;have B:=d.lt;have E:kds.length=rows.length:=by simpa using n.len
 have v:rows[a.toNat]?=some (TZ rows a):=by unfold TZ;rw[Dw (by have:=d.1;lia)];rfl
 obtain⟨_,s,_⟩:=n.at v;simp only[Hg,Ig] at s;have:=d.2
 rw[s] at this;injection this with this;rw[Po,this]
theorem Ul{rows:List c6}{kds:List Kd}(f:Bl [] rows kds){ps:List (Int×Int)}(P:Prs rows ps){order:List Int}(d:order.Perm (rgI rows.length))(c:∀p∈ps,∀k:Nat,order[k]?=some p.2->p.1∈order.take k):∀(rest pre:List Int),order=pre++rest->Bl (pre.map λa=>JW .w (TZ rows a)) ((rest.map .int).map (D4 rows (HC order))) (order.map λa=>JW .w (TZ rows a))
 |[],pre,b=>by rw[b,Bp];exact .nil
 |r::rest,pre,b=>by obtain⟨i,e,_,ok,mk⟩:=Tw f P d c b;have h:=B5 e;have g:=Ul f P d c rest (pre++[r]) (by rw[b,Bo];rfl);rw[As,As,h];refine .cons ok ?_;rw[mk];simpa using g
theorem E1(ns:List Int)(n:Nat)(c:Int)(hl:ns.length<=63)(hn:n<100000)(h0:0<=c)(O:c<=10):∃(sure:Int) (rows:List c6) (kds:List Kd) (t:Nat),Bl [] rows kds/\(rows.length:Int)<=c/\0<=sure/\sure<=64/\t<=n+1000/\Y9 [VN ns,XE n,.int c]=some (.tup [.int sure,.tup rows],[XE t]):=by
 obtain⟨x,v,ex⟩:=W4 ns n [.int 3,.int 6,.int 9,.int 64] hl (by lia) (by simp);obtain⟨f,rfl,I,r1⟩:∃q:Int,x=.int q/\0<q/\q<=64:=by simp only[Aj,Aw,or_false] at v;rcases v with rfl|rfl|rfl|rfl<;>exact⟨_,rfl,by lia,by lia⟩
 have G:=XM ns (n+1) (f+1) hl (by lia) (by lia);have X:=PU ns (n+1) (b:=f+1) (by lia);have W:K9 ns (n+1) (f+1)<f+1:=El _ (by lia);obtain⟨y,u,A⟩:=W4 ns (n+2) [.int 0,.int f,.int f,.int (K9 ns (n+1) (f+1))] hl (by lia) (by simp);obtain⟨sure,rfl,p,s1⟩:∃q:Int,y=.int q/\0<=q/\q<=64:=by simp only[Aj,Aw,or_false] at u;rcases u with rfl|rfl|rfl|rfl<;>exact⟨_,rfl,by lia,by lia⟩
 have F:=XM ns (n+3) (c+1) hl (by lia) (by lia);have o:=PU ns (n+3) (b:=c+1) (by lia);have V:K9 ns (n+3) (c+1)<c+1:=El _ (by lia);obtain⟨rows,kds,g,k,ah,Z,Y,C⟩:=oJ ns (n+4) (K9 ns (n+3) (c+1)) f hl (by lia) I r1 o (by lia);have E:=XM ns g 3 hl (by lia) (by decide);have l:rows.length<=10:=by lia
 by_cases w:0<K9 ns g 3
 ·refine ⟨sure,rows,kds,g + 1,k,by lia,p,s1,by lia,?_⟩
  unfold Y9;rw[cO];unfold VA;simp[cF,ex,G,A,F,C,E,w]
 ·obtain ⟨ps,order,P,j,s,U⟩ := kF ns (g + 1) (sure := sure) hl (by lia) k l
  have L:order.length=rows.length:=by rw[j.length_eq,IC]
  have J:order.Nodup:=j.nodup_iff.mpr ((D6 _).imp λh=>by lia);have H:=PQ 0 WC (λ_=>true) (bE (cZ (fV 1) (cZ (fV 0) cC))) swD [] rfl (Y6 0 (order.map .int)) [] (λd hd=>by obtain⟨i,hi,e⟩:=List.getElem_of_mem hd;obtain⟨z,_,rfl⟩:=LB (Ag.mpr ⟨hi,e⟩);exact⟨_,_,rfl,by simp,λ_=>by simp[swD]⟩) (by rw[LC];simp;lia)
  have f1:(Y6 0 (order.map c6.int)).filter (λ_=>true)=Y6 0 (order.map .int):=List.filter_eq_self.mpr λ_ _=>rfl;rw[f1,Cd] at H;have hd:JZ (.lst ((Y6 0 (order.map .int)).map swD))=some (HC order):=by
   show(TY ((Y6 0 (order.map .int)).map swD)).bind (λkds=>if(kds.map Db).Nodup then some (c6.dct (kds.map Db) (kds.map Ec)) else none)=_;rw[FK,Ak,if_pos]
   ·rfl
   ·rw[M0]
    exact Gm _ (λa b h e=>h (by injection e)) J
  have c2:=XJ 2 (cQ 2 [] cD (aE (f2 cH (f2 cH (fV 0) (fC (.int 1))) (fV 2)) (aE (fV 1) b9))) [.va (.tup [.int sure,.tup rows]),.va (HC order)] (D4 rows (HC order)) rfl (order.map .int) [] (λd hd=>by obtain⟨r,K,rfl⟩:=Cc.mp hd;obtain⟨pre,rest,M⟩:=List.append_of_mem K;obtain⟨bz,e,T,_,_⟩:=Tw k P j s M;have Q:=B5 e;rw[Q];simp[T,e]) (by simp;lia)
  rw[Cd] at c2;have B:=Ul k P j s order [] rfl;refine⟨sure,(order.map .int).map (D4 rows (HC order)),_,g+1+rows.length,B,by simp;lia,p,s1,by lia,?_⟩;have m:¬0<K9 ns g 3:=w;unfold Y9;rw[cO];unfold VA;have N:((order.map c6.int).map (D4 rows (HC order))).length<=16777216:=by simp;lia
  generalize (order.map c6.int).map (D4 rows (HC order))=R at*;generalize (Y6 0 (order.map c6.int)).map swD=S at*;generalize HC order=D at*;simp[cF,ex,G,A,F,C,E,m,U,bL,H,hd,c2]
noncomputable abbrev D7:List String:=["over","plus","minus","times","least","most","less"]
inductive Rw where
 |num (n:Int)|two (x:String) (a b:Int)|pick (c a b:Int)|load (p:Int)|take (p c a:Int)|store (p a:Int)|put (p a c:Int)
def Rw.dat:Rw->c6
 |.num n=>.tup [.str "number",.int n]
 |.two x a b=>.tup [.str x,.int a,.int b]
 |.pick c a b=>.tup [.str "pick",.int c,.int a,.int b]
 |.load p=>.tup [.str "load",.int p]
 |.take p c a=>.tup [.str "take",.int p,.int c,.int a]
 |.store p a=>.tup [.str "store",.int p,.int a]
 |.put p a c=>.tup [.str "put",.int p,.int a,.int c]
def Rw.nms:Rw->List Int
 |.num _=>[]
 |.two _ a b=>[a,b]
 |.pick c a b=>[c,a,b]
 |.load _=>[]
 |.take _ c a=>[c,a]
 |.store _ a=>[a]
 |.put _ a c=>[a,c]
def Rw.hd:Rw->String
 |.num _=> "number"
 |.two x _ _=>x
 |.pick _ _ _=> "pick"
 |.load _=> "load"
 |.take _ _ _=> "take"
 |.store _ _=> "store"
 |.put _ _ _=> "put"
def Rw.mk:Rw->Bool
 |.store _ _=>false
 |.put _ _ _=>false
 |_=>true
def Rw.ren(f:Int->Int):Rw->Rw
 |.num n=>.num n
 |.two x a b=>.two x (f a) (f b)
 |.pick c a b=>.pick (f c) (f a) (f b)
 |.load p=>.load p
 |.take p c a=>.take p (f c) (f a)
 |.store p a=>.store p (f a)
 |.put p a c=>.put p (f a) (f c)
abbrev Pl(p:Int):Prop:=0<=p/\p<=63
def Rw.Ok(M:Int->Prop):Rw->Prop
 |.num n=>Wd n
 |.two x a b=>x∈D7/\M a/\M b
 |.pick c a b=>M c/\M a/\M b
 |.load p=>Pl p
 |.take p c a=>Pl p/\M c/\M a
 |.store p a=>Pl p/\M a
 |.put p a c=>Pl p/\M a/\M c
section
variable{M M':Int->Prop}{r:Rw}
theorem Rw.Ok.imp(h:r.Ok M)(f:∀a,M a->M' a):r.Ok M':=by
 cases r with
 |num=>exact h
 |two=>exact⟨h.1,f _ h.2.1,f _ h.2.2⟩
 |pick=>exact⟨f _ h.1,f _ h.2.1,f _ h.2.2⟩
 |load=>exact h
 |take=>exact⟨h.1,f _ h.2.1,f _ h.2.2⟩
 |store=>exact⟨h.1,f _ h.2⟩
 |put=>exact⟨h.1,f _ h.2.1,f _ h.2.2⟩
theorem Rw.Ok.ren{f:Int->Int}(h:r.Ok M)(k:∀a,M a->M' (f a)):(r.ren f).Ok M':=by
 cases r with
 |num=>exact h
 |two=>exact⟨h.1,k _ h.2.1,k _ h.2.2⟩
 |pick=>exact⟨k _ h.1,k _ h.2.1,k _ h.2.2⟩
 |load=>exact h
 |take=>exact⟨h.1,k _ h.2.1,k _ h.2.2⟩
 |store=>exact⟨h.1,k _ h.2⟩
 |put=>exact⟨h.1,k _ h.2.1,k _ h.2.2⟩
theorem Rw.Ok.row(h:r.Ok M):aC M r.dat:=by
 cases r with
 |num=>exact .number h.1 h.2
 |two=>exact .two h.1 h.2.1 h.2.2
 |pick=>exact .pick h.1 h.2.1 h.2.2
 |load=>exact .load h.1 h.2
 |take=>exact .take h.1.1 h.1.2 h.2.1 h.2.2
 |store=>exact .store h.1.1 h.1.2 h.2
 |put=>exact .put h.1.1 h.1.2 h.2.1 h.2.2
theorem Rw.Ok.nm(h:r.Ok M):∀a∈r.nms,M a:=by
 cases r with
 |num=>exact λ_ h=>nomatch h
 |two=>
  intro a b;simp only[Rw.nms,Aj,Aw,or_false] at b;rcases b with rfl|rfl
  ·exact h.2.1
  ·exact h.2.2
 |pick=>
  intro a b;simp only[Rw.nms,Aj,Aw,or_false] at b;rcases b with rfl|rfl|rfl
  ·exact h.1
  ·exact h.2.1
  ·exact h.2.2
 |load=>exact λ_ h=>nomatch h
 |take=>
  intro a b;simp only[Rw.nms,Aj,Aw,or_false] at b;rcases b with rfl|rfl
  ·exact h.2.1
  ·exact h.2.2
 |store=>
  intro a b;simp only[Rw.nms,Aj,Aw,or_false] at b;rcases b with rfl
  ·exact h.2
 |put=>
  intro a b;simp only[Rw.nms,Aj,Aw,or_false] at b;rcases b with rfl|rfl
  ·exact h.2.1
  ·exact h.2.2
theorem Rw.nl:r.nms.length<=3:=by cases r<;>simp[Rw.nms]
@[simp] theorem Rw.ix0:cH r.dat (.int 0)=some (.str (Bj r.hd)):=by cases r<;>rfl
@[simp] theorem Rw.ren_mk{f:Int->Int}:(r.ren f).mk=r.mk:=by cases r<;>rfl
@[simp] theorem Rw.dat_hard:r.dat.hard=true:=by cases r<;>rfl
theorem d7{x:String}(h:x∈D7):x= "over" ∨x= "plus" ∨x= "minus" ∨x= "times" ∨x= "least" ∨x= "most" ∨x= "less":=by simpa using h
theorem Rw.Ok.noif(h:r.Ok M):¬r.hd= "if":=by
 cases r with
 |two=>obtain⟨h,_⟩:=h;rcases d7 h with rfl|rfl|rfl|rfl|rfl|rfl|rfl<;>simp[Rw.hd]
 |_=>simp[Rw.hd]
theorem Rw.Ok.names(h:r.Ok M):ZH [r.dat]=some (.lst (r.nms.map .int),[])/\Z8 [r.dat]=some (.lst (r.nms.map .int),[]):=by
 cases r with
 |two=>obtain⟨h,_⟩:=h;rcases d7 h with rfl|rfl|rfl|rfl|rfl|rfl|rfl<;>exact⟨by kernel_rfl,by kernel_rfl⟩
 |_=>exact⟨by kernel_rfl,by kernel_rfl⟩
theorem Rw.Ok.made(h:r.Ok M):Y3 [r.dat]=some (.bl r.mk,[]):=by
 cases r with
 |two=>obtain⟨h,_⟩:=h;rcases d7 h with rfl|rfl|rfl|rfl|rfl|rfl|rfl<;>kernel_rfl
 |_=>kernel_rfl
theorem Rw.Ok.isif(h:r.Ok M):RG [r.dat]=some (.bl false,[]):=by
 cases r with
 |two=>obtain⟨h,_⟩:=h;rcases d7 h with rfl|rfl|rfl|rfl|rfl|rfl|rfl<;>kernel_rfl
 |_=>kernel_rfl
end
noncomputable def dv(x:String)(u v:Int):Option Int:=match WM [.str x,.lst [.int u,.int v]] with
 |some (.int w,_)=>some w
 |_=>none
noncomputable def oD:Option Int->c6
 |some w=>.int w
 |none=>.non
theorem HE{x:String}(a:x∈D7){u v:Int}(c:Wd u)(b:Wd v):WM [.str x,.lst [.int u,.int v]]=some (oD (dv x u v),[])/\(x≠ "over" ->∃w,dv x u v=some w)/\∀w,dv x u v=some w->Wd w:=by
 obtain⟨r,e,d⟩:=lD a c b;unfold dv;rw[e];rcases d with⟨rfl,h,_⟩|⟨w,rfl,h⟩
 ·exact⟨rfl,λz=>absurd h z,λ_ h=>nomatch h⟩
 ·exact⟨rfl,λ_=>⟨w,rfl⟩,λ_ h'=>by cases h';exact h⟩
theorem Xi{u:Int}(b:Wd u):∃w,dv "over" u 1=some w:=by
 have e:UX [.int u,.int 1]=some (.int (u/1),[]):=by unfold UX;rw[cO];unfold LK;simp[cF,cDiv]
 have a:WM [.str "over",.lst [.int u,.int 1]]=some (.int (u/1),[]):=by unfold WM;rw[cO];unfold LG;simp[cF,VQ,bN,ZM,VZ,e,c6.hard]
 exact⟨u/1,by unfold dv;rw[a]⟩
inductive MS where
 |ok (m:c6) (cs:List Int)|bad (s:String)
noncomputable def YF(w:Int->Int)(cs:List Int):Rw->MS
 |.num n=>.ok (.int n) cs
 |.two x a b=>match dv x (w a) (w b) with
  |some v=>.ok (.int v) cs
  |none=>.bad "nought"
 |.pick c a b=>.ok (.int (if w c=0 then w b else w a)) cs
 |.load p=>if p<cs.length then .ok (.int (cs.getD p.toNat 0)) cs else .bad "beyond"
 |.take p c a=>if w c=0 then .ok (.int (w a)) cs else if p<cs.length then .ok (.int (cs.getD p.toNat 0)) cs else .bad "beyond"
 |.store p a=>if p<cs.length then .ok .non (cs.set p.toNat (w a)) else .bad "beyond"
 |.put p a c=>if w c=0 then .ok .non cs else if p<cs.length then .ok .non (cs.set p.toNat (w a)) else .bad "beyond"
def MS.out(cs:List Int):MS->c6×List c6
 |.ok m cs'=>(.tup [m,.non],[.lst (cs'.map .int)])
 |.bad s=>(.tup [.non,.str s],[.lst (cs.map .int)])
theorem Vc{cs:List Int}{p:Int}(a:0<=p)(h1:p<cs.length):WJ (cs.map c6.int) p=some (.int (cs.getD p.toNat 0)):=by
 have hi:p.toNat<cs.length:=by lia
 rw[X1 a (by simpa using h1),Dc,Dw hi];simp[hi]
theorem Th{cs:List Int}{p:Int}(h1:p<cs.length)(b:0<=p)(a:∀c∈cs,Wd c):Wd (cs.getD p.toNat 0):=by
 have hi:p.toNat<cs.length:=by lia
 simp[hi];exact a _ (Ik hi)
theorem Vk{cs:List Int}{p:Int}(a:0<=p)(h1:p<cs.length):JQ cs.length p=some p.toNat:=by unfold JQ;rw[if_pos a,if_pos h1]
@[simp] theorem vt{p:Int}{t:List c6}:bA [.tup (.str "load":: .int p::t)]=some (.int p,[]):=by unfold bA;rw[cO];unfold YR;simp[cF,X0,Z7]
@[simp] theorem sA{p:Int}{t:List c6}:bA [.tup (.str "take":: .int p::t)]=some (.int p,[]):=by unfold bA;rw[cO];unfold YR;simp[cF,X0,Z7]
@[simp] theorem sI{p:Int}{t:List c6}:bA [.tup (.str "store":: .int p::t)]=some (.int p,[]):=by unfold bA;rw[cO];unfold YR;simp[cF,X0,Z7]
@[simp] theorem uj{p:Int}{t:List c6}:bA [.tup (.str "put":: .int p::t)]=some (.int p,[]):=by unfold bA;rw[cO];unfold YR;simp[cF,X0,Z7]
@[simp] theorem uT{t:List c6}:bA [.tup (.str "pick"::t)]=some (.non,[]):=by unfold bA;rw[cO];unfold YR;simp[cF,X0,Z7]
theorem dH{x:String}(a:x∈D7){t:List c6}:bA [.tup (.str x::t)]=some (.non,[]):=by unfold bA;rw[cO];unfold YR;have e:=(HD a (y:= "load") (by decide)).2;have d:=(HD a (y:= "take") (by decide)).2;have c:=(HD a (y:= "store") (by decide)).2;have b:=(HD a (y:= "put") (by decide)).2;simp[cF,X0,Z7,e,d,c,b]
@[simp] theorem wH{d:c6}:Y0 [.str "load",d]=some (.bl true,[]):=by kernel_rfl
@[simp] theorem tO{d:c6}:Y0 [.str "store",d]=some (.bl true,[]):=by kernel_rfl
@[simp] theorem sD{a:Int}{ds:List c6}:Y0 [.str "take",.lst (.int a::ds)]=some (.bl (!decide (a=0)),[]):=by unfold Y0;rw[cO];unfold RT;simp[cF]
@[simp] theorem vX{a b:Int}{ds:List c6}:Y0 [.str "put",.lst (.int a:: .int b::ds)]=some (.bl (!decide (b=0)),[]):=by unfold Y0;rw[cO];unfold RT;simp[cF]
theorem WZ{x:String}{p:Int}{t ws cs:List c6}{r:c6×List c6}{c:c6}(a:x= "load" ∨x= "take" ∨x= "store" ∨x= "put")(h:bM [.str x,.int p,.lst ws,.lst cs]=some (r.1,[c])):ZQ [.tup (.str x:: .int p::t),.lst ws,.lst cs,.int 0]=some (r.1,[c]):=by
 have b:bA [.tup (.str x:: .int p::t)]=some (.int p,[]):=by rcases a with rfl|rfl|rfl|rfl<;>simp
 have d:¬x= "number":=by rcases a with rfl|rfl|rfl|rfl<;>decide
 unfold ZQ;rw[cO];unfold SG;simp[cF,h,b,d]
theorem kJ{u v z:Int}:WM [.str "pick",.lst [.int u,.int v,.int z]]=some (.int (if u=0 then z else v),[]):=by
 have e:N6 [.int u,.int v,.int z]=some (.int (if u=0 then z else v),[]):=by unfold N6;rw[cO];unfold DF;by_cases h:u=0<;>simp[cF,h]
 unfold WM;rw[cO];unfold LG;simp[cF,e,c6.hard]
section
variable{M:Int->Prop}{r:Rw}{w:Int->Int}{cs:List Int}
theorem Vh(h:r.Ok M)(hw:∀a∈r.nms,Wd (w a)):ZQ [r.dat,.lst ((r.nms.map w).map .int),.lst (cs.map .int),.int 0]=some ((YF w cs r).out cs):=by
 cases r with
 |num n=>exact(by kernel_rfl:ZQ [.tup [.str "number",.int n],.lst [],.lst (cs.map .int),.int 0]=some (.tup [.int n,.non],[.lst (cs.map .int)]))
 |two x a b=>
  obtain⟨j,_⟩:=h;obtain⟨e,_,_⟩:=HE j (hw a (by simp[Rw.nms])) (hw b (by simp[Rw.nms]));have l:=dH j (t:=[.int a,.int b]);have k:=(HD j (y:= "number") (by decide)).1;unfold ZQ;rw[cO];unfold SG;simp only[Rw.dat,Rw.nms,YF,As,Cr];cases hd:dv x (w a) (w b) with
  |none=>rw[hd] at e;simp[cF,l,e,oD,MS.out,k]
  |some v=>rw[hd] at e;simp[cF,l,e,oD,MS.out,k]
 |pick c a b=>
  unfold ZQ;rw[cO];unfold SG;simp[Rw.dat,Rw.nms,YF,cF,kJ,MS.out]
 |load p=>
  have i:=h.1;simp only[Rw.dat,Rw.nms,YF,Cr];by_cases f:p<cs.length
  ·have d : ¬ (cs.length : Int) <= p := by lia
   rw[if_pos f];refine WZ (r:=(_,[])) (by simp) ?_;unfold bM;rw[cO];unfold a7;simp[cF,d,Vc i f,Z7]
  ·have d : (cs.length : Int) <= p := by lia
   rw[if_neg f];refine WZ (r:=(_,[])) (by simp) ?_;unfold bM;rw[cO];unfold a7;simp[cF,d]
 |take p c a=>
  have i:=h.1.1;simp only[Rw.dat,Rw.nms,YF,As,Cr];by_cases g:w c=0
  ·rw[if_pos g]
   refine WZ (r:=(_,[])) (by simp) ?_;unfold bM;rw[cO];unfold a7;simp[cF,g]
  ·rw[if_neg g]
   by_cases f:p<cs.length
   ·have d : ¬ (cs.length : Int) <= p := by lia
    rw[if_pos f];refine WZ (r:=(_,[])) (by simp) ?_;unfold bM;rw[cO];unfold a7;simp[cF,g,d,Vc i f,Z7]
   ·have d : (cs.length : Int) <= p := by lia
    rw[if_neg f];refine WZ (r:=(_,[])) (by simp) ?_;unfold bM;rw[cO];unfold a7;simp[cF,g,d]
 |store p a=>
  have i:=h.1.1;simp only[Rw.dat,Rw.nms,YF,As,Cr];by_cases f:p<cs.length
  ·have d : ¬ (cs.length : Int) <= p := by lia
   rw[if_pos f];refine WZ (r:=(_,[])) (by simp) ?_;unfold bM;rw[cO];unfold a7;simp[cF,d,Vk i f,Qt,Z7]
  ·have d : (cs.length : Int) <= p := by lia
   rw[if_neg f];refine WZ (r:=(_,[])) (by simp) ?_;unfold bM;rw[cO];unfold a7;simp[cF,d]
 |put p a c=>
  have i:=h.1.1;simp only[Rw.dat,Rw.nms,YF,As,Cr];by_cases g:w c=0
  ·rw[if_pos g]
   refine WZ (r:=(_,[])) (by simp) ?_;unfold bM;rw[cO];unfold a7;simp[cF,g]
  ·rw[if_neg g]
   by_cases f:p<cs.length
   ·have d : ¬ (cs.length : Int) <= p := by lia
    rw[if_pos f];refine WZ (r:=(_,[])) (by simp) ?_;unfold bM;rw[cO];unfold a7;simp[cF,g,d,Vk i f,Qt,Z7]
   ·have d : (cs.length : Int) <= p := by lia
    rw[if_neg f];refine WZ (r:=(_,[])) (by simp) ?_;unfold bM;rw[cO];unfold a7;simp[cF,g,d]
theorem Uq{p:Int}{u:Int}(a:∀c∈cs,Wd c)(b:Wd u):∀c∈cs.set p.toNat u,Wd c:=λc h=>by
 rcases List.mem_or_eq_of_mem_set h with z|z
 ·exact a c z
 ·rw[z];exact b
theorem MK(h:r.Ok M)(hw:∀a∈r.nms,Wd (w a))(d:∀c∈cs,Wd c){m:c6}{cs':List Int}(e:YF w cs r=.ok m cs'):cs'.length=cs.length/\(∀c∈cs',Wd c)/\UJ 0 m/\(r.mk=true->∃x,Wd x/\m=.int x):=by
 cases r with
 |num n=>cases e;exact⟨rfl,d,aR,λ_=>⟨n,h,rfl⟩⟩
 |two x a b=>
  obtain⟨_,_,k⟩:=HE h.1 (hw a (by simp[Rw.nms])) (hw b (by simp[Rw.nms]));simp only[YF] at e;cases hd:dv x (w a) (w b) with
  |none=>rw[hd] at e;cases e
  |some v=>rw[hd] at e;cases e;exact⟨rfl,d,aR,λ_=>⟨v,k v hd,rfl⟩⟩
 |pick c a b=>
  cases e;refine⟨rfl,d,aR,λ_=>⟨_,?_,rfl⟩⟩;split
  ·exact hw b (by simp[Rw.nms])
  ·exact hw a (by simp[Rw.nms])
 |load p=>
  simp only[YF] at e;split at e
  ·rename_i f;cases e;exact⟨rfl,d,aR,λ_=>⟨_,Th f h.1 d,rfl⟩⟩
  ·cases e
 |take p c a=>
  simp only[YF] at e;split at e
  ·cases e;exact⟨rfl,d,aR,λ_=>⟨_,hw a (by simp[Rw.nms]),rfl⟩⟩
  ·split at e
   ·rename_i f;cases e;exact⟨rfl,d,aR,λ_=>⟨_,Th f h.1.1 d,rfl⟩⟩
   ·cases e
 |store p a=>
  simp only[YF] at e;split at e
  ·cases e;exact⟨by simp,Uq d (hw a (by simp[Rw.nms])),M4,λz=>nomatch z⟩
  ·cases e
 |put p a c=>
  simp only[YF] at e;split at e
  ·cases e;exact⟨rfl,d,M4,λz=>nomatch z⟩
  ·split at e
   ·cases e;exact⟨by simp,Uq d (hw a (by simp[Rw.nms])),M4,λz=>nomatch z⟩
   ·cases e
end
theorem Ab.lt{ab:List Bool}{a:Int}(h:Ab ab a):a<ab.length:=by
 have:=(Ag.mp h.2).1
 have:=h.1
 lia
theorem Ab.app{ab b:List Bool}{a:Int}(h:Ab ab a):Ab (ab++b) a:=⟨h.1,by rw[Ai (Ag.mp h.2).1];exact h.2⟩
theorem Ab.inv{ab:List Bool}{b:Bool}{a:Int}(h:Ab (ab++[b]) a):Ab ab a∨(a=ab.length/\b=true):=by
 have d:=h.1;have hl:=h.lt;rw[Ao,Dh] at hl;by_cases hi:a.toNat<ab.length
 ·exact .inl ⟨d,by have:=h.2;rwa[Ai hi] at this⟩
 ·have c : a.toNat = ab.length := by lia
  have e:=h.2;rw[c] at e;exact .inr ⟨by lia,by simpa using e⟩
theorem Ab.new{ab:List Bool}:Ab (ab++[true]) ab.length:=⟨by lia,by simp⟩
noncomputable def wv(b:List c6)(a:Int):Int:=match WJ b a with
 |some (.int x)=>x
 |_=>0
theorem QH{ws es:List c6}{a:Int}(b:0<=a)(h1:a<ws.length):WJ (ws++es) a=WJ ws a:=by rw[X1 b (by simp;lia),X1 b h1,Ai (by lia)]
theorem Z2{ws es:List c6}{a:Int}(b:0<=a)(h1:a<ws.length):wv (ws++es) a=wv ws a:=by unfold wv;rw[QH b h1]
theorem K4{ws es:List c6}{m:c6}{a:Int}(h:a=ws.length):WJ (ws++m::es) a=some m:=by subst h;rw[X1 (by lia) (by simp;lia)];simp
theorem XD{ws es:List c6}{x a:Int}(h:a=ws.length):wv (ws++ .int x::es) a=x:=by unfold wv;rw[K4 h]
structure Ws(ab:List Bool)(ws:List c6):Prop where
 len:ws.length=ab.length
 wd:∀a,Ab ab a->∃x,Wd x/\WJ ws a=some (.int x)
theorem Ws.nil:Ws [] []:=⟨rfl,λa h=>by have:=h.2;simp at this⟩
theorem Ws.word{ab:List Bool}{ws:List c6}{a:Int}(W:Ws ab ws)(h:Ab ab a):WJ ws a=some (.int (wv ws a))/\Wd (wv ws a):=by obtain⟨x,b,e⟩:=W.wd a h;unfold wv;rw[e];exact⟨rfl,b⟩
theorem Ws.lt{ab:List Bool}{ws:List c6}{a:Int}(W:Ws ab ws)(h:Ab ab a):a<ws.length:=by have:=h.lt;rw[W.len];exact this
theorem Ws.snoc{ab:List Bool}{ws:List c6}{b:Bool}{m:c6}(W:Ws ab ws)(h:b=true->∃x,Wd x/\m=.int x):Ws (ab++[b]) (ws++[m]):=by
 refine⟨by simp[W.len],λa d=>?_⟩;rcases d.inv with h1|⟨h1,h2⟩
 ·obtain⟨x,c,e⟩:=W.wd a h1
  exact⟨x,c,by rw[QH h1.1 (W.lt h1)];exact e⟩
 ·obtain⟨x,c,rfl⟩:=h h2
  exact⟨x,c,K4 (by rw[h1,W.len])⟩
structure KO where
 ws:List c6
 cs:List Int
 er:Option String
def KO.fd(o:KO):c6:=match o.er with
 |none=>.non
 |some s=>.tup [.int o.ws.length,.str s]
noncomputable def go:List Rw->List c6->List Int->KO
 |[],ws,cs=>⟨ws,cs,none⟩
 |r::rs,ws,cs=>match YF (wv ws) cs r with
  |.ok m cs'=>go rs (ws++[m]) cs'
  |.bad s=>⟨ws,cs,some s⟩
section
variable{r:Rw}{rs qs:List Rw}{ws:List c6}{cs cs':List Int}{m:c6}{s:String}{ab:List Bool}
theorem SM(e:YF (wv ws) cs r=.ok m cs'):go (r::rs) ws cs=go rs (ws++[m]) cs':=by
 show(match YF (wv ws) cs r with
  |.ok m cs'=>go rs (ws++[m]) cs'
  |.bad s=>⟨ws,cs,some s⟩)=_
 rw[e]
theorem U3(e:YF (wv ws) cs r=.bad s):go (r::rs) ws cs=⟨ws,cs,some s⟩:=by
 show(match YF (wv ws) cs r with
  |.ok m cs'=>go rs (ws++[m]) cs'
  |.bad s=>⟨ws,cs,some s⟩)=_
 rw[e]
def XU:List Bool->List Rw->Prop
 |_,[]=>True
 |ab,r::rs=>r.Ok (Ab ab)/\XU (ab++[r.mk]) rs
theorem XU.app:∀{rs qs:List Rw} {ab:List Bool},XU ab rs->XU (ab++rs.map Rw.mk) qs->XU ab (rs++qs)
 |[],_,_,_,h=>by simpa using h
 |r::rs,_,_,⟨h1,h2⟩,h=>⟨h1,XU.app h2 (by simpa using h)⟩
structure Kept(ab:List Bool)(rs:List Rw)(ws:List c6)(cs:List Int)(o:KO):Prop where
 len:o.cs.length=cs.length
 ok:∀c∈o.cs,Wd c
 oks:∀d∈o.ws,UJ 0 d
 all:o.er=none->Ws (ab++rs.map Rw.mk) o.ws
 ext:∃ex,o.ws=ws++ex/\ex.length<=rs.length
theorem kept:∀{rs:List Rw} {ab:List Bool} {ws:List c6} {cs:List Int},XU ab rs->Ws ab ws->(∀c∈cs,Wd c)->(∀d∈ws,UJ 0 d)->Kept ab rs ws cs (go rs ws cs)
 |[],ab,ws,cs,_,W,g,f=>⟨rfl,g,f,λ_=>by simpa[go] using W,[],by simp[go],by simp⟩
 | r :: rs,ab,ws,cs,⟨h1,h2⟩,W,g,f => by
  cases e:YF (wv ws) cs r with
  |bad s=>
   rw[U3 e];exact⟨rfl,g,f,(λz=>nomatch z),[],by simp,by simp⟩
  |ok m cs'=>
   rw[SM e];obtain⟨a,b,c,d⟩:=MK h1 (λa i=>(W.word (h1.nm a i)).2) g e;have k:=kept h2 (W.snoc d) b (λx h=>by
    rcases Bz.mp h with z|z
    ·exact f x z
    ·rw[Az.mp z];exact c)
   obtain⟨ex,l,j⟩:=k.ext;exact⟨k.len.trans a,k.ok,k.oks,λz=>by simpa using k.all z,m::ex,by rw[l];simp,by simpa using j⟩
theorem LM:∀{rs:List Rw} {ws:List c6} {cs:List Int},go (rs++qs) ws cs=if(go rs ws cs).er=none then go qs (go rs ws cs).ws (go rs ws cs).cs else go rs ws cs
 |[],ws,cs=>by simp[go]
 |r::rs,ws,cs=>by
  cases e:YF (wv ws) cs r with
  |bad s=>rw[Cy,U3 e,U3 e];simp
  |ok m cs'=>rw[Cy,SM e,SM e];exact LM
theorem DH:∀{rs:List Rw} {ws:List c6} {cs:List Int},∃ex,(go rs ws cs).ws=ws++ex/\ex.length<=rs.length
 |[],ws,cs=>⟨[],by simp[go],by simp⟩
 | r :: rs,ws,cs => by
  cases e:YF (wv ws) cs r with
  |bad s=>rw[U3 e];exact⟨[],by simp,by simp⟩
  |ok m cs'=>
   rw[SM e];obtain⟨ex,b,a⟩:=DH (rs:=rs) (ws:=ws++[m]) (cs:=cs');exact⟨m::ex,by rw[b];simp,by simpa using a⟩
noncomputable def fW(b:List c6):c6->c6
 |.int a=>.int (wv b a)
 |_=>.non
theorem Tr(a:List c6)(as:List Int):(as.map c6.int).map (fW a)=(as.map (wv a)).map c6.int:=by simp[fW]
theorem MQ{as:List Int}{d:c6}{ws:List c6}(c:as.length<=3)(h:∀a∈as,cH d (.int a)=some (.int (wv ws a))):ZZ 1 1 (gN 1) WC (f2 cH (fO 0) (fV 1)) (as.map .int) [] [.ow d]=some ((as.map (wv ws)).map .int,[.ow d]):=by
 rw[XJ 1 _ [.ow d] (fW ws) rfl _ [] (λe b=>?_) (by simp;lia),Tr]
 ·rfl
 ·obtain⟨a,f,rfl⟩:=Cc.mp b
  simp[h a f,fW]
noncomputable def stB(rws:c6)(cs:List c6)(ws:List c6)(a b c d:Sl):Ev:=
 [.va rws,.ow (.lst cs),.ow (.lst ws),a,b,c,d]
theorem gU{rws:c6}{cs ws:List c6}{a b c d:Sl}{i r:c6}:GP 3 4 (.tup [i,r]) (stB rws cs ws a b c d)=some (stB rws cs ws (.va i) (.va r) c d):=by simp[stB]
theorem oZ(h:r.Ok (Ab ab))(W:Ws ab ws)(hl:ws.length<16777216)(rws i:c6)(c d:Sl):U8 (stB rws (cs.map .int) ws (.va i) (.va r.dat) c d)=match YF (wv ws) cs r with
  |.ok m cs'=>some (.nx (stB rws (cs'.map .int) (ws++[m]) (.va i) (.va r.dat) (.va m) (.va .non)))
  |.bad s=>some (.rt (.tup [.lst ws,.tup [i,.str s]]) (stB rws (cs.map .int) ws (.va i) (.va r.dat) (.va .non) (.va (.str s)))):=by
 have c2:=MQ (d:=.lst ws) (ws:=ws) Rw.nl λa b=>by rw[Tv];exact(W.word (h.nm a b)).1
 have p2:=Vh (cs:=cs) h λa b=>(W.word (h.nm a b)).2;have f:=h.names.1;generalize (r.nms.map (wv ws)).map c6.int=zs at c2 p2;unfold U8;cases e:YF (wv ws) cs r with
 |ok m cs'=>rw[e] at p2;simp[stB,f,bL,c2,p2,MS.out,hl]
 |bad s=>rw[e] at p2;simp[stB,f,bL,c2,p2,MS.out]
theorem B9:∀{rs:List Rw} {ab:List Bool} {ws:List c6} {cs:List Int},XU ab rs->Ws ab ws->(∀c∈cs,Wd c)->ws.length+rs.length<1000->∀rws a b c d,∃h g f d',YQ (GP 3 4) U8 (Y6 ws.length (rs.map Rw.dat)) (stB rws (cs.map .int) ws a b c d)=some (match(go rs ws cs).er with
  |none=>.nx (stB rws ((go rs ws cs).cs.map .int) (go rs ws cs).ws h g f d')
  |some s=>.rt (.tup [.lst (go rs ws cs).ws,.tup [.int (go rs ws cs).ws.length,.str s]]) (stB rws ((go rs ws cs).cs.map .int) (go rs ws cs).ws h g f d'))
 |[],ab,ws,cs,_,_,_,_,rws,a,b,c,d=>⟨a,b,c,d,by simp[go,Y6]⟩
 | r :: rs,ab,ws,cs,⟨h1,h2⟩,W,i,hk,rws,a,b,c,d => by
  simp only[Ax] at hk;have st:=oZ (cs:=cs) h1 W (by lia) rws (.int ws.length) c d;rw[As,XA,XN,gU,VE,st];cases e:YF (wv ws) cs r with
  |bad s=>
   rw[U3 e];exact⟨_,_,_,_,rfl⟩
  |ok m cs'=>
   rw[SM e];obtain⟨_,l,_,k⟩:=MK h1 (λa n=>(W.word (h1.nm a n)).2) i e;obtain⟨h,g,f,d',j⟩:=B9 h2 (W.snoc k) l (by simp;lia) rws (.va (.int ws.length)) (.va r.dat) (.va m) (.va .non);rw[Ao,Dh] at j;exact⟨h,g,f,d',by rw[VH];exact j⟩
theorem EZ(a rws:c6)(sure:Int):∀{rs:List Rw} {ab:List Bool},XU ab rs->ab.length+rs.length<1000->∀s:Sl,∃s',YQ (gN 4) WD (rs.map Rw.dat) [.va a,.va (.int sure),.va rws,.ow (.lst (ab.map .bl)),s]=some (.nx [.va a,.va (.int sure),.va rws,.ow (.lst ((ab++rs.map Rw.mk).map .bl)),s'])
 |[],ab,_,_,s=>⟨s,by simp⟩
 |r::rs,ab,⟨h1,h2⟩,hk,s=>by
  simp only[Ax] at hk;obtain⟨s',c⟩:=EZ a rws sure h2 (by simp;lia) (.va r.dat);refine⟨s',?_⟩;have e:=FJ h1.row;have em:=h1.made;have b:ab.length<16777216:=by lia
  rw[As,XN,NE,VE];have d:WD [.va a,.va (.int sure),.va rws,.ow (.lst (ab.map .bl)),.va r.dat]=some (.nx [.va a,.va (.int sure),.va rws,.ow (.lst ((ab++[r.mk]).map .bl)),.va r.dat]):=by unfold WD;simp[e,em,b,c6.hard]
  have s1:([.va a,.va (.int sure),.va rws,.ow (.lst (ab.map .bl)),s]:Ev).set 4 (.va r.dat)=[.va a,.va (.int sure),.va rws,.ow (.lst (ab.map .bl)),.va r.dat]:=rfl;rw[s1,d,VH,c];simp
theorem D9{sure:Int}(h:XU [] rs)(g:0<=sure)(s1:sure<=64)(i:rs.length<=40)(a:∀c∈cs,Wd c)(k:sure<=cs.length)(j:cs.length<=64):NK [.tup [.int sure,.tup (rs.map Rw.dat)],.lst (cs.map .int)]=some (.tup [.lst ((go rs [] cs).cs.map .int),(go rs [] cs).fd],[]):=by
 obtain⟨s',f⟩:=EZ (.tup [.int sure,.tup (rs.map Rw.dat)]) (.tup (rs.map Rw.dat)) sure h (by simp;lia) .no;simp only[Cr] at f;have d:¬(40:Int)<(rs.length:Int):=by lia
 have o:W5 [.tup [.int sure,.tup (rs.map Rw.dat)]]=some (.bl true,[]):=by unfold W5;rw[cO,QL.eq_1];simp[cF,WW,WV,g,s1,d,f]
 have n:=E8 a k j;have l:XW [.tup [.int sure,.tup (rs.map Rw.dat)],.lst (cs.map .int)]=some (.non,[]):=by unfold XW;rw[cO];unfold SF;simp[cF,o,n]
 obtain⟨r,q,p,d',b⟩:=B9 h Ws.nil a (by simp;lia) (.tup (rs.map Rw.dat)) .no .no .no .no;have m:V6 [.tup (rs.map Rw.dat),.lst (cs.map .int)]=some (.tup [.lst (go rs [] cs).ws,(go rs [] cs).fd],[.lst ((go rs [] cs).cs.map .int)]):=by
  unfold KO.fd;simp only[stB,Hg] at b;unfold V6;rw[cO,OH.eq_1];cases e:(go rs [] cs).er with
  |none=>rw[e] at b;simp[cF,b]
  |some s=>rw[e] at b;simp[cF,b]
 unfold NK;rw[cO];unfold Sj;simp[cF,l,m]
end
@[simp] theorem sQ{ds:List c6}:RA (.lst ds) .non=some (.bl false):=(rfl)
@[simp] theorem uN{ds:List c6}:SU (.lst ds) .non=some (.bl true):=(rfl)
@[simp] theorem rP{x y:Bool}:XF (.bl x) (.bl y)=some (.bl (x==y)):=by cases x<;>cases y<;>kernel_rfl
@[simp] theorem wN{ds es:List c6}:mExt ds [.lst es]=if ds.length+es.length<=16777216 then some (ds++es) else none:=(rfl)
@[simp] theorem vy{ds:List c6}{k:Int}:BJ (.lst ds) (.int k)=if(0<=k/\k<4611686018427387904)/\ds.length*k.toNat<=16777216 then some (.lst (QY k.toNat ds)) else none:=by show(if(0<=k/\k<2 ^ 62)/\_ then _ else _)=_;rw[show(2:Int) ^ 62=4611686018427387904 by decide]
noncomputable def VU(c:Int)(s1 s2:List Rw):c6:=.tup [.str "if",.int c,.tup (s1.map Rw.dat),.tup (s2.map Rw.dat)]
noncomputable abbrev offs(rs:List Rw):List Bool:=rs.map λ_=>false
structure Y4(hd s1 s2:List Rw)(c:Int):Prop where
 h0:XU [] hd
 hc:Ab (hd.map Rw.mk) c
 h1:XU (hd.map Rw.mk++[false]) s1
 h2:XU (hd.map Rw.mk++[false]++offs s1) s2
 len:hd.length+s1.length+s2.length<20
theorem XU.ok:∀{rs:List Rw} {ab:List Bool},XU ab rs->∀r∈rs,∃M,r.Ok M
 |_::_,_,⟨h1,h2⟩,r,h=>by
  rcases Aj.mp h with z|z
  ·rw[z];exact⟨_,h1⟩
  ·exact XU.ok h2 r z
theorem XU.noif{rs:List Rw}{ab:List Bool}(h:XU ab rs):∀r∈rs,¬r.hd= "if":=λr a=>let ⟨_,k⟩:=h.ok r a;k.noif
section
variable{R:b8}{ab:List Bool}{rs hd s1 s2:List Rw}{c:Int}{tl:List c6}
theorem Q0(th a deep:c6):∀{rs:List Rw} {ab:List Bool},XU ab rs->ab.length+rs.length<=20->∀s,∃s',YQ (gN 4) (ZV R) (rs.map Rw.dat++tl) [.va th,.va a,.va deep,.va (.lst (ab.map .bl)),s]=YQ (gN 4) (ZV R) tl [.va th,.va a,.va deep,.va (.lst ((ab++rs.map Rw.mk).map .bl)),s']
 |[],ab,_,_,s=>⟨s,by simp⟩
 |r::rs,ab,⟨h1,h2⟩,hk,s=>by
  simp only[Ax] at hk;obtain⟨s',c⟩:=Q0 th a deep h2 (by simp;lia) (.va r.dat);refine⟨s',?_⟩;have e:=FJ h1.row;have em:=h1.made;have f:=h1.isif;have b:ab.length+1<=16777216:=by lia
  have d:¬(20:Int)<(ab.length:Int)+1:=by lia
  rw[As,Cy,XN,NE,VE];have g:ZV R [.va th,.va a,.va deep,.va (.lst (ab.map .bl)),.va r.dat]=some (.nx [.va th,.va a,.va deep,.va (.lst ((ab++[r.mk]).map .bl)),.va r.dat]):=by unfold ZV;simp[e,em,f,b,d,YK]
  have s1:([.va th,.va a,.va deep,.va (.lst (ab.map .bl)),s]:Ev).set 4 (.va r.dat)=[.va th,.va a,.va deep,.va (.lst (ab.map .bl)),.va r.dat]:=rfl;rw[s1,g,VH,c];simp
theorem jB{deep:c6}(n:Nat)(h:XU ab rs)(hk:ab.length+rs.length<=20):bJ (n+1) [.tup (rs.map Rw.dat),.lst (ab.map .bl),deep]=some (.lst ((ab++rs.map Rw.mk).map .bl),[]):=by show bD 5 [] (ZS (bJ n)) _=_;obtain⟨s',e⟩:=Q0 (R:=bJ n) (tl:=[]) (.tup (rs.map Rw.dat)) (.lst (ab.map .bl)) deep h hk .no;rw[Bp] at e;rw[cO,ZS.eq_1];simp[cF,e]
theorem gW{d:c6}(k:Nat):QY k [d]=Bn k d:=by
 unfold QY;induction k with
 |zero=>rfl
 |succ k a=>rw[Di,Fu,a,Di];rfl
theorem F3:∀rs:List Rw,Bn rs.length (c6.bl false)=(offs rs).map .bl
 |[]=>rfl
 |r::rs=>by simp only[Ax,Di,F3 rs,As]
theorem MI(n:Nat)(th a:c6)(h:XU ab rs)(hk:ab.length+rs.length<=20)(s:Sl):YB (bJ (n+1)) [.va th,.va a,.va (.int 0),.va (.lst (ab.map .bl)),.va (.tup (rs.map Rw.dat)),s]=some (.nx [.va th,.va a,.va (.int 0),.va (.lst ((ab++offs rs).map .bl)),.va (.tup (rs.map Rw.dat)),.va (.lst ((ab++rs.map Rw.mk).map .bl))]):=by
 have e:=jB (deep:=.int 1) n h hk;have h1:((ab.length:Int)+(rs.length:Int) - (ab.length:Int))=(rs.length:Int):=by lia
 have h2:(rs.length:Int)<4611686018427387904:=by lia
 have d:rs.length<=16777216:=by lia
 have c:ab.length+rs.length<=16777216:=by lia
 have b:=F3 rs;unfold YB;simp only[Bq] at e;simp -implicitDefEqProofs [e,h1,h2,d,c,gW,b]
theorem pF(n:Nat)(T:Y4 hd s1 s2 c):ZJ (bJ (n+1)) [VU c s1 s2,.lst ((hd.map Rw.mk).map .bl),.int 0]=some (.lst ((hd.map Rw.mk++[false]++offs s1++offs s2).map .bl),[]):=by
 have hl:=T.len;have a:=MI n (VU c s1 s2) (.lst ((hd.map Rw.mk).map .bl)) T.h1 (by simp;lia) .no;have d:=MI n (VU c s1 s2) (.lst ((hd.map Rw.mk).map .bl)) T.h2 (by simp;lia) (.va (.lst ((hd.map Rw.mk++[false]++s1.map Rw.mk).map .bl)));have em:=Up T.hc;have h1:hd.length+1<=16777216:=by lia
 generalize e:(hd.map Rw.mk).map c6.bl=A at em a d;have b:A.length=hd.length:=by rw[<-e];simp
 have f:(hd.map Rw.mk++[false]).map c6.bl=A++[.bl false]:=by rw[Bq,e];rfl
 rw[f] at a;unfold ZJ;rw[cO,YU.eq_1];unfold VU at a d⊢;simp[cF,em,SD,b,h1];rw[a];simp only[VH,XN,NE,VE,Ms,Mt,Uu];rw[d];simp
theorem IL{sure:Int}(T:Y4 hd s1 s2 c)(f:0<=sure)(a:sure<=64):YZ [.tup [.int sure,.tup (hd.map Rw.dat++[VU c s1 s2])]]=some (.bl true,[]):=by
 have hl:=T.len;have e:bJ 4 [.tup (hd.map Rw.dat++[VU c s1 s2]),.lst [],.int 0]=some (.lst ((hd.map Rw.mk++[false]++offs s1++offs s2).map .bl),[]):=by
  show bD 5 [] (ZS (bJ 3)) _=_;obtain⟨s',e⟩:=Q0 (R:=bJ 3) (tl:=[VU c s1 s2]) (.tup (hd.map Rw.dat++[VU c s1 s2])) (.lst []) (.int 0) T.h0 (by simp;lia) .no;have b:=pF 2 T;have j:RG [VU c s1 s2]=some (.bl true,[]):=by kernel_rfl
  simp only[Cr,Cd] at e;have k:¬(20:Int)<(hd.length:Int)+((s1.length:Int)+((s2.length:Int)+1)):=by lia
  have g:¬(20:Int)<(hd.length:Int)+1+(s1.length:Int)+(s2.length:Int):=by lia
  generalize l:(hd.map Rw.mk).map c6.bl=A at e b;generalize i:(hd.map Rw.mk++[false]++offs s1++offs s2).map c6.bl=B at b;have h:(B.length:Int)<=20:=by rw[<-i];simp;lia
  have d:¬(20:Int)<(B.length:Int):=by lia
  rw[cO,ZS.eq_1];simp[cF,e];unfold ZV;simp[j,b,YK,d]
 unfold YZ;rw[cO];unfold OJ;simp[cF,WW,f,a,e]
noncomputable def pD:Option (Int×Bool)->c6
 |none=>.tup []
 |some (c,b)=>.tup [.tup [.int c,.bl b]]
theorem OS(rows a:c6):∀{rs:List Rw} {acc:List c6},(∀r∈rs,¬r.hd= "if")->acc.length+rs.length<1000->∀s,∃s',YQ (gN 3) (W9 R) (rs.map Rw.dat++tl) [.va rows,.va a,.ow (.lst acc),s]=YQ (gN 3) (W9 R) tl [.va rows,.va a,.ow (.lst (acc++rs.map λr=>.tup [r.dat,a])),s']
 |[],acc,_,_,s=>⟨s,by simp⟩
 |r::rs,acc,h,hk,s=>by
  simp only[Ax] at hk;obtain⟨s',c⟩:=OS rows a (rs:=rs) (acc:=acc++[.tup [r.dat,a]]) (λq d=>h q (Ar _ d)) (by simp;lia) (.va r.dat);refine⟨s',?_⟩;have b:acc.length<16777216:=by lia
  have hi:=h r Ay;rw[As,Cy,XN,NE,VE];have e:W9 R [.va rows,.va a,.ow (.lst acc),.va r.dat]=some (.nx [.va rows,.va a,.ow (.lst (acc++[.tup [r.dat,a]])),.va r.dat]):=by unfold W9;simp[b,hi]
  have s1:([.va rows,.va a,.ow (.lst acc),s]:Ev).set 3 (.va r.dat)=[.va rows,.va a,.ow (.lst acc),.va r.dat]:=rfl;rw[s1,e,VH,c];simp
theorem JU(n:Nat)(a:c6)(h:∀r∈rs,¬r.hd= "if")(hk:rs.length<1000):XG (n+1) [.tup (rs.map Rw.dat),a]=some (.lst (rs.map λr=>.tup [r.dat,a]),[]):=by show bD 4 [] (VT (XG n)) _=_;obtain⟨s',e⟩:=OS (R:=XG n) (tl:=[]) (.tup (rs.map Rw.dat)) a (acc:=[]) h (by simpa using hk) .no;rw[Bp] at e;rw[cO,VT.eq_1];simp[cF,e]
noncomputable abbrev EU(o:Option (Int×Bool))(rs:List Rw):List c6:=rs.map λr=>.tup [r.dat,pD o]
theorem FQ{o:Option (Int×Bool)}{r:Rw}{rs:List Rw}:EU o (r::rs)=.tup [r.dat,pD o]::EU o rs:=rfl
theorem DL(T:Y4 hd s1 s2 c):XG 4 [.tup (hd.map Rw.dat++[VU c s1 s2]),.tup []]=some (.lst (EU none hd++(.tup [VU c s1 s2,.tup []]::(EU (some (c,true)) s1++EU (some (c,false)) s2))),[]):=by
 have hl:=T.len;show bD 4 [] (VT (XG 3)) _=_;obtain⟨s',e⟩:=OS (R:=XG 3) (tl:=[VU c s1 s2]) (.tup (hd.map Rw.dat++[VU c s1 s2])) (.tup []) (acc:=[]) T.h0.noif (by simp;lia) .no;have b:=JU 2 (pD (some (c,true))) T.h1.noif (by lia);have a:=JU 2 (pD (some (c,false))) T.h2.noif (by lia);have i:hd.length<16777216:=by lia
 have h:hd.length+1+s1.length<=16777216:=by lia
 have g:hd.length+1+s1.length+s2.length<=16777216:=by lia
 have f:hd.length+(s1.length+1)+s2.length<=16777216:=by lia
 have d:hd.length+(s1.length+1+s2.length)<=16777216:=by lia
 rw[cO,VT.eq_1];simp only[pD] at b a⊢;simp[cF,e];unfold W9;simp[VU,i,b,a,h,g,f,d];rfl
noncomputable def PD(rws:c6)(cs:List c6)(ws:List c6)(a b c d e:Sl):Ev:=
 [.va rws,.ow (.lst cs),.ow (.lst ws),a,b,c,d,e]
noncomputable abbrev GT:VG:=PC 2 (bZ (gN 3) (bZ (PC 2 (bZ (gN 4) (bZ (gN 5) ZA))) ZA))
theorem Sb{rws:c6}{cs ws:List c6}{a b c d e:Sl}{i r p:c6}:GT (.tup [i,.tup [r,p]]) (PD rws cs ws a b c d e)=some (PD rws cs ws (.va i) (.va r) (.va p) d e):=by simp[PD]
noncomputable def on(ws:List c6):Option (Int×Bool)->Bool
 |none=>true
 |some (c,b)=>(!decide (wv ws c=0))==b
def okP(ab:List Bool)(o:Option (Int×Bool)):Prop:=∀c b,o=some (c,b)->Ab ab c
variable{ws:List c6}{cs:List Int}{r:Rw}{o:Option (Int×Bool)}
theorem Wv{es:List c6}(W:Ws ab ws)(a:okP ab o):on (ws++es) o=on ws o:=by
 cases o with
 |none=>rfl
 |some q=>
  obtain⟨c,b⟩:=q;have h:=a c b rfl;simp only[on];rw[Z2 h.1 (W.lt h)]
theorem nN(h:r.Ok (Ab ab))(W:Ws ab ws)(k:okP ab o)(g:on ws o=true)(hl:ws.length<16777216)(rws i:c6)(d e:Sl):aV (PD rws (cs.map .int) ws (.va i) (.va r.dat) (.va (pD o)) d e)=match YF (wv ws) cs r with
  |.ok m cs'=>some (.nx (PD rws (cs'.map .int) (ws++[m]) (.va i) (.va r.dat) (.va (pD o)) (.va m) (.va .non)))
  |.bad s=>some (.rt (.tup [i,.str s]) (PD rws (cs.map .int) ws (.va i) (.va r.dat) (.va (pD o)) (.va .non) (.va (.str s)))):=by
 have c2:=MQ (d:=.lst ws) (ws:=ws) Rw.nl λa j=>by rw[Tv];exact(W.word (h.nm a j)).1
 have p2:=Vh (cs:=cs) h λa j=>(W.word (h.nm a j)).2;have f:=h.names.1;have hi:=h.noif;generalize (r.nms.map (wv ws)).map c6.int=zs at c2 p2;unfold aV;cases o with
 |none=>
  cases e:YF (wv ws) cs r with
  |ok m cs'=>rw[e] at p2;simp[PD,f,bL,c2,p2,MS.out,hl,hi,pD]
  |bad s=>rw[e] at p2;simp[PD,f,bL,c2,p2,MS.out,hi,pD]
 |some q=>
  obtain⟨c,b⟩:=q;have hw:=(W.word (k c b rfl)).1;unfold on at g;cases e:YF (wv ws) cs r with
  |ok m cs'=>rw[e] at p2;simp[PD,f,bL,c2,p2,MS.out,hl,hi,pD,hw,g]
  |bad s=>rw[e] at p2;simp[PD,f,bL,c2,p2,MS.out,hi,pD,hw,g]
theorem iS(hi:¬r.hd= "if")(W:Ws ab ws)(f:okP ab o)(a:on ws o=false)(es:List c6)(hl:ws.length+es.length<16777216)(rws i:c6)(d e:Sl):aV (PD rws (cs.map .int) (ws++es) (.va i) (.va r.dat) (.va (pD o)) d e)=some (.nx (PD rws (cs.map .int) (ws++es++[.non]) (.va i) (.va r.dat) (.va (pD o)) (.va .non) (.va .non))):=by
 unfold aV;cases o with
 |none=>cases a
 |some q=>
  obtain⟨c,b⟩:=q;have h:=f c b rfl;have hw:=(W.word h).1;rw[<-QH (es:=es) h.1 (W.lt h)] at hw;unfold on at a;simp[PD,bL,hi,pD,hw,a,hl]
theorem M7:∀{rs:List Rw} {ab:List Bool} {ws:List c6} {cs:List Int},XU ab rs->Ws ab ws->(∀c∈cs,Wd c)->okP ab o->on ws o=true->ws.length+rs.length<1000->∀rws a b c d e,∃i h g d' f,YQ GT aV (Y6 ws.length (EU o rs++tl)) (PD rws (cs.map .int) ws a b c d e)=match(go rs ws cs).er with
  |none=>YQ GT aV (Y6 (go rs ws cs).ws.length tl) (PD rws ((go rs ws cs).cs.map .int) (go rs ws cs).ws i h g d' f)
  |some s=>some (.rt (.tup [.int (go rs ws cs).ws.length,.str s]) (PD rws ((go rs ws cs).cs.map .int) (go rs ws cs).ws i h g d' f))
 |[],ab,ws,cs,_,_,_,_,_,_,rws,a,b,c,d,e=>⟨a,b,c,d,e,by simp[go]⟩
 | r :: rs,ab,ws,cs,⟨h1,h2⟩,W,k,j,n,hk,rws,a,b,c,d,e => by
  simp only[Ax] at hk;have st:=nN (cs:=cs) h1 W j n (by lia) rws (.int ws.length) d e;rw[FQ,Cy,XA,XN,Sb,VE,st];cases e:YF (wv ws) cs r with
  |bad s=>
   rw[U3 e];exact⟨_,_,_,_,_,rfl⟩
  |ok m cs'=>
   rw[SM e];obtain⟨_,q,_,p⟩:=MK h1 (λa t=>(W.word (h1.nm a t)).2) k e;obtain⟨i,h,g,d',f,l⟩:=M7 h2 (W.snoc p) q (λc b z=>(j c b z).app) (by rw[Wv W j];exact n) (by simp;lia) rws (.va (.int ws.length)) (.va r.dat) (.va (pD o)) (.va m) (.va .non);rw[Ao,Dh] at l;exact⟨i,h,g,d',f,by rw[VH];exact l⟩
theorem O8:∀{rs:List Rw} {es:List c6},(∀r∈rs,¬r.hd= "if")->Ws ab ws->okP ab o->on ws o=false->ws.length+es.length+rs.length<1000->∀rws a b c d e,∃j i g d' f,YQ GT aV (Y6 (ws++es).length (EU o rs++tl)) (PD rws (cs.map .int) (ws++es) a b c d e)=YQ GT aV (Y6 (ws++(es++rs.map λ_=>c6.non)).length tl) (PD rws (cs.map .int) (ws++(es++rs.map λ_=>c6.non)) j i g d' f)
 |[],es,_,_,_,_,_,rws,a,b,c,d,e=>⟨a,b,c,d,e,by simp⟩
 |r::rs,es,h,W,l,m,hk,rws,a,b,c,d,e=>by simp only[Ax] at hk;have st:=iS (cs:=cs) (h r Ay) W l m es (by lia) rws (.int (ws++es).length) d e;obtain⟨j,i,g,d',f,k⟩:=O8 (rs:=rs) (es:=es++[.non]) (λq n=>h q (Ar _ n)) W l m (by simp;lia) rws (.va (.int (ws++es).length)) (.va r.dat) (.va (pD o)) (.va .non) (.va .non);refine⟨j,i,g,d',f,?_⟩;rw[FQ,Cy,XA,XN,Sb,VE,st,VH];rw[<-Bo] at k;rw[show(ws++es).length+1=(ws++es++[c6.non]).length by simp[Qm],k];simp
theorem Xc(hl:ws.length<16777216)(rws i:c6)(d e:Sl):aV (PD rws (cs.map .int) ws (.va i) (.va (VU c s1 s2)) (.va (.tup [])) d e)=some (.nx (PD rws (cs.map .int) (ws++[.non]) (.va i) (.va (VU c s1 s2)) (.va (.tup [])) (.va .non) (.va .non))):=by unfold aV;simp[PD,VU,hl]
noncomputable def ref(hd s1 s2:List Rw)(c:Int)(cs:List Int):KO:=
 if(go hd [] cs).er=none then(if wv (go hd [] cs).ws c=0 then go s2 ((go hd [] cs).ws++([.non]++s1.map λ_=>c6.non)) (go hd [] cs).cs else go s1 ((go hd [] cs).ws++[.non]) (go hd [] cs).cs) else go hd [] cs
theorem Ws.offs{es:List c6}{bs:List Bool}(W:Ws ab ws)(hl:es.length=bs.length)(g:∀b∈bs,b=false):Ws (ab++bs) (ws++es):=by
 refine⟨by simp[W.len,hl],λa c=>?_⟩;have d:=c.1;by_cases hi:a.toNat<ab.length
 ·have h1 : Ab ab a := ⟨d,by have := c.2;rwa [Ai hi] at this⟩
  obtain⟨x,f,e⟩:=W.wd a h1;exact⟨x,f,by rw[QH d (W.lt h1)];exact e⟩
 ·have e:=c.2
  rw[Ba (by lia)] at e;exact absurd (g _ (Cp e)) (by simp)
theorem mid(T:Y4 hd s1 s2 c)(a:∀c∈cs,Wd c)(b:(go hd [] cs).er=none):Ws (hd.map Rw.mk) (go hd [] cs).ws/\Ws (hd.map Rw.mk++[false]) ((go hd [] cs).ws++[.non])/\Ws (hd.map Rw.mk++[false]++offs s1) ((go hd [] cs).ws++([.non]++s1.map λ_=>c6.non))/\(∀c∈(go hd [] cs).cs,Wd c)/\(go hd [] cs).ws.length=hd.length:=by
 have k:=kept T.h0 Ws.nil a (λ_ h=>nomatch h);have W:Ws (hd.map Rw.mk) (go hd [] cs).ws:=by simpa using k.all b
 refine⟨W,W.offs rfl (by simp),?_,k.ok,by rw[W.len];simp⟩;rw[Bo];exact W.offs (by simp) (by simp)
theorem C9(T:Y4 hd s1 s2 c)(l:∀c∈cs,Wd c):V7 [.tup (hd.map Rw.dat++[VU c s1 s2]),.lst (cs.map .int)]=some ((ref hd s1 s2 c cs).fd,[.lst ((ref hd s1 s2 c cs).cs.map .int)]):=by
 have hl:=T.len;have g:=DL T;generalize E:hd.map Rw.dat++[VU c s1 s2]=a at g;obtain⟨B,A,y,w,u,q1⟩:=M7 (o:=none) (tl:=.tup [VU c s1 s2,.tup []]::(EU (some (c,true)) s1++EU (some (c,false)) s2)) T.h0 Ws.nil l (λ_ _ h=>nomatch h) rfl (by simp;lia) (.tup a) .no .no .no .no .no;unfold V7;rw[cO,OI.eq_1];have q0:YQ GT aV (Y6 0 (EU none hd++(.tup [VU c s1 s2,.tup []]::(EU (some (c,true)) s1++EU (some (c,false)) s2)))) [.va (.tup a),.ow (.lst (cs.map .int)),.ow (.lst []),.no,.no,.no,.no,.no]=match(go hd [] cs).er with
  |none=>YQ GT aV (Y6 (go hd [] cs).ws.length (.tup [VU c s1 s2,.tup []]::(EU (some (c,true)) s1++EU (some (c,false)) s2))) (PD (.tup a) ((go hd [] cs).cs.map .int) (go hd [] cs).ws B A y w u)
  |some s=>some (.rt (.tup [.int (go hd [] cs).ws.length,.str s]) (PD (.tup a) ((go hd [] cs).cs.map .int) (go hd [] cs).ws B A y w u)):=q1
 cases f:(go hd [] cs).er with
 |some s=>
  rw[f] at q0;have j:ref hd s1 s2 c cs=go hd [] cs:=by unfold ref;rw[if_neg (by rw[f];simp)]
  rw[j];unfold KO.fd;rw[f];simp[cF,g,q0,PD]
 |none=>
  rw[f] at q0;obtain⟨W,n,K,hk,M⟩:=mid T l f;generalize i:(go hd [] cs).ws=ws at*;generalize m:(go hd [] cs).cs=d at*;have st:=Xc (ws:=ws) (cs:=d) (c:=c) (s1:=s1) (s2:=s2) (by lia) (.tup a) (.int ws.length) w u;simp only[XA,XN,Sb,VE,st,VH] at q0;have k:okP (hd.map Rw.mk++[false]) (some (c,true)):=λ_ _ z=>by cases z;exact T.hc.app
  have q:okP (hd.map Rw.mk++[false]) (some (c,false)):=λ_ _ z=>by cases z;exact T.hc.app
  have e:wv (ws++[.non]) c=wv ws c:=Z2 T.hc.1 (W.lt T.hc);by_cases hz:wv ws c=0
  ·have j : ref hd s1 s2 c cs = go s2 (ws ++ ([.non] ++ s1.map λ_ => c6.non)) d := by unfold ref;rw [if_pos f,i,m,if_pos hz]
   rw[j];obtain⟨a2,x,c2,v,t,q2⟩:=O8 (cs:=d) (o:=some (c,true)) (tl:=EU (some (c,false)) s2) (rs:=s1) (es:=[]) T.h1.noif n k (by simp[on,e,hz]) (by simp;lia) (.tup a) (.va (.int ws.length)) (.va (VU c s1 s2)) (.va (.tup [])) (.va .non) (.va .non);have r:okP (hd.map Rw.mk++[false]++offs s1) (some (c,false)):=λ_ _ z=>by cases z;exact T.hc.app.app
   have p:wv (ws++([.non]++s1.map λ_=>c6.non)) c=wv ws c:=Z2 T.hc.1 (W.lt T.hc);obtain⟨J,I,H,G,F,q3⟩:=M7 (o:=some (c,false)) (tl:=[]) T.h2 K hk r (by simp only[on,p,hz];rfl) (by simp;lia) (.tup a) a2 x c2 v t;simp only[Bp,Cd,Bo] at q2 q3;rw[show ws.length+1=(ws++[c6.non]).length by simp,q2,q3] at q0;generalize go s2 (ws++([.non]++s1.map λ_=>c6.non)) d=o at*;unfold KO.fd;cases b:o.er with
   |none=>rw[b] at q0;simp[Y6] at q0;simp[cF,g,q0,PD]
   |some s=>rw[b] at q0;simp[cF,g,q0,PD]
  ·have j : ref hd s1 s2 c cs = go s1 (ws ++ [.non]) d := by unfold ref;rw [if_pos f,i,m,if_neg hz]
   rw[j];obtain⟨a2,x,c2,v,t,q2⟩:=M7 (o:=some (c,true)) (tl:=EU (some (c,false)) s2) T.h1 n hk k (by simp[on,e,hz]) (by simp;lia) (.tup a) (.va (.int ws.length)) (.va (VU c s1 s2)) (.va (.tup [])) (.va .non) (.va .non);have L:=kept T.h1 n hk;rw[show ws.length+1=(ws++[c6.non]).length by simp,q2] at q0;cases b:(go s1 (ws++[.non]) d).er with
   |some s=>
    rw[b] at q0;unfold KO.fd;rw[b];simp[cF,g,q0,PD]
   |none=>
    rw[b] at q0;have hex:∃ex,(go s1 (ws++[.non]) d).ws=ws++[.non]++ex/\ex.length<=s1.length:=DH;obtain⟨ex,D,C⟩:=hex;obtain⟨J,I,H,G,F,q3⟩:=O8 (cs:=(go s1 (ws++[.non]) d).cs) (o:=some (c,false)) (tl:=[]) (rs:=s2) (es:=ex) T.h2.noif n q (by simp[on,e,hz]) (by simp;lia) (.tup a) a2 x c2 v t;simp only[Bp] at q3;rw[D] at q0;simp only[q3] at q0;unfold KO.fd;rw[b];simp[Y6] at q0;simp[cF,g,q0,PD]
theorem GF{sure:Int}(T:Y4 hd s1 s2 c)(d:0<=sure)(b:sure<=64)(a:∀c∈cs,Wd c)(g:sure<=cs.length)(f:cs.length<=64):W8 [.tup [.int sure,.tup (hd.map Rw.dat++[VU c s1 s2])],.lst (cs.map .int)]=some (.tup [.lst ((ref hd s1 s2 c cs).cs.map .int),(ref hd s1 s2 c cs).fd],[]):=by have j:=IL T d b;have i:=E8 a g f;have h:=C9 T a;generalize hd.map Rw.dat++[VU c s1 s2]=e at*;unfold W8;rw[cO];unfold QT;simp[cF,j,i,h]
end
noncomputable def Fl(L N:List c6):c6:=.flt "Flat" "laid" "numbers" L.length (L++N)
section
variable{x f g:Rg}{b:Bool}{i n:Nat}{δ:Ev}{d:c6}{es L N:List c6}{fs:PJ}{gs:NM}{mF:List Nat}{F:b8}
noncomputable def qFA(x f g:Rg)(b:Bool)(δ:Ev):Option Sl->Option (c6×Ev)
 |some (.ow (.flt a c g' k ds))=>if a=x/\c=f/\g'=g then some (.lst (if b then ds.take k else ds.drop k),δ) else none
 |_=>none
@[simp] theorem fA_e:fA x f g b i δ=qFA x f g b δ δ[i]? :=rfl
@[simp] theorem wU:qFA "Flat" "laid" "numbers" true δ (some (.ow (Fl L N)))=some (.lst L,δ):=by simp[qFA,Fl]
@[simp] theorem rZ:qFA "Flat" "laid" "numbers" false δ (some (.ow (Fl L N)))=some (.lst N,δ):=by simp[qFA,Fl]
noncomputable def qS3(x f g:Rg)(b:Bool)(i:Nat)(es:List c6)(δ:Ev)(s:Option Sl):Option Ou:=(match s with
 |some (.ow (.flt a c g' k ds))=>if a=x/\c=f/\g'=g then some (k,ds) else none
 |_=>none).bind λz=>match es with
 |[d]=>if z.2.length<16777216 then some (.nx (δ.set i (.ow (.flt x f g (UR b z.1 z.2 d).1 (UR b z.1 z.2 d).2)))) else none
 |_=>none
noncomputable def qS2(x f g:Rg)(b:Bool)(i:Nat)(r:Option (List c6×Ev)):Option Ou:=r.bind λr=>qS3 x f g b i r.1 r.2 r.2[i]?
noncomputable def qS1(x f g:Rg)(b:Bool)(i:Nat)(fs:PJ)(δ:Ev)(s:Option Sl):Option Ou:=(match s with
 |some (.ow (.flt a c g' k ds))=>if a=x/\c=f/\g'=g then some (k,ds) else none
 |_=>none:Option (Nat×List c6)).bind λ_=>qS2 x f g b i (fs δ)
@[simp] theorem wG:NX x f g b i fs δ=qS1 x f g b i fs δ δ[i]? :=rfl
@[simp] theorem uk:qS1 "Flat" "laid" "numbers" b i fs δ (some (.ow (Fl L N)))=qS2 "Flat" "laid" "numbers" b i (fs δ):=by simp[qS1,Fl]
@[simp] theorem tH:qS2 x f g b i (some (es,δ))=qS3 x f g b i es δ δ[i]? :=rfl
@[simp] theorem sV:qS3 "Flat" "laid" "numbers" true i [d] δ (some (.ow (Fl L N)))=if L.length+N.length<16777216 then some (.nx (δ.set i (.ow (Fl (L++[d]) N)))) else none:=by simp[qS3,Fl,UR]
@[simp] theorem wW:qS3 "Flat" "laid" "numbers" false i [d] δ (some (.ow (Fl L N)))=if L.length+N.length<16777216 then some (.nx (δ.set i (.ow (Fl L (N++[d]))))) else none:=by simp[qS3,Fl,UR]
noncomputable def qCM(x f g:Rg)(i n:Nat)(mF:List Nat)(F:b8)(gs:NM)(δ:Ev)(s:Option Sl):Option (c6×Ev):=(match s with
 |some (.ow (.flt a b g' k ds))=>if a=x/\b=f/\g'=g then some (k,ds) else none
 |_=>none:Option (Nat×List c6)).bind λ_=>cQ n mF F (aO i gs) δ
@[simp] theorem vb:Y7 x f g i n mF F gs δ=qCM x f g i n mF F gs δ δ[i]? :=rfl
@[simp] theorem uP:qCM "Flat" "laid" "numbers" i n mF F gs δ (some (.ow (Fl L N)))=cQ n mF F (aO i gs) δ:=by simp[qCM,Fl]
@[simp] theorem wS:AQ "Flat" "laid" "numbers" δ=some (Fl [] [],δ):=rfl
end
section
variable{L N:List c6}{m c row:c6}
theorem QU(hl:L.length+N.length<16777216):aX [Fl L N,row]=some (.int L.length,[Fl (L++[row]) N]):=by unfold aX;rw[cO];unfold QK;simp[cF,hl]
theorem G6(hl:L.length+N.length<16777216):ZI [Fl L N,m,c]=some (.int L.length,[Fl (L++[.tup [.str "pick",m,c,.int 0]]) N]):=by unfold ZI;rw[cO];unfold SE;simp[cF,QU hl,K5]
end
noncomputable def UP(q:Rw)(m:Int):List Rw:=match q with
 |.take _ c _=>[.pick m c 0]
 |.put _ _ c=>[.pick m c 0]
 |.two x _ b=>if x= "over" then[.pick m b 1] else[]
 |_=>[]
noncomputable def U4(q:Rw)(m k:Int):Rw:=match q with
 |.load p=>.take p m m
 |.take p _ a=>.take p k a
 |.store p a=>.put p a m
 |.put p a _=>.put p a k
 |.two x a b=>if x= "over" then .two x a k else .two x a b
 |q=>q
theorem iR{M:Int->Prop}{q:Rw}{L N:List c6}{m:Int}(h:q.Ok M)(hl:L.length+N.length<16777216):YY [Fl L N,q.dat,.int m]=some ((U4 q m L.length).dat,[Fl (L++(UP q m).map Rw.dat) N]):=by
 unfold YY;rw[cO];unfold U0;cases q with
 |num n=>simp[cF,Rw.dat,U4,UP]
 |two x a b=>
  obtain⟨d,_⟩:=h;have j:=(HD d (y:= "load") (by decide)).1;have i:=(HD d (y:= "take") (by decide)).1;have g:=(HD d (y:= "store") (by decide)).1;have f:=(HD d (y:= "put") (by decide)).1;by_cases e:x= "over"
  ·subst e
   simp[cF,Rw.dat,U4,UP,QU hl,E4]
  ·simp[cF,Rw.dat,U4,UP,j,i,g,f,e]
 |pick c a b=>simp[cF,Rw.dat,U4,UP]
 |load p=>simp[cF,Rw.dat,U4,UP]
 |take p c a=>simp[cF,Rw.dat,U4,UP,G6 hl]
 |store p a=>simp[cF,Rw.dat,U4,UP]
 |put p a c=>simp[cF,Rw.dat,U4,UP,G6 hl]
theorem Xy{f:Int->Int}{r:Rw}:XH [r.dat,.lst ((r.nms.map f).map .int)]=some ((r.ren f).dat,[]):=by
 cases r<;>kernel_rfl
noncomputable def mD:Option Int->c6
 |none=>.non
 |some m=>.int m
noncomputable def LU(m:Option Int)(q:Rw)(k:Nat):List Rw:=match m with
 |none=>[q]
 |some m=>UP q m++[U4 q m k]
noncomputable def LV(m:Option Int)(q:Rw)(k:Nat):Nat:=match m with
 |none=>k
 |some m=>k+(UP q m).length
noncomputable def TJ(m:Option Int):List Rw->Nat->List c6->List Rw
 |[],_,_=>[]
 |r::rs,k,N=>LU m (r.ren (wv N)) k++TJ m rs (LV m (r.ren (wv N)) k+1) (N++[.int (LV m (r.ren (wv N)) k)])
noncomputable def QE(m:Option Int):List Rw->Nat->List c6->List c6
 |[],_,_=>[]
 |r::rs,k,N=>.int (LV m (r.ren (wv N)) k)::QE m rs (LV m (r.ren (wv N)) k+1) (N++[.int (LV m (r.ren (wv N)) k)])
section
variable{m:Option Int}{q r:Rw}{k:Nat}{ab bab:List Bool}{N:List c6}{rs L hd s1 s2:List Rw}{R:b8}{tl:List c6}{c:Int}
theorem FU{m:Int}:(UP q m).length<=1:=by
 unfold UP;split
 ·simp
 ·simp
 ·split<;>simp
 ·simp
theorem RW:k+(LU m q k).length=LV m q k+1:=by
 cases m with
 |none=>rfl
 |some m=>simp[LU,LV];lia
theorem Tb:k<=LV m q k/\LV m q k<=k+1:=by
 cases m with
 |none=>simp[LV]
 |some m=>
  have:=FU (q:=q) (m:=m)
  simp[LV];lia
theorem iT{m k:Int}:(U4 q m k).mk=q.mk:=by
 cases q with
 |two x a b=>unfold U4;simp only;split<;>rfl
 |_=>rfl
theorem jT:∃pre last,LU m q k=pre++[last]/\last.mk=q.mk/\k+pre.length=LV m q k:=by
 cases m with
 |none=>exact⟨[],q,rfl,rfl,rfl⟩
 |some m=>exact⟨UP q m,U4 q m k,rfl,iT,rfl⟩
structure Nr(ab:List Bool)(N:List c6)(bab:List Bool):Prop where
 len:N.length=ab.length
 nm:∀a,Ab ab a->WJ N a=some (.int (wv N a))/\Ab bab (wv N a)
theorem Nr.nil:Nr [] [] bab:=⟨rfl,λa h=>by have:=h.2;simp at this⟩
theorem Nr.lt{a:Int}(Q:Nr ab N bab)(h:Ab ab a):a<N.length:=by have:=h.lt;rw[Q.len];exact this
theorem Nr.app{b:List Bool}(Q:Nr ab N bab):Nr ab N (bab++b):=⟨Q.len,λa h=>⟨(Q.nm a h).1,(Q.nm a h).2.app⟩⟩
theorem Nr.offs{es:List c6}{bs:List Bool}(Q:Nr ab N bab)(hl:es.length=bs.length)(d:∀b∈bs,b=false):Nr (ab++bs) (N++es) bab:=by
 refine⟨by simp[Q.len,hl],λa c=>?_⟩;by_cases hi:a.toNat<ab.length
 ·have h1 : Ab ab a := ⟨c.1,by have := c.2;rwa [Ai hi] at this⟩
  rw[QH h1.1 (Q.lt h1),Z2 h1.1 (Q.lt h1)];exact Q.nm a h1
 ·have e:=c.2
  rw[Ba (by lia)] at e;exact absurd (d _ (Cp e)) (by simp)
theorem Nr.step(Q:Nr ab N bab)(c:q.mk=r.mk):Nr (ab++[r.mk]) (N++[.int (LV m q bab.length)]) (bab++(LU m q bab.length).map Rw.mk):=by
 obtain⟨pre,last,g,f,i⟩:=jT (m:=m) (q:=q) (k:=bab.length);refine⟨by simp[Q.len],λa e=>?_⟩;rcases e.inv with h|⟨h,d⟩
 ·rw[QH h.1 (Q.lt h),Z2 h.1 (Q.lt h)]
  exact⟨(Q.nm a h).1,(Q.nm a h).2.app⟩
 ·have b : a = N.length := by rw [h,Q.len]
  rw[K4 b,XD b];refine⟨rfl,by lia,?_⟩;rw[g,Bq,<-Bo,Ba (by simp;lia)];have:(LV m q bab.length:Int).toNat - (bab++List.map Rw.mk pre).length=0:=by simp;lia
  rw[this];simp[f,c,d]
theorem Zb{as:List Int}(L:List c6)(c:as.length<=3)(h:∀a∈as,WJ N a=some (.int (wv N a))):ZZ 1 1 (gN 1) WC (f2 cH (fA "Flat" "laid" "numbers" false 0) (fV 1)) (as.map .int) [] [.ow (Fl L N)]=some ((as.map (wv N)).map .int,[.ow (Fl L N)]):=by
 rw[XJ 1 _ [.ow (Fl L N)] (fW N) rfl _ [] (λe b=>?_) (by simp;lia),Tr]
 ·rfl
 ·obtain⟨a,d,rfl⟩:=Cc.mp b
  simp[h a d,fW]
theorem jV(h:r.Ok (Ab ab))(Q:Nr ab N bab)(hl:L.length+N.length<1000000)(rows:c6)(s:Sl):aN R [.ow (Fl (L.map Rw.dat) N),.va rows,.va (mD m),.va r.dat,s]=some (.nx [.ow (Fl ((L++LU m (r.ren (wv N)) L.length).map Rw.dat) (N++[.int (LV m (r.ren (wv N)) L.length)])),.va rows,.va (mD m),.va r.dat,.va (r.ren (wv N)).dat]):=by
 have hi:=h.noif;have d:=h.names.1;have c2:=Zb (N:=N) (L.map Rw.dat) Rw.nl λa i=>(Q.nm a (h.nm a i)).1;have b:=Xy (f:=wv N) (r:=r);have g:(r.ren (wv N)).Ok (λ_=>True):=h.ren λ_ _=>trivial;generalize (r.nms.map (wv N)).map c6.int=zs at c2 b;generalize r.ren (wv N)=q at*;have h1:L.length+N.length<16777216:=by lia
 have h2:L.length+1+N.length<16777216:=by lia
 cases m with
 |none=>
  have c:=QU (L:=L.map Rw.dat) (N:=N) (row:=q.dat) (by simpa using h1);unfold aN;simp[d,bL,c2,b,hi,mD,c,h2,LU,LV]
 |some m=>
  have k:=FU (q:=q) (m:=m);have e:=iR (m:=m) (L:=L.map Rw.dat) (N:=N) g (by simpa using h1);have c:=QU (L:=L.map Rw.dat++(UP q m).map Rw.dat) (N:=N) (row:=(U4 q m L.length).dat) (by simp;lia);have j:L.length+((UP q m).length+1)+N.length<16777216:=by lia
  unfold aN;simp only[Aq] at e;simp[d,bL,c2,b,hi,mD,e,c,j,LU,LV]
theorem DK(rows:c6):∀{rs:List Rw} {ab:List Bool} {N:List c6} {L:List Rw},XU ab rs->Nr ab N (L.map Rw.mk)->L.length+N.length+3*rs.length<1000000->∀s s',∃t t',YQ (gN 3) (aN R) (rs.map Rw.dat++tl) [.ow (Fl (L.map Rw.dat) N),.va rows,.va (mD m),s,s']=YQ (gN 3) (aN R) tl [.ow (Fl ((L++TJ m rs L.length N).map Rw.dat) (N++QE m rs L.length N)),.va rows,.va (mD m),t,t']
 |[],ab,N,L,_,_,_,s,s'=>⟨s,s',by simp[TJ,QE]⟩
 |r::rs,ab,N,L,⟨h1,h2⟩,Q,hk,s,s'=>by simp only[Ax] at hk;have st:=jV (R:=R) (m:=m) (L:=L) h1 Q (by lia) rows s';have c:=Q.step (m:=m) (q:=r.ren (wv N)) (r:=r) Rw.ren_mk;rw[Aq,<-Bq] at c;have a:=RW (m:=m) (q:=r.ren (wv N)) (k:=L.length);have d:=Tb (m:=m) (q:=r.ren (wv N)) (k:=L.length);obtain⟨t,t',b⟩:=DK rows h2 c (by simp;lia) (.va r.dat) (.va (r.ren (wv N)).dat);rw[Ao,a] at b;refine⟨t,t',?_⟩;have s1:([.ow (Fl (L.map Rw.dat) N),.va rows,.va (mD m),s,s']:Ev).set 3 (.va r.dat)=[.ow (Fl (L.map Rw.dat) N),.va rows,.va (mD m),.va r.dat,s']:=rfl;rw[show(r::rs).map Rw.dat++tl=r.dat::(rs.map Rw.dat++tl) from rfl,XN,NE,VE,s1,st,VH,b];simp[TJ,QE]
theorem NQ(n:Nat)(h:XU ab rs)(Q:Nr ab N (L.map Rw.mk))(hk:L.length+N.length+3*rs.length<1000000):bI (n+1) [Fl (L.map Rw.dat) N,.tup (rs.map Rw.dat),mD m]=some (.non,[Fl ((L++TJ m rs L.length N).map Rw.dat) (N++QE m rs L.length N)]):=by show bD 5 [0] (Z3 (bI n)) _=_;obtain⟨t,t',e⟩:=DK (R:=bI n) (m:=m) (tl:=[]) (.tup (rs.map Rw.dat)) h Q hk .no .no;rw[Bp] at e;rw[cO,Z3.eq_1];simp[cF,e]
end
section
variable{m:Option Int}{q r:Rw}{k:Nat}{ab bab:List Bool}{N:List c6}{rs L hd s1 s2:List Rw}{c:Int}
theorem RS:∀{rs:List Rw} {k:Nat} {N:List c6},(TJ m rs k N).length<=2*rs.length
 |[],_,_=>by simp[TJ]
 |r::rs,k,N=>by have h1:=RW (m:=m) (q:=r.ren (wv N)) (k:=k);have h2:=Tb (m:=m) (q:=r.ren (wv N)) (k:=k);have a:=RS (rs:=rs) (k:=LV m (r.ren (wv N)) k+1) (N:=N++[.int (LV m (r.ren (wv N)) k)]);simp only[TJ,Ao,Ax];lia
theorem PX:∀{rs:List Rw} {k:Nat} {N:List c6},(QE m rs k N).length=rs.length
 |[],_,_=>by simp[QE]
 |r::rs,k,N=>by simp[QE,PX (rs:=rs)]
theorem Sq:∀{rs:List Rw} {ab:List Bool} {N:List c6} {bab:List Bool},Nr ab N bab->Nr (ab++rs.map Rw.mk) (N++QE m rs bab.length N) (bab++(TJ m rs bab.length N).map Rw.mk)
 |[],ab,N,bab,Q=>by simpa[TJ,QE] using Q
 |r::rs,ab,N,bab,Q=>by have c:=Q.step (m:=m) (q:=r.ren (wv N)) (r:=r) Rw.ren_mk;have b:=Sq (rs:=rs) c;have a:=RW (m:=m) (q:=r.ren (wv N)) (k:=bab.length);rw[Ao,Aq,a] at b;simp only[TJ,QE,Bq,As];simpa using b
abbrev N0(hd:List Rw):List c6:=QE none hd 2 []
noncomputable abbrev L0(hd:List Rw):List Rw:=[.num 0,.num 1]++TJ none hd 2 []
noncomputable abbrev Ma(hd:List Rw):Int:=(L0 hd).length
noncomputable abbrev L1(hd:List Rw)(c:Int):List Rw:=L0 hd++[.pick 1 (wv (N0 hd) c) 0]
noncomputable abbrev N1(hd:List Rw):List c6:=N0 hd++[.non]
abbrev UI(hd s1:List Rw)(c:Int):List Rw:=L1 hd c++TJ (some (Ma hd)) s1 (L1 hd c).length (N1 hd)
noncomputable abbrev N2(hd s1:List Rw)(c:Int):List c6:=N1 hd++QE (some (Ma hd)) s1 (L1 hd c).length (N1 hd)
noncomputable abbrev Mb(hd s1:List Rw)(c:Int):Int:=(UI hd s1 c).length
noncomputable abbrev L3(hd s1:List Rw)(c:Int):List Rw:=UI hd s1 c++[.pick (wv (N0 hd) c) 0 1]
noncomputable abbrev L4(hd s1 s2:List Rw)(c:Int):List Rw:=L3 hd s1 c++TJ (some (Mb hd s1 c)) s2 (L3 hd s1 c).length (N2 hd s1 c)
noncomputable abbrev N4(hd s1 s2:List Rw)(c:Int):List c6:=N2 hd s1 c++QE (some (Mb hd s1 c)) s2 (L3 hd s1 c).length (N2 hd s1 c)
theorem nr0:Nr (hd.map Rw.mk) (N0 hd) ((L0 hd).map Rw.mk):=by have h:=Sq (m:=none) (rs:=hd) (Nr.nil (bab:=[true,true]));exact h
theorem nr1:Nr (hd.map Rw.mk++[false]) (N1 hd) ((L1 hd c).map Rw.mk):=by have h:=(nr0 (hd:=hd)).offs (es:=[.non]) (bs:=[false]) rfl (by simp);rw[Bq];exact h.app
theorem nr2:Nr (hd.map Rw.mk++[false]++s1.map Rw.mk) (N2 hd s1 c) ((UI hd s1 c).map Rw.mk):=by have h:=Sq (m:=some (Ma hd)) (rs:=s1) (nr1 (hd:=hd) (c:=c));rw[Aq] at h;rw[Bq];exact h
theorem Nr.dim{bs bs':List Bool}(Q:Nr (ab++bs) N bab)(hl:bs'.length=bs.length)(d:∀b∈bs',b=false):Nr (ab++bs') N bab:=by
 refine⟨by rw[Q.len];simp[hl],λa c=>?_⟩;by_cases hi:a.toNat<ab.length
 ·have h1 : Ab ab a := ⟨c.1,by have := c.2;rwa [Ai hi] at this⟩
  exact Q.nm a h1.app
 ·have e:=c.2
  rw[Ba (by lia)] at e;exact absurd (d _ (Cp e)) (by simp)
theorem nr3:Nr (hd.map Rw.mk++[false]++offs s1) (N2 hd s1 c) ((L3 hd s1 c).map Rw.mk):=by have h:=(nr2 (hd:=hd) (s1:=s1) (c:=c)).dim (bs':=offs s1) (by simp) (by simp);rw[Bq];exact h.app
theorem lens(T:Y4 hd s1 s2 c):(L0 hd).length<=42/\(L1 hd c).length<=43/\(UI hd s1 c).length<=83/\(L3 hd s1 c).length<=84/\(N0 hd).length<=20/\(N1 hd).length<=21/\(N2 hd s1 c).length<=41:=by
 have hl:=T.len;have d:=RS (m:=none) (rs:=hd) (k:=2) (N:=[]);have h1:=RS (m:=some (Ma hd)) (rs:=s1) (k:=(L1 hd c).length) (N:=N1 hd);have b:=PX (m:=none) (rs:=hd) (k:=2) (N:=[]);have a:=PX (m:=some (Ma hd)) (rs:=s1) (k:=(L1 hd c).length) (N:=N1 hd);have i:(L0 hd).length=2+(TJ none hd 2 []).length:=by simp;lia
 have h:(L1 hd c).length=(L0 hd).length+1:=by simp
 have a2:(UI hd s1 c).length=(L1 hd c).length+(TJ (some (Ma hd)) s1 (L1 hd c).length (N1 hd)).length:=Ao;have g:(L3 hd s1 c).length=(UI hd s1 c).length+1:=Ao;have f:(N1 hd).length=(N0 hd).length+1:=by simp
 have e:(N2 hd s1 c).length=(N1 hd).length+(QE (some (Ma hd)) s1 (L1 hd c).length (N1 hd)).length:=Ao;lia
theorem Wf(T:Y4 hd s1 s2 c):X7 (bI 3) [Fl ((L0 hd).map Rw.dat) (N0 hd),VU c s1 s2,.int 1]=some (.non,[Fl ((L4 hd s1 s2 c).map Rw.dat) (N4 hd s1 s2 c)]):=by
 have hl:=T.len;obtain⟨s,r,q,p,v,u,t⟩:=lens T;have o:=((nr0 (hd:=hd)).nm c T.hc).1;have b:=NQ (m:=some (Ma hd)) 2 T.h1 (nr1 (c:=c)) (by lia);have a:=NQ (m:=some (Mb hd s1 c)) 2 T.h2 (nr3 (c:=c)) (by lia);have e:=G6 (L:=(L0 hd).map Rw.dat) (N:=N1 hd) (m:=.int 1) (c:=.int (wv (N0 hd) c)) (by rw[Aq];lia);have d:=QU (L:=(UI hd s1 c).map Rw.dat) (N:=N2 hd s1 c) (row:=.tup [.str "pick",.int (wv (N0 hd) c),.int 0,.int 1]) (by rw[Aq];lia);have hz:(L0 hd).length+(N0 hd).length<16777216:=by lia
 have j:(L0 hd).map Rw.dat++[.tup [.str "pick",.int 1,.int (wv (N0 hd) c),.int 0]]=(L1 hd c).map Rw.dat:=(Bq (f:=Rw.dat) (l₁:=L0 hd) (l₂:=[.pick 1 (wv (N0 hd) c) 0])).symm;have i:(UI hd s1 c).map Rw.dat++[.tup [.str "pick",.int (wv (N0 hd) c),.int 0,.int 1]]=(L3 hd s1 c).map Rw.dat:=(Bq (f:=Rw.dat) (l₁:=UI hd s1 c) (l₂:=[.pick (wv (N0 hd) c) 0 1])).symm;rw[j,Aq] at e;rw[i,Aq] at d;have h:mD (some (Ma hd))=.int ((L0 hd).length:Int):=rfl;have g:mD (some (Mb hd s1 c))=.int ((UI hd s1 c).length:Int):=rfl;rw[h] at b;rw[g] at a;have t1:Fl ((L1 hd c++TJ (some (Ma hd)) s1 (L1 hd c).length (N1 hd)).map Rw.dat) (N1 hd++QE (some (Ma hd)) s1 (L1 hd c).length (N1 hd))=Fl ((UI hd s1 c).map Rw.dat) (N2 hd s1 c):=rfl;have k:Fl ((L3 hd s1 c++TJ (some (Mb hd s1 c)) s2 (L3 hd s1 c).length (N2 hd s1 c)).map Rw.dat) (N2 hd s1 c++QE (some (Mb hd s1 c)) s2 (L3 hd s1 c).length (N2 hd s1 c))=Fl ((L4 hd s1 s2 c).map Rw.dat) (N4 hd s1 s2 c):=rfl;rw[t1] at b;rw[k] at a;have l:N0 hd++[.non]=N1 hd:=rfl;have n:((L0 hd).map Rw.dat).length+(N0 hd).length<16777216:=by rw[Aq];exact hz
 generalize (L4 hd s1 s2 c).map Rw.dat=A4 at*;generalize N4 hd s1 s2 c=y at*;generalize (L3 hd s1 c).map Rw.dat=C at*;generalize (UI hd s1 c).map Rw.dat=D at*;generalize N2 hd s1 c=z at*;generalize (L1 hd c).map Rw.dat=E at*;generalize N1 hd=A at*;generalize (L0 hd).map Rw.dat=F at*;generalize N0 hd=B at*;generalize ((L0 hd).length:Int)=x at*;generalize ((UI hd s1 c).length:Int)=w at*;unfold X7;rw[cO];unfold W0;simp only[VU];simp[cF,o,n,l,e,b,d,a,K5]
noncomputable def isI:c6->Bool
 |.tup (.str s::_)=>decide (s=Bj "if")
 |_=>false
theorem gC:∃t,r.dat=.tup (.str (Bj r.hd)::t):=by cases r<;>exact⟨_,rfl⟩
theorem Uh:∀hd:List Rw,OB ((hd.map Rw.dat++[VU c s1 s2]).map λd=>.bl (isI d))=some ((hd.map Rw.dat++[VU c s1 s2]).map isI)
 |[]=>rfl
 |r::rs=>by rw[As,Cy,As,As,oY,Uh rs];rfl
theorem oH{sure:Int}(T:Y4 hd s1 s2 c)(n:0<=sure)(a:sure<=64)(s:(L4 hd s1 s2 c).length<=40):XX [.tup [.int sure,.tup (hd.map Rw.dat++[VU c s1 s2])]]=some (.tup [.tup [.int sure,.tup ((L4 hd s1 s2 c).map Rw.dat)],.lst (N4 hd s1 s2 c)],[]):=by
 have hl:=T.len;have w:=IL T n a;have v:=Wf T;have i:=XJ 0 (f2 XF (f2 cH (fV 0) (fC (.int 0))) (fC (.str "if"))) [] (λd=>.bl (isI d)) rfl (hd.map Rw.dat++[VU c s1 s2]) [] (λx b=>by
  rcases Bz.mp b with h|h
  ·obtain⟨r,q,rfl⟩:=Cc.mp h
   obtain⟨t,p⟩:=gC (r:=r);have hi:=T.h0.noif r q;rw[p];simp[isI,hi,ZM]
  ·rw[Az.mp h]
   simp[VU,isI]) (by simp;lia)
 have y:=Uh (c:=c) (s1:=s1) (s2:=s2) hd;have at_:((hd.map Rw.dat++[VU c s1 s2]).map isI).any id=true:=by simp[isI,VU]
 have o:bI 4 [Fl [.tup [.str "number",.int 0],.tup [.str "number",.int 1]] [],.tup (hd.map Rw.dat++[VU c s1 s2]),.non]=some (.non,[Fl ((L4 hd s1 s2 c).map Rw.dat) (N4 hd s1 s2 c)]):=by show bD 5 [0] (Z3 (bI 3)) _=_;obtain⟨t,t',e⟩:=DK (R:=bI 3) (m:=none) (tl:=[VU c s1 s2]) (L:=[.num 0,.num 1]) (N:=[]) (.tup (hd.map Rw.dat++[VU c s1 s2])) T.h0 Nr.nil (by simp;lia) .no .no;have l:([.num 0,.num 1]:List Rw).map Rw.dat=[.tup [.str "number",.int 0],.tup [.str "number",.int 1]]:=rfl;rw[l] at e;have k:Fl (([Rw.num 0,Rw.num 1]++TJ none hd ([.num 0,.num 1]:List Rw).length []).map Rw.dat) ([]++QE none hd ([.num 0,.num 1]:List Rw).length [])=Fl ((L0 hd).map Rw.dat) (N0 hd):=rfl;rw[k] at e;have j:mD none=.non:=rfl;rw[j] at e;generalize hd.map Rw.dat++[VU c s1 s2]=rws at*;generalize (L4 hd s1 s2 c).map Rw.dat=A4 at*;generalize N4 hd s1 s2 c=z at*;generalize (L0 hd).map Rw.dat=B at*;generalize N0 hd=A at*;rw[cO,Z3.eq_1];simp[cF,e];unfold aN;have b:cH (VU c s1 s2) (.int 0)=some (.str "if"):=rfl;simp[b,E4,v]
 have g:=QU (L:=[]) (N:=[]) (row:=.tup [.str "number",.int 0]) (by simp);have f:=QU (L:=[.tup [.str "number",.int 0]]) (N:=[]) (row:=.tup [.str "number",.int 1]) (by simp);have u:¬(40:Int)<(((L4 hd s1 s2 c).map Rw.dat).length:Int):=by rw[Aq];lia
 generalize hd.map Rw.dat++[VU c s1 s2]=rws at*;generalize (L4 hd s1 s2 c).map Rw.dat=A4 at*;generalize N4 hd s1 s2 c=z at*;simp only[Cd] at i g;generalize rws.map (λd=>c6.bl (isI d))=bs at*;generalize rws.map isI=ks at*;unfold XX;rw[cO];unfold SH;simp only[Cy,Cd] at f;simp[cF,w,bL,i,y,at_,g,f,o,WV,u]
end
section
variable{m:Option Int}{q r:Rw}{k:Nat}{ab bab:List Bool}{N ws bw:List c6}{rs L hd s1 s2:List Rw}{c:Int}{cs:List Int}{w w':Int->Int}
theorem XU.two{p q:Rw}(h1:p.Ok (Ab bab))(a:p.mk=true)(h2:q.Ok (Ab (bab++[true]))):XU bab [p,q]:=⟨h1,by rw[a];exact h2,trivial⟩
theorem Vt(d:q.Ok (Ab bab))(g:∀k,m=some k->Ab bab k/\Ab bab 0/\Ab bab 1):XU bab (LU m q bab.length):=by
 cases m with
 |none=>exact⟨d,trivial⟩
 |some m=>
  obtain⟨h1,h2,h⟩:=g m rfl;cases q with
  |num n=>exact⟨d,trivial⟩
  |two x a b=>
   by_cases f:x= "over"
   ·subst f
    exact XU.two ⟨h1,d.2.2,h⟩ rfl ⟨d.1,d.2.1.app,Ab.new⟩
   ·have e : LU (some m) (.two x a b) bab.length = [.two x a b] := by simp [LU,UP,U4,f]
    rw[e];exact⟨d,trivial⟩
  |pick c a b=>exact⟨d,trivial⟩
  |load p=>exact⟨⟨d,h1,h1⟩,trivial⟩
  |take p c a=>exact XU.two ⟨h1,d.2.1,h2⟩ rfl ⟨d.1,Ab.new,d.2.2.app⟩
  |store p a=>exact⟨⟨d.1,d.2,h1⟩,trivial⟩
  |put p a c=>exact XU.two ⟨h1,d.2.2,h2⟩ rfl ⟨d.1,d.2.1.app,Ab.new⟩
theorem AU:∀{rs:List Rw} {ab:List Bool} {N:List c6} {bab:List Bool},XU ab rs->Nr ab N bab->(∀k,m=some k->Ab bab k/\Ab bab 0/\Ab bab 1)->XU bab (TJ m rs bab.length N)
 |[],_,_,_,_,_,_=>trivial
 |r::rs,ab,N,bab,⟨h1,h2⟩,Q,g=>by
  have i:=Q.step (m:=m) (q:=r.ren (wv N)) (r:=r) Rw.ren_mk;have f:=AU h2 i λk e=>let ⟨a,b,c⟩:=g k e;⟨a.app,b.app,c.app⟩
  have d:=RW (m:=m) (q:=r.ren (wv N)) (k:=bab.length);rw[Ao,Aq,d] at f;exact(Vt (h1.ren λa h=>(Q.nm a h).2) g).app f
theorem CD{f:Int->Int}:YF w cs (r.ren f)=YF (λa=>w (f a)) cs r:=by cases r<;>rfl
theorem KB(h:∀a∈r.nms,w a=w' a):YF w cs r=YF w' cs r:=by
 cases r with
 |num=>rfl
 |two x a b=>simp only[YF,h a (by simp[Rw.nms]),h b (by simp[Rw.nms])]
 |pick c a b=>simp only[YF,h a (by simp[Rw.nms]),h b (by simp[Rw.nms]),h c (by simp[Rw.nms])]
 |load=>rfl
 |take p c a=>simp only[YF,h a (by simp[Rw.nms]),h c (by simp[Rw.nms])]
 |store p a=>simp only[YF,h a (by simp[Rw.nms])]
 |put p a c=>simp only[YF,h a (by simp[Rw.nms]),h c (by simp[Rw.nms])]
def MS.fin(ws:List c6)(cs:List Int):MS->KO
 |.ok m cs'=>⟨ws++[m],cs',none⟩
 |.bad s=>⟨ws,cs,some s⟩
theorem X2:go [r] ws cs=(YF (wv ws) cs r).fin ws cs:=by
 cases e:YF (wv ws) cs r with
 |ok m cs'=>rw[SM e];rfl
 |bad s=>rw[U3 e];rfl
theorem OM{p:Rw}{x:Int}(h:YF (wv bw) cs p=.ok (.int x) cs):go [p,q] bw cs=(YF (wv (bw++[.int x])) cs q).fin (bw++[.int x]) cs:=by rw[SM h,X2]
def MOn(m:Option Int)(bab:List Bool)(bw:List c6):Prop:=∀k,m=some k->(Ab bab k/\Ab bab 0/\Ab bab 1)/\wv bw k≠0
theorem gP(f:q.Ok (Ab bab))(W:Ws bab bw)(i:MOn m bab bw):∃es,bw.length+es.length=LV m q bw.length/\go (LU m q bw.length) bw cs=(YF (wv bw) cs q).fin (bw++es) cs:=by
 have d:∀{x a:Int},Ab bab a->wv (bw++[.int x]) a=wv bw a:=λh=>Z2 h.1 (W.lt h);cases m with
 |none=>exact⟨[],rfl,by rw[Bp];exact X2⟩
 |some m=>
  obtain⟨⟨h1,h2,k⟩,hz⟩:=i m rfl;cases q with
  |num n=>exact⟨[],rfl,by rw[Bp];exact X2⟩
  |two x a b=>
   by_cases g:x= "over"
   ·subst g
    refine⟨[.int (wv bw b)],rfl,?_⟩;refine(OM (p:=.pick m b 1) (q:=.two "over" a bw.length) (x:=wv bw b) (by simp[YF,hz])).trans ?_;simp only[YF,XD (ws:=bw) (es:=[]) (x:=wv bw b) rfl,d f.2.1]
   ·have e : LU (some m) (.two x a b) bw.length = [.two x a b] := by simp [LU,UP,U4,g]
    have j:LV (some m) (.two x a b) bw.length=bw.length:=by simp[LV,UP,g]
    rw[e,j];exact⟨[],rfl,by rw[Bp];exact X2⟩
  |pick c a b=>exact⟨[],rfl,by rw[Bp];exact X2⟩
  |load p=>exact⟨[],rfl,by rw[Bp];exact X2.trans (by simp[U4,YF,hz])⟩
  |take p c a=>
   refine⟨[.int (wv bw c)],rfl,?_⟩;refine(OM (p:=.pick m c 0) (q:=.take p bw.length a) (x:=wv bw c) (by simp[YF,hz])).trans ?_;simp only[YF,XD (ws:=bw) (es:=[]) (x:=wv bw c) rfl,d f.2.2]
  |store p a=>exact⟨[],rfl,by rw[Bp];exact X2.trans (by simp[U4,YF,hz])⟩
  |put p a c=>
   refine⟨[.int (wv bw c)],rfl,?_⟩;refine(OM (p:=.pick m c 0) (q:=.put p a bw.length) (x:=wv bw c) (by simp[YF,hz])).trans ?_;simp only[YF,XD (ws:=bw) (es:=[]) (x:=wv bw c) rfl,d f.2.1]
def MOff(m:Int)(bab:List Bool)(bw:List c6):Prop:=(Ab bab m/\Ab bab 0/\Ab bab 1)/\wv bw m=0/\wv bw 0=0/\wv bw 1=1
theorem Yw{m:Int}(d:q.Ok (Ab bab))(W:Ws bab bw)(k:MOff m bab bw):∃es,go (LU (some m) q bw.length) bw cs=⟨bw++es,cs,none⟩:=by
 obtain⟨⟨h1,h2,o⟩,z,i,j⟩:=k;have f:∀{x a:Int},Ab bab a->wv (bw++[.int x]) a=wv bw a:=λh=>Z2 h.1 (W.lt h);cases q with
 |num n=>exact⟨[.int n],X2⟩
 |two x a b=>
  by_cases g:x= "over"
  ·subst g
   obtain⟨v,e⟩:=Xi (W.word d.2.1).2;refine⟨[.int 1,.int v],?_⟩;refine(OM (p:=.pick m b 1) (q:=.two "over" a bw.length) (x:=1) (by simp[YF,z,j])).trans ?_;simp only[YF,XD (ws:=bw) (es:=[]) (x:=1) rfl,f d.2.1,e];simp[MS.fin]
  ·have e : LU (some m) (.two x a b) bw.length = [.two x a b] := by simp [LU,UP,U4,g]
   obtain⟨v,l⟩:=(HE d.1 (W.word d.2.1).2 (W.word d.2.2).2).2.1 g;rw[e];exact⟨[.int v],X2.trans (by simp[YF,l,MS.fin])⟩
 |pick c a b=>exact⟨_,X2⟩
 |load p=>exact⟨_,X2.trans (by simp[U4,YF,z,MS.fin];rfl)⟩
 |take p c a=>
  refine⟨[.int 0,.int (wv bw a)],?_⟩;refine(OM (p:=.pick m c 0) (q:=.take p bw.length a) (x:=0) (by simp[YF,z,i])).trans ?_;simp only[YF,XD (ws:=bw) (es:=[]) (x:=0) rfl,f d.2.2];simp[MS.fin]
 |store p a=>exact⟨_,X2.trans (by simp[U4,YF,z,MS.fin];rfl)⟩
 |put p a c=>
  refine⟨[.int 0,.non],?_⟩;refine(OM (p:=.pick m c 0) (q:=.put p a bw.length) (x:=0) (by simp[YF,z,i])).trans ?_;simp only[YF,XD (ws:=bw) (es:=[]) (x:=0) rfl];simp[MS.fin]
def Vl(ab:List Bool)(ws N bw:List c6):Prop:=∀a,Ab ab a->wv ws a=wv bw (wv N a)
theorem Vl.app{es:List c6}(V:Vl ab ws N bw)(Q:Nr ab N bab)(W:Ws bab bw):Vl ab ws N (bw++es):=λa h=>by
 have:=(Q.nm a h).2
 rw[Z2 this.1 (W.lt this)];exact V a h
theorem Vl.offs{es ns:List c6}{bs:List Bool}(V:Vl ab ws N bw)(Q:Nr ab N bab)(W:Ws ab ws)(d:∀b∈bs,b=false):Vl (ab++bs) (ws++es) (N++ns) bw:=λa c=>by
 by_cases hi:a.toNat<ab.length
 ·have h1 : Ab ab a := ⟨c.1,by have := c.2;rwa [Ai hi] at this⟩
  rw[Z2 h1.1 (W.lt h1),Z2 h1.1 (Q.lt h1)];exact V a h1
 ·have e:=c.2
  rw[Ba (by lia)] at e;exact absurd (d _ (Cp e)) (by simp)
theorem FV(b:q.Ok (Ab bab))(e:∀k,m=some k->Ab bab k/\Ab bab 0/\Ab bab 1)(W:Ws bab bw)(a:∀c∈cs,Wd c)(f:∀d∈bw,UJ 0 d):Kept bab (LU m q bab.length) bw cs (go (LU m q bab.length) bw cs):=kept (Vt b e) W a f
theorem AT:∀{rs:List Rw} {ab:List Bool} {ws N:List c6} {bab:List Bool} {bw:List c6} {cs:List Int},XU ab rs->Ws ab ws->Nr ab N bab->Ws bab bw->(∀c∈cs,Wd c)->(∀d∈bw,UJ 0 d)->Vl ab ws N bw->MOn m bab bw->(go (TJ m rs bab.length N) bw cs).cs=(go rs ws cs).cs/\(go (TJ m rs bab.length N) bw cs).er=(go rs ws cs).er∧((go rs ws cs).er≠none->WJ (N++QE m rs bab.length N) ((go rs ws cs).ws.length:Int)=some (.int (go (TJ m rs bab.length N) bw cs).ws.length))∧((go rs ws cs).er=none->Vl (ab++rs.map Rw.mk) (go rs ws cs).ws (N++QE m rs bab.length N) (go (TJ m rs bab.length N) bw cs).ws)
 |[],ab,ws,N,bab,bw,cs,_,_,_,_,_,_,V,_=>⟨rfl,rfl,λz=>absurd rfl z,λ_=>by simpa[go,TJ,QE] using V⟩
 | r :: rs,ab,ws,N,bab,bw,cs,⟨h1,h2⟩,W,Q,B,i,D,V,n => by
  have y:(r.ren (wv N)).Ok (Ab bab):=h1.ren λa g=>(Q.nm a g).2;have l:∀k,m=some k->Ab bab k/\Ab bab 0/\Ab bab 1:=λk e=>(n k e).1;obtain⟨es,f,st⟩:=gP (cs:=cs) y B n;have kp:=FV y l B i D;have A:YF (wv bw) cs (r.ren (wv N))=YF (wv ws) cs r:=by rw[CD];exact KB λa g=>(V a (h1.nm a g)).symm
  rw[A] at st;have G:=Q.step (m:=m) (q:=r.ren (wv N)) (r:=r) Rw.ren_mk;have j:=RW (m:=m) (q:=r.ren (wv N)) (k:=bab.length);rw[B.len] at st f;simp only[TJ,QE];generalize H:LV m (r.ren (wv N)) bab.length=t at*;rw[LM,st];cases e:YF (wv ws) cs r with
  |bad s=>
   rw[U3 e];refine⟨rfl,rfl,λ_=>?_,λz=>nomatch z⟩;show WJ (N++ .int t::_) (ws.length:Int)=some (.int ((bw++es).length:Nat));rw[K4 (by rw[Q.len,W.len]),Ao,B.len,f]
  |ok v cs'=>
   rw[SM e];rw[st,e] at kp;obtain⟨_,C,_,u⟩:=MK h1 (λa g=>(W.word (h1.nm a g)).2) i e;have E:Ws (bab++(LU m (r.ren (wv N)) bab.length).map Rw.mk) (bw++es++[v]):=kp.all rfl;have F:Vl (ab++[r.mk]) (ws++[v]) (N++[.int t]) (bw++es++[v]):=λa g=>by
    rcases g.inv with h|⟨h,o⟩
    ·rw[Z2 h.1 (W.lt h),Z2 h.1 (Q.lt h),Bo]
     exact V.app Q B a h
    ·obtain⟨x,_,rfl⟩:=u o
     rw[XD (ws:=ws) (by rw[h,W.len]),XD (ws:=N) (by rw[h,Q.len]),XD (ws:=bw++es) (by rw[Ao,B.len,f])]
   have p:MOn m (bab++(LU m (r.ren (wv N)) bab.length).map Rw.mk) (bw++es++[v]):=λk e=>by obtain⟨⟨a,b,c⟩,z⟩:=n k e;refine⟨⟨a.app,b.app,c.app⟩,?_⟩;rw[Bo,Z2 a.1 (B.lt a)];exact z
   have w:=AT h2 (W.snoc u) G E C kp.oks F p;rw[Ao,Aq,j] at w;simp only[MS.fin,if_true,As];simpa using w
theorem DC{m:Int}:∀{rs:List Rw} {ab:List Bool} {N:List c6} {bab:List Bool} {bw:List c6},XU ab rs->Nr ab N bab->Ws bab bw->(∀c∈cs,Wd c)->(∀d∈bw,UJ 0 d)->MOff m bab bw->∃es,go (TJ (some m) rs bab.length N) bw cs=⟨bw++es,cs,none⟩
 |[],ab,N,bab,bw,_,_,_,_,_,_=>⟨[],by simp[go,TJ]⟩
 |r::rs,ab,N,bab,bw,⟨h1,h2⟩,Q,B,f,s,h=>by
  have n:(r.ren (wv N)).Ok (Ab bab):=h1.ren λa t=>(Q.nm a t).2;obtain⟨es,st⟩:=Yw (cs:=cs) n B h;have kp:=FV (m:=some m) n (λk e=>by cases e;exact h.1) B f s;have v:=Q.step (m:=some m) (q:=r.ren (wv N)) (r:=r) Rw.ren_mk;have g:=RW (m:=some m) (q:=r.ren (wv N)) (k:=bab.length);rw[B.len] at st;rw[st] at kp;have u:Ws (bab++(LU (some m) (r.ren (wv N)) bab.length).map Rw.mk) (bw++es):=kp.all rfl;have j:MOff m (bab++(LU (some m) (r.ren (wv N)) bab.length).map Rw.mk) (bw++es):=by obtain⟨⟨a,b,c⟩,z,p,o⟩:=h;exact⟨⟨a.app,b.app,c.app⟩,by rw[Z2 a.1 (B.lt a)];exact z,by rw[Z2 b.1 (B.lt b)];exact p,by rw[Z2 c.1 (B.lt c)];exact o⟩
  obtain⟨i,l⟩:=DC h2 v u f kp.oks j;rw[Ao,Aq,g] at l;refine⟨es++i,?_⟩;simp only[TJ];rw[LM,st];simp only[if_true];rw[l,Bo]
end
section
variable{q:Rw}{ab bab:List Bool}{ws bw a:List c6}{rs qs hd s1 s2:List Rw}{c:Int}{cs b:List Int}
theorem VC(h:go rs ws cs=⟨a,b,none⟩):go (rs++qs) ws cs=go qs a b:=by rw[LM,h];rfl
theorem RU(h:(go rs ws cs).er≠none):go (rs++qs) ws cs=go rs ws cs:=by rw[LM,if_neg h]
theorem KO.eta{o:KO}(h:o.er=none):o=⟨o.ws,o.cs,none⟩:=by
 cases o;cases h;rfl
theorem ab01:Ab ((L0 hd).map Rw.mk) 0/\Ab ((L0 hd).map Rw.mk) 1:=⟨⟨by decide,rfl⟩,by decide,rfl⟩
theorem SS{k:Rw}(h:k.mk=true):(rs++[k]).map Rw.mk=rs.map Rw.mk++[true]:=by rw[Bq];simp[h]
theorem ab1:Ab ((L1 hd c).map Rw.mk) (Ma hd)/\Ab ((L1 hd c).map Rw.mk) 0/\Ab ((L1 hd c).map Rw.mk) 1:=by rw[SS rfl];refine⟨?_,ab01.1.app,ab01.2.app⟩;have h:Ab ((L0 hd).map Rw.mk++[true]) ((L0 hd).map Rw.mk).length:=Ab.new;rw[Aq] at h;exact h
theorem ab2:Ab ((UI hd s1 c).map Rw.mk) 0/\Ab ((UI hd s1 c).map Rw.mk) 1:=by rw[Bq];exact⟨ab1.2.1.app,ab1.2.2.app⟩
theorem ab3:Ab ((L3 hd s1 c).map Rw.mk) (Mb hd s1 c)/\Ab ((L3 hd s1 c).map Rw.mk) 0/\Ab ((L3 hd s1 c).map Rw.mk) 1:=by rw[SS rfl];refine⟨?_,ab2.1.app,ab2.2.app⟩;have h:Ab ((UI hd s1 c).map Rw.mk++[true]) ((UI hd s1 c).map Rw.mk).length:=Ab.new;rw[Aq] at h;exact h
theorem wf0(T:Y4 hd s1 s2 c):XU [] (L0 hd):=XU.app (rs:=[.num 0,.num 1]) ⟨⟨by decide,by decide⟩,⟨by decide,by decide⟩,trivial⟩ (AU (bab:=[true,true]) T.h0 Nr.nil λ_ e=>nomatch e)
theorem wf1(T:Y4 hd s1 s2 c):XU [] (L1 hd c):=(wf0 T).app ⟨⟨ab01.2,(nr0.nm c T.hc).2,ab01.1⟩,trivial⟩
theorem fr1(T:Y4 hd s1 s2 c):XU ((L1 hd c).map Rw.mk) (TJ (some (Ma hd)) s1 (L1 hd c).length (N1 hd)):=by
 have h:=AU (m:=some (Ma hd)) T.h1 (nr1 (c:=c)) λk e=>by cases e;exact ab1
 rw[Aq] at h;exact h
theorem wf2(T:Y4 hd s1 s2 c):XU [] (UI hd s1 c):=(wf1 T).app (fr1 T)
theorem c2(T:Y4 hd s1 s2 c):Ab ((UI hd s1 c).map Rw.mk) (wv (N0 hd) c):=by rw[Bq,Bq];exact(nr0.nm c T.hc).2.app.app
theorem wf3(T:Y4 hd s1 s2 c):XU [] (L3 hd s1 c):=(wf2 T).app ⟨⟨c2 T,ab2.1,ab2.2⟩,trivial⟩
theorem fr3(T:Y4 hd s1 s2 c):XU ((L3 hd s1 c).map Rw.mk) (TJ (some (Mb hd s1 c)) s2 (L3 hd s1 c).length (N2 hd s1 c)):=by
 have h:=AU (m:=some (Mb hd s1 c)) T.h2 (nr3 (c:=c)) λk e=>by cases e;exact ab3
 rw[Aq] at h;exact h
theorem wf4(T:Y4 hd s1 s2 c):XU [] (L4 hd s1 s2 c):=(wf3 T).app (fr3 T)
theorem Yt{n:Nat}{v:c6}(h:WJ ws (n:Int)=some v):n<ws.length:=by
 unfold WJ JQ at h;rw[if_pos (by lia)] at h;by_cases hl:(n:Int)<ws.length
 ·lia
 ·rw[if_neg hl] at h
  cases h
structure NJ(o o':KO)(N:List c6):Prop where
 cs:o'.cs=o.cs
 er:o'.er=o.er
 at_:o.er≠none->WJ N (o.ws.length:Int)=some (.int o'.ws.length)
theorem NJ.app{o o':KO}{N es:List c6}(h:NJ o o' N):NJ o o' (N++es):=⟨h.cs,h.er,λz=>by
 have:=h.at_ z
 rw[QH (by lia) (by have:=Yt this;lia)];exact this⟩
theorem dE(T:Y4 hd s1 s2 c)(p:∀c∈cs,Wd c):NJ (ref hd s1 s2 c cs) (go (L4 hd s1 s2 c) [] cs) (N4 hd s1 s2 c):=by
 have gA:go [.num 0,.num 1] [] cs=⟨[.int 0,.int 1],cs,none⟩:=rfl;have B0:Ws [true,true] [.int 0,.int 1]:=(Ws.nil.snoc (b:=true) λ_=>⟨0,⟨by decide,by decide⟩,rfl⟩).snoc (b:=true) λ_=>⟨1,⟨by decide,by decide⟩,rfl⟩;have S:∀d∈([.int 0,.int 1]:List c6),UJ 0 d:=aW aR (aW aR YM);have J:=AT (m:=none) (ab:=[]) (ws:=[]) (N:=[]) (bab:=[true,true]) T.h0 Ws.nil Nr.nil B0 p S (λa h=>by have:=h.2;simp at this) λ_ e=>nomatch e;have D:go (L0 hd) [] cs=go (TJ none hd 2 []) [.int 0,.int 1] cs:=VC gA;have k0:=kept (wf0 T) Ws.nil p (λ_ h=>nomatch h);have rk:(go (L0 hd) [] cs).cs=(go hd [] cs).cs/\(go (L0 hd) [] cs).er=(go hd [] cs).er/\((go hd [] cs).er≠none->WJ (N0 hd) ((go hd [] cs).ws.length:Int)=some (.int (go (L0 hd) [] cs).ws.length))/\((go hd [] cs).er=none->Vl (hd.map Rw.mk) (go hd [] cs).ws (N0 hd) (go (L0 hd) [] cs).ws):=by rw[D];exact J
 obtain⟨x1,y,x3,x4⟩:=rk;by_cases w:(go hd [] cs).er=none
 ·obtain⟨W,W1,W2,hk,hn⟩:=mid T p w
  have V:=x4 w;rw[w] at y;have v:Ws ((L0 hd).map Rw.mk) (go (L0 hd) [] cs).ws:=by
   have:=k0.all y
   rwa[Cd] at this
  obtain⟨ex,M,_⟩:=DH (rs:=TJ none hd 2 []) (ws:=[.int 0,.int 1]) (cs:=cs);rw[<-D] at M;have g0:=KO.eta y;have R:=k0.oks;rw[x1] at g0;have O:ref hd s1 s2 c cs=if wv (go hd [] cs).ws c=0 then go s2 ((go hd [] cs).ws++([.non]++s1.map λ_=>c6.non)) (go hd [] cs).cs else go s1 ((go hd [] cs).ws++[.non]) (go hd [] cs).cs:=by unfold ref;rw[if_pos w]
  rw[O];generalize (go (L0 hd) [] cs).ws=bw at*;generalize (go hd [] cs).cs=t at*;generalize (go hd [] cs).ws=ws at*;have w0:wv bw 0=0:=by rw[M];simp[wv]
  have w1:wv bw 1=1:=by rw[M];simp[wv]
  have C:=(nr0.nm c T.hc).2;have vc:wv bw (wv (N0 hd) c)=wv ws c:=(V c T.hc).symm;have E:go (L1 hd c) [] cs=⟨bw++[.int (wv ws c)],t,none⟩:=by rw[VC g0,X2];simp[YF,w1,vc,MS.fin]
  have u:Ws ((L1 hd c).map Rw.mk) (bw++[.int (wv ws c)]):=by rw[SS rfl];exact v.snoc λ_=>⟨_,(W.word T.hc).2,rfl⟩
  have j:∀d∈bw++[.int (wv ws c)],UJ 0 d:=λd hd=>by
   rcases Bz.mp hd with z|z
   ·exact R d z
   ·rw[Az.mp z];exact aR
  have Q:bw.length=(L0 hd).length:=by rw[v.len,Aq]
  have m1:wv (bw++[.int (wv ws c)]) (Ma hd)=wv ws c:=XD (by rw[Q]);have a0:wv (bw++[.int (wv ws c)]) 0=0:=by rw[Z2 (by decide) (v.lt ab01.1)];exact w0
  have a1:wv (bw++[.int (wv ws c)]) 1=1:=by rw[Z2 (by decide) (v.lt ab01.2)];exact w1
  have V1:Vl (hd.map Rw.mk) ws (N0 hd) (bw++[.int (wv ws c)]):=V.app nr0 v;have B:((L1 hd c).map Rw.mk).length=(L1 hd c).length:=Aq ..;have A:((L3 hd s1 c).map Rw.mk).length=(L3 hd s1 c).length:=Aq ..;by_cases hz:wv ws c=0
  ·rw[if_pos hz]
   obtain⟨es,f1⟩:=DC (cs:=t) T.h1 (nr1 (c:=c)) u hk j ⟨ab1,by rw[m1];exact hz,a0,a1⟩;rw[B] at f1;have i:=kept (fr1 T) u hk j;rw[f1] at i;have n:Ws ((UI hd s1 c).map Rw.mk) (bw++[.int (wv ws c)]++es):=by rw[Bq];exact i.all rfl
   have s:=i.oks;have x:go (UI hd s1 c) [] cs=⟨bw++[.int (wv ws c)]++es,t,none⟩:=(VC E).trans f1;have I:Vl (hd.map Rw.mk) ws (N0 hd) (bw++[.int (wv ws c)]++es):=by rw[Bo];exact V.app nr0 v
   have Z:wv (bw++[.int (wv ws c)]++es) 1=1:=by rw[Z2 (by decide) (u.lt ab1.2.2)];exact a1
   have Y:wv (bw++[.int (wv ws c)]++es) (wv (N0 hd) c)=0:=by rw[<-I c T.hc];exact hz
   generalize bw++[.int (wv ws c)]++es=f at*;have l:go (L3 hd s1 c) [] cs=⟨f++[.int 1],t,none⟩:=by rw[VC x,X2];simp[YF,Z,Y,MS.fin]
   have B4:Ws ((L3 hd s1 c).map Rw.mk) (f++[.int 1]):=by rw[SS rfl];exact n.snoc λ_=>⟨_,⟨by decide,by decide⟩,rfl⟩
   have q:∀d∈f++[.int 1],UJ 0 d:=λd hd=>by
    rcases Bz.mp hd with z|z
    ·exact s d z
    ·rw[Az.mp z];exact aR
   have L:f.length=(UI hd s1 c).length:=by rw[n.len,Aq]
   have V4:Vl (hd.map Rw.mk++[false]++offs s1) (ws++([.non]++s1.map λ_=>c6.non)) (N2 hd s1 c) (f++[.int 1]):=by
    have nr:Nr (hd.map Rw.mk) (N0 hd) ((UI hd s1 c).map Rw.mk):=by rw[Bq,Bq];exact nr0.app.app
    have V3:Vl (hd.map Rw.mk) ws (N0 hd) (f++[.int 1]):=I.app nr n;have:=V3.offs (es:=[.non]++s1.map λ_=>c6.non) (ns:=[.non]++QE (some (Ma hd)) s1 (L1 hd c).length (N1 hd)) (bs:=[false]++offs s1) nr W (by simp)
    have e:N2 hd s1 c=N0 hd++([.non]++QE (some (Ma hd)) s1 (L1 hd c).length (N1 hd)):=Bo ..;have e2:hd.map Rw.mk++[false]++offs s1=hd.map Rw.mk++([false]++offs s1):=Bo ..;rw[e,e2];exact this
   have K:wv (f++[.int 1]) (Mb hd s1 c)=1:=XD (by rw[L]);have r:=AT (m:=some (Mb hd s1 c)) T.h2 W2 (nr3 (c:=c)) B4 hk q V4 λk e=>by
    cases e;exact⟨ab3,by rw[K];decide⟩
   rw[A] at r;rw[VC l];exact⟨r.1,r.2.1,r.2.2.1⟩
  ·rw[if_neg hz]
   have I:Vl (hd.map Rw.mk++[false]) (ws++[.non]) (N1 hd) (bw++[.int (wv ws c)]):=V1.offs nr0 W (by simp);have r:=AT (m:=some (Ma hd)) T.h1 W1 (nr1 (c:=c)) u hk j I λk e=>by
    cases e;exact⟨ab1,by rw[m1];exact hz⟩
   rw[B] at r;have i:=kept (fr1 T) u hk j;have x:go (UI hd s1 c) [] cs=go (TJ (some (Ma hd)) s1 (L1 hd c).length (N1 hd)) (bw++[.int (wv ws c)]) t:=VC E;rw[<-x] at r i;have A2:NJ (go s1 (ws++[.non]) t) (go (UI hd s1 c) [] cs) (N2 hd s1 c):=⟨r.1,r.2.1,r.2.2.1⟩;by_cases G:(go s1 (ws++[.non]) t).er=none
   ·have g : (go (UI hd s1 c) [] cs).er = none := by rw [r.2.1];exact G
    have n:Ws ((UI hd s1 c).map Rw.mk) (go (UI hd s1 c) [] cs).ws:=by rw[Bq];exact i.all g
    have s:=i.oks;have P:=i.ok;obtain⟨es,o,_⟩:=i.ext;have X:=KO.eta g;have b0:wv (go (UI hd s1 c) [] cs).ws 0=0:=by rw[o,Z2 (by decide) (u.lt ab1.2.1)];exact a0
    have Z:wv (go (UI hd s1 c) [] cs).ws 1=1:=by rw[o,Z2 (by decide) (u.lt ab1.2.2)];exact a1
    have Y:wv (go (UI hd s1 c) [] cs).ws (wv (N0 hd) c)=wv ws c:=by rw[o,Bo,Z2 C.1 (v.lt C)];exact vc
    have tz:=r.1;generalize (go (UI hd s1 c) [] cs).ws=f at*;generalize (go (UI hd s1 c) [] cs).cs=F at*;have l:go (L3 hd s1 c) [] cs=⟨f++[.int 0],F,none⟩:=by rw[VC X,X2];simp[YF,b0,Y,hz,MS.fin]
    have B4:Ws ((L3 hd s1 c).map Rw.mk) (f++[.int 0]):=by rw[SS rfl];exact n.snoc λ_=>⟨_,⟨by decide,by decide⟩,rfl⟩
    have q:∀d∈f++[.int 0],UJ 0 d:=λd hd=>by
     rcases Bz.mp hd with z|z
     ·exact s d z
     ·rw[Az.mp z];exact aR
    have L:f.length=(UI hd s1 c).length:=by rw[n.len,Aq]
    have K:wv (f++[.int 0]) (Mb hd s1 c)=0:=XD (by rw[L]);obtain⟨es2,f2⟩:=DC (cs:=F) T.h2 (nr3 (c:=c)) B4 P q ⟨ab3,K,by rw[Z2 (by decide) (n.lt ab2.1)];exact b0,by rw[Z2 (by decide) (n.lt ab2.2)];exact Z⟩;rw[A] at f2;rw[VC l,f2];exact⟨tz,G.symm,λz=>absurd G z⟩
   ·have g : (go (UI hd s1 c) [] cs).er ≠ none := by rw [r.2.1];exact G
    have l:go (L3 hd s1 c) [] cs=go (UI hd s1 c) [] cs:=RU g;have U:go (L4 hd s1 s2 c) [] cs=go (UI hd s1 c) [] cs:=(RU (by rw[l];exact g)).trans l;rw[U];exact A2.app
 ·have O : ref hd s1 s2 c cs = go hd [] cs := by unfold ref;rw [if_neg w]
  rw[O];have H:(go (L0 hd) [] cs).er≠none:=by rw[y];exact w
  have E:go (L1 hd c) [] cs=go (L0 hd) [] cs:=RU H;have x:go (UI hd s1 c) [] cs=go (L0 hd) [] cs:=(RU (by rw[E];exact H)).trans E;have l:go (L3 hd s1 c) [] cs=go (L0 hd) [] cs:=(RU (by rw[x];exact H)).trans x;have U:go (L4 hd s1 s2 c) [] cs=go (L0 hd) [] cs:=(RU (by rw[l];exact H)).trans l;rw[U];have A0:NJ (go hd [] cs) (go (L0 hd) [] cs) (N0 hd):=⟨x1,y,x3⟩;have A1:NJ (go hd [] cs) (go (L0 hd) [] cs) (N1 hd):=A0.app;have A2:NJ (go hd [] cs) (go (L0 hd) [] cs) (N2 hd s1 c):=A1.app;exact A2.app
end
@[simp] theorem rQ:BI (.bl true) (.bl true)=some (.bl false):=(rfl)
def isW:Kd->Bool
 |.w=>true
 |_=>false
theorem aC.rw{M:Int->Prop}{row:c6}(h:aC M row):∃r:Rw,row=r.dat/\r.Ok M/\isW (JW .w row)=r.mk:=by
 cases h with
 | @number n a b=>exact⟨.num n,rfl,⟨a,b⟩,by kernel_rfl⟩
 | @two x a b g d f=>
  refine⟨.two x a b,rfl,⟨g,d,f⟩,?_⟩;rcases d7 g with rfl|rfl|rfl|rfl|rfl|rfl|rfl<;>kernel_rfl
 | @pick c a b hc d f=>exact⟨.pick c a b,rfl,⟨hc,d,f⟩,by kernel_rfl⟩
 | @load p a b=>exact⟨.load p,rfl,⟨a,b⟩,by kernel_rfl⟩
 | @take p c a e h1 hc d=>exact⟨.take p c a,rfl,⟨⟨e,h1⟩,hc,d⟩,by kernel_rfl⟩
 | @store p a e h1 d=>exact⟨.store p a,rfl,⟨⟨e,h1⟩,d⟩,by kernel_rfl⟩
 | @put p a c e h1 d hc=>exact⟨.put p a c,rfl,⟨⟨e,h1⟩,d,hc⟩,by kernel_rfl⟩
theorem oR{kds:List Kd}{a:Int}(h:Nm kds .w a):Ab (kds.map isW) a:=⟨h.1,by rw[Dc,h.2];rfl⟩
theorem Bl.rws{kds b:List Kd}{rows:List c6}(h:Bl kds rows b):∃rs:List Rw,rows=rs.map Rw.dat/\XU (kds.map isW) rs:=by
 induction h with
 |nil=>exact⟨[],rfl,trivial⟩
 | @cons kds b row rows ok _ c=>
  obtain⟨rs,e,w⟩:=c;obtain⟨r,rfl,d,f⟩:=ok.rw;refine⟨r::rs,by rw[e];rfl,d.imp λa=>oR,?_⟩;rw[Bq,List.map_singleton,f] at w;exact w
section
variable{ab pre:List Bool}{rs:List Rw}{r:Rw}{k:Int}
noncomputable abbrev shf(k:Int)(rs:List Rw):List Rw:=rs.map (Rw.ren (· +k))
theorem Ab.sh{a:Int}(h:Ab ab a)(hk:k=pre.length):Ab (pre++ab) (a+k):=by have b:=h.1;refine⟨by lia,?_⟩;rw[Ba (by lia),show(a+k).toNat - pre.length=a.toNat by lia];exact h.2
theorem XU.sh(hk:k=pre.length):∀{rs:List Rw} {ab:List Bool},XU ab rs->XU (pre++ab) (shf k rs)
 |[],_,_=>trivial
 |r::rs,ab,⟨h1,h2⟩=>by have b:=XU.sh hk h2;rw[<-Bo] at b;exact⟨h1.ren λa c=>c.sh hk,by rw[Rw.ren_mk];exact b⟩
theorem rE{pw ws:List c6}{a:Int}(b:0<=a)(h1:a<ws.length)(hk:k=pw.length):wv (pw++ws) (a+k)=wv ws a:=by unfold wv;rw[X1 (by lia) (by simp;lia),X1 b h1,Ba (by lia),show(a+k).toNat - pw.length=a.toNat by lia]
theorem Sh{pw:List c6}(hk:k=pw.length):∀{rs:List Rw} {ab:List Bool} {ws:List c6} {cs:List Int},XU ab rs->Ws ab ws->(∀c∈cs,Wd c)->go (shf k rs) (pw++ws) cs=⟨pw++(go rs ws cs).ws,(go rs ws cs).cs,(go rs ws cs).er⟩
 |[],_,_,_,_,_,_=>rfl
 | r :: rs,ab,ws,cs,⟨h1,h2⟩,W,d => by
  have b:YF (wv (pw++ws)) cs (r.ren (· +k))=YF (wv ws) cs r:=by
   rw[CD];exact KB λa f=>by
    have:=h1.nm a f
    exact rE this.1 (W.lt this) hk
  cases e:YF (wv ws) cs r with
  |bad s=>
   rw[e] at b;rw[U3 e];exact U3 b
  |ok m cs'=>
   rw[e] at b;rw[SM e];obtain⟨_,i,_,h⟩:=MK h1 (λa f=>(W.word (h1.nm a f)).2) d e;have g:=Sh hk h2 (W.snoc h) i;rw[<-Bo] at g;exact(SM b).trans g
theorem XU.bd:∀{rs:List Rw} {ab:List Bool},XU ab rs->∀r∈rs,r.Ok λa=>0<=a/\a<ab.length+rs.length
 | r :: rs,ab,⟨h1,h2⟩,q,c => by
  rcases Aj.mp c with z|z
  ·rw[z]
   exact h1.imp λa b=>⟨b.1,by have:=b.lt;simp;lia⟩
  ·exact(XU.bd h2 q z).imp λa b=>⟨b.1,by have:=b.2;simp at this⊢;lia⟩
theorem gV{ks:List aG}{vs:List c6}{e:Int->Int}{M:Int->Prop}(h:r.Ok M)(hk:∀a∈r.nms,bN ks vs (.inl a)=some (.int (e a))):cD [r.dat,.dct ks vs]=some ((r.ren e).dat,[]):=by
 unfold cD;rw[cO];unfold aS;cases r with
 |num n=>simp[cF,Rw.dat,Rw.ren]
 |two x a b=>
  have d:=h.1;have k:=(HD d (y:= "number") (by decide)).1;have j:=(HD d (y:= "load") (by decide)).2;have i:=(HD d (y:= "take") (by decide)).2;have g:=(HD d (y:= "store") (by decide)).2;have f:=(HD d (y:= "put") (by decide)).2;simp[cF,Rw.dat,Rw.ren,k,j,i,g,f,bL,hk a (by simp[Rw.nms]),hk b (by simp[Rw.nms])]
 |pick c a b=>simp[cF,Rw.dat,Rw.ren,bL,hk a (by simp[Rw.nms]),hk b (by simp[Rw.nms]),hk c (by simp[Rw.nms])]
 |load p=>simp[cF,Rw.dat,Rw.ren,bL]
 |take p c a=>simp[cF,Rw.dat,Rw.ren,bL,hk a (by simp[Rw.nms]),hk c (by simp[Rw.nms])]
 |store p a=>simp[cF,Rw.dat,Rw.ren,bL,hk a (by simp[Rw.nms])]
 |put p a c=>simp[cF,Rw.dat,Rw.ren,bL,hk a (by simp[Rw.nms]),hk c (by simp[Rw.nms])]
theorem A9:∀xs:List Int,TY (xs.map λi=>.tup [.int i,.int (i+k)])=some (xs.map λi=>(.inl i,.int (i+k)))
 |[]=>rfl
 |i::xs=>by rw[As,As];show(some ((.inl i:aG),c6.int (i+k))).bind (λp=>(TY _).map λps=>p::ps)=_;rw[A9 xs];rfl
theorem BB:∀{xs:List Int} {a:Int},a∈xs->bN (xs.map Jv) (xs.map λi=>c6.int (i+k)) (.inl a)=some (.int (a+k))
 | i :: xs,a,h => by
  by_cases e:i=a
  ·subst e
   simp[bN]
  ·have b : ¬ (Jv i : aG) = .inl a := λz => e (by injection z)
   rw[As,As];simp only[bN,if_neg b];rcases Aj.mp h with z|z
   ·exact absurd z.symm e
   ·exact BB z
abbrev rgZ(n:Nat):List Int:=(Bh n).map λ(i:Nat)=>(i:Int)
noncomputable def shD(D:c6)(d:c6):c6:=match cD [d,D] with
 |some (x,_)=>x
 |none=>.non
theorem GL(h:XU [] rs)(hl:rs.length<1000):aB [.tup (rs.map Rw.dat),.int k]=some (.tup ((shf k rs).map Rw.dat),[]):=by
 have l:=XJ 1 (bE (cZ (fV 1) (cZ (f2 aQ (fV 1) (fV 0)) cC))) [.va (.int k)] (λd=>match d with
  |.int i=>.tup [.int i,.int (i+k)]
  |_=>.non) rfl (ZF 0 rs.length) [] (λd hd=>by obtain⟨i,_,rfl⟩:=Cc.mp hd;simp) (by simp[ZF];lia)
 have p:(ZF 0 rs.length).map (λd=>match d with
  |.int i=>c6.tup [.int i,.int (i+k)]
  |_=>.non)=(rgZ rs.length).map λi=>.tup [.int i,.int (i+k)]:=by
  unfold ZF;rw[Gi,Gi];exact Fw λi _=>by simp
 rw[p,Cd] at l;have m:(rgZ rs.length).Nodup:=Gm _ (λa b h e=>h (by lia)) List.nodup_range;generalize j:(c6.dct ((rgZ rs.length).map Jv) ((rgZ rs.length).map λi=>.int (i+k)))=D;have hd:JZ (.lst ((rgZ rs.length).map λi=>.tup [.int i,.int (i+k)]))=some D:=by
  show(TY ((rgZ rs.length).map λi=>.tup [.int i,.int (i+k)])).bind (λkds=>if(kds.map Db).Nodup then some (c6.dct (kds.map Db) (kds.map Ec)) else none)=_;have f1:((rgZ rs.length).map λi=>((.inl i:aG),c6.int (i+k))).map Db=(rgZ rs.length).map Jv:=by rw[Gi];rfl
  have f2:((rgZ rs.length).map λi=>((.inl i:aG),c6.int (i+k))).map Ec=(rgZ rs.length).map λi=>.int (i+k):=by rw[Gi];rfl
  rw[A9,Ak,if_pos,f1,f2,j];rw[f1];exact Gm _ (λa b h e=>h (by injection e)) m
 have c:∀r∈rs,cD [r.dat,D]=some ((r.ren (· +k)).dat,[]):=λr c=>by
  have g:=h.bd r c;rw[<-j];refine gV g λa n=>BB ?_;have:=g.nm a n
  simp only[Hg,Ig] at this;exact Cc.mpr ⟨a.toNat,Ck.mpr (by lia),by lia⟩
 have c2:=XJ 1 (cQ 2 [] cD (aE (fV 1) (aE (fV 0) b9))) [.va D] (shD D) rfl (rs.map Rw.dat) [] (λd hd=>by obtain⟨r,f,rfl⟩:=Cc.mp hd;simp[c r f,shD]) (by simp;lia)
 have o:(rs.map Rw.dat).map (shD D)=(shf k rs).map Rw.dat:=by rw[Gi,Gi];exact Fw λr f=>by simp[shD,c r f]
 rw[o,Cd] at c2;have hi:(-4611686018427387904:Int)<=(rs.length:Int)/\(rs.length:Int)<4611686018427387904:=by lia
 unfold aB;rw[cO];unfold U2;generalize ((rgZ rs.length).map λi=>c6.tup [.int i,.int (i+k)])=P at*;generalize (shf k rs).map Rw.dat=Q at*;simp[cF,bL,hi,l,hd,c2]
end
theorem dZ{k:Nat}(cs:List Int):UJ (k+1) (.lst (cs.map .int)):=W3 λd hd=>by obtain⟨c,_,rfl⟩:=Cc.mp hd;exact aR
theorem jZ(o:KO):UJ 1 o.fd:=by
 unfold KO.fd;split
 ·exact M4
 ·exact RX (aW aR (aW YL YM))
theorem BE(o:KO):QF (.tup [.lst (o.cs.map .int),o.fd]) (.tup [.lst (o.cs.map .int),o.fd])=some (.bl false):=by have h:UJ 2 (.tup [.lst (o.cs.map .int),o.fd]):=RX (aW (dZ _) (aW (jZ o) YM));rw[BH h h,kM h];rfl
section
variable{ns:List Int}{r1 r2:List Rw}{v sure:Int}{cs:List Int}
noncomputable abbrev S1(r1:List Rw):List Rw:=shf 2 r1
noncomputable abbrev S2(r1 r2:List Rw):List Rw:=shf (2+(r1.length:Int)) r2
theorem Vr(h1:XU [] r1)(h2:XU [] r2)(a:Wd v)(c:r1.length<=3)(b:r2.length<=3):Y4 [.num v] (S1 r1) (S2 r1 r2) 0:=by
 refine⟨⟨a,trivial⟩,⟨by decide,rfl⟩,?_,?_,by simp;lia⟩
 ·have:=h1.sh (pre:=[true,false]) (k:=2) rfl
  exact this
 ·have := h2.sh (pre := [true] ++ [false] ++ offs (S1 r1)) (k := 2 + (r1.length : Int)) (by simp;lia)
  rw[Bp] at this;exact this
theorem kX(h1:XU [] r1)(h2:XU [] r2)(a:∀c∈cs,Wd c):∃pw:List c6,ref [.num v] (S1 r1) (S2 r1 r2) 0 cs=⟨pw++(if v=0 then go r2 [] cs else go r1 [] cs).ws,(if v=0 then go r2 [] cs else go r1 [] cs).cs,(if v=0 then go r2 [] cs else go r1 [] cs).er⟩/\(pw.length:Int)=if v=0 then 2+(r1.length:Int) else 2:=by
 have d:go [.num v] [] cs=⟨[.int v],cs,none⟩:=rfl;have b:wv [.int v] 0=v:=by simp[wv]
 unfold ref;rw[d,if_pos rfl,b];by_cases hz:v=0
 ·rw[if_pos hz,if_pos hz,if_pos hz]
  have hl:2+(r1.length:Int)=(([c6.int v]++([c6.non]++(S1 r1).map λ_=>c6.non)).length:Nat):=by simp;lia
  refine⟨[.int v]++([.non]++(S1 r1).map λ_=>c6.non),?_,hl.symm⟩;have:=Sh hl h2 Ws.nil a
  rw[Bp] at this;exact this
 ·rw[if_neg hz,if_neg hz,if_neg hz]
  refine⟨[.int v,.non],?_,rfl⟩;have:=Sh (pw:=[.int v,.non]) (k:=2) rfl h1 Ws.nil a
  rw[Bp] at this;exact this
theorem Wg(hl:ns.length<=63)(h1:XU [] r1)(h2:XU [] r2)(I:Wd v)(B:r1.length<=3)(t:r2.length<=3)(C:(L4 [.num v] (S1 r1) (S2 r1 r2) 0).length<=40)(k:0<=sure)(b:sure<=64)(q1 q2:c6)(n:Nat)(P:n<9000)(x y z u w:Sl):∃m F E G w',m<=n+67/\MT [.va (VN ns),.ow (XE n),.va (.tup [q1,.tup (r1.map Rw.dat)]),.va (.tup [q2,.tup (r2.map Rw.dat)]),.va (.int sure),.va (.int v),.va (.tup [.int sure,.tup (([.num v]:List Rw).map Rw.dat++[VU 0 (S1 r1) (S2 r1 r2)])]),.va (.tup [.int sure,.tup ((L4 [.num v] (S1 r1) (S2 r1 r2) 0).map Rw.dat)]),.va (.lst (N4 [.num v] (S1 r1) (S2 r1 r2) 0)),.va (.int (if v=0 then 2+(r1.length:Int) else 2)),x,y,z,u,w]=some (.nx [.va (VN ns),.ow (XE m),.va (.tup [q1,.tup (r1.map Rw.dat)]),.va (.tup [q2,.tup (r2.map Rw.dat)]),.va (.int sure),.va (.int v),.va (.tup [.int sure,.tup (([.num v]:List Rw).map Rw.dat++[VU 0 (S1 r1) (S2 r1 r2)])]),.va (.tup [.int sure,.tup ((L4 [.num v] (S1 r1) (S2 r1 r2) 0).map Rw.dat)]),.va (.lst (N4 [.num v] (S1 r1) (S2 r1 r2) 0)),.va (.int (if v=0 then 2+(r1.length:Int) else 2)),x,F,E,G,w']):=by
 obtain⟨cs,m,a,q,c2,L,p⟩:=gT ns n sure hl (by lia) k b;have T:=Vr h1 h2 I B t;have f:=GF T k b a q c2;have g:=D9 (cs:=cs) (sure:=sure) (wf4 T) k b C a q c2;have A:=dE T a;obtain⟨pw,J,K⟩:=kX (v:=v) h1 h2 a;have j:NK [.tup [.int sure,.tup ((if v=0 then r2 else r1).map Rw.dat)],.lst (cs.map .int)]=some (.tup [.lst ((if v=0 then go r2 [] cs else go r1 [] cs).cs.map .int),(if v=0 then go r2 [] cs else go r1 [] cs).fd],[]):=by
  by_cases hz:v=0
  ·rw[if_pos hz,if_pos hz]
   exact D9 h2 k b (by lia) a q c2
  ·rw[if_neg hz,if_neg hz]
   exact D9 h1 k b (by lia) a q c2
 have d:=BE (ref [.num v] (S1 r1) (S2 r1 r2) 0 cs);have l:=A.cs;have e:=A.er;have i:=A.at_;have c:=BE (go (L4 [.num v] (S1 r1) (S2 r1 r2) 0) [] cs);rw[J] at f l e i d;rw[l] at g c;generalize (if v=0 then go r2 [] cs else go r1 [] cs)=o at*;have h:(if v=0 then r2.map Rw.dat else r1.map Rw.dat)=(if v=0 then r2 else r1).map Rw.dat:=by split<;>rfl
 generalize (if v=0 then r2 else r1).map Rw.dat=H at*;generalize r1.map Rw.dat=R at*;generalize r2.map Rw.dat=Q at*;generalize ([.num v]:List Rw).map Rw.dat++[VU 0 (S1 r1) (S2 r1 r2)]=O at*;generalize (L4 [.num v] (S1 r1) (S2 r1 r2) 0).map Rw.dat=bl at*;generalize N4 [.num v] (S1 r1) (S2 r1 r2) 0=N at*;generalize go (L4 [.num v] (S1 r1) (S2 r1 r2) 0) [] cs=o' at*;generalize (if v=0 then 2+(r1.length:Int) else 2)=first at*
 refine⟨m,.va (.lst (cs.map .int)),.va (.lst (o.cs.map .int)),.va o.fd,.va (match o.er with
  |none=>.non
  |some s=>.tup [.int (o.ws.length+first),.str s]),L,?_⟩
 unfold MT;have M:(((pw++o.ws).length:Nat):Int)=o.ws.length+first:=by rw[Ao];push_cast;rw[K];lia
 unfold KO.fd at f g j d c⊢;simp only[M] at f d i;rw[e] at g c;cases r:o.er with
 |none=>
  rw[r] at f g j d c e;by_cases hz:v=0
  ·simp only[if_pos hz] at h
   subst h;simp[p,hz,j,f,d,g,c]
  ·simp only[if_neg hz] at h
   subst h;simp[p,hz,j,f,d,g,c]
 |some s=>
  rw[r] at f g j d c e;have D:=i (by rw[r];simp);by_cases hz:v=0
  ·simp only[if_pos hz] at h
   subst h;simp[p,hz,j,f,d,g,c,D]
  ·simp only[if_neg hz] at h
   subst h;simp[p,hz,j,f,d,g,c,D]
theorem JT(hl:ns.length<=63)(h1:XU [] r1)(h2:XU [] r2)(g:Wd v)(c:r1.length<=3)(b:r2.length<=3)(d:(L4 [.num v] (S1 r1) (S2 r1 r2) 0).length<=40)(f:0<=sure)(a:sure<=64)(q1 q2:c6):∀(ds:List c6) (n:Nat),n+67*ds.length<9000->∀x y z u w,∃D p m j A w',YQ (gN 10) MT ds [.va (VN ns),.ow (XE n),.va (.tup [q1,.tup (r1.map Rw.dat)]),.va (.tup [q2,.tup (r2.map Rw.dat)]),.va (.int sure),.va (.int v),.va (.tup [.int sure,.tup (([.num v]:List Rw).map Rw.dat++[VU 0 (S1 r1) (S2 r1 r2)])]),.va (.tup [.int sure,.tup ((L4 [.num v] (S1 r1) (S2 r1 r2) 0).map Rw.dat)]),.va (.lst (N4 [.num v] (S1 r1) (S2 r1 r2) 0)),.va (.int (if v=0 then 2+(r1.length:Int) else 2)),x,y,z,u,w]=some (.nx [.va (VN ns),.ow (XE D),.va (.tup [q1,.tup (r1.map Rw.dat)]),.va (.tup [q2,.tup (r2.map Rw.dat)]),.va (.int sure),.va (.int v),.va (.tup [.int sure,.tup (([.num v]:List Rw).map Rw.dat++[VU 0 (S1 r1) (S2 r1 r2)])]),.va (.tup [.int sure,.tup ((L4 [.num v] (S1 r1) (S2 r1 r2) 0).map Rw.dat)]),.va (.lst (N4 [.num v] (S1 r1) (S2 r1 r2) 0)),.va (.int (if v=0 then 2+(r1.length:Int) else 2)),p,m,j,A,w'])
 |[],n,_,x,y,z,u,w=>⟨n,x,y,z,u,w,by rw[Uu]⟩
 |e::ds,n,F,x,y,z,u,w=>by simp only[Ax] at F;obtain⟨C,l,i,t,r,H,G⟩:=Wg hl h1 h2 g c b d f a q1 q2 n (by lia) (.va e) y z u w;obtain⟨B,o,k,h,s,q,E⟩:=JT hl h1 h2 g c b d f a q1 q2 ds C (by lia) (.va e) l i t r;refine⟨B,o,k,h,s,q,?_⟩;rw[XN,NE,VE];simp only[Ms,Mt];rw[G,VH,E]
theorem N4_1{s1 s2:List Rw}:WJ (N4 [.num v] s1 s2 0) 1=some .non/\(N4 [.num v] s1 s2 0).length=2+s1.length+s2.length:=by
 have b:=PX (m:=some (Ma [.num v])) (rs:=s1) (k:=(L1 [.num v] 0).length) (N:=N1 [.num v]);have a:=PX (m:=some (Mb [.num v] s1 0)) (rs:=s2) (k:=(L3 [.num v] s1 0).length) (N:=N2 [.num v] s1 0);have e:N4 [.num v] s1 s2 0=[.int 2]++ .non::(QE (some (Ma [.num v])) s1 (L1 [.num v] 0).length (N1 [.num v])++QE (some (Mb [.num v] s1 0)) s2 (L3 [.num v] s1 0).length (N2 [.num v] s1 0)):=by show[.int 2]++[.non]++QE (some (Ma [.num v])) s1 (L1 [.num v] 0).length (N1 [.num v])++QE (some (Mb [.num v] s1 0)) s2 (L3 [.num v] s1 0).length (N2 [.num v] s1 0)=_;simp only[Bo];rfl
 rw[e];clear e;generalize QE (some (Ma [.num v])) s1 (L1 [.num v] 0).length (N1 [.num v])=d at b⊢;generalize QE (some (Mb [.num v] s1 0)) s2 (L3 [.num v] s1 0).length (N2 [.num v] s1 0)=c at a⊢;exact⟨K4 rfl,by simp;lia⟩
theorem pX(b:r1.length<=3)(a:r2.length<=3):(L4 [.num v] (S1 r1) (S2 r1 r2) 0).length<=40:=by
 have i:(S1 r1).length=r1.length:=Aq ..;have g:(S2 r1 r2).length=r2.length:=Aq ..;generalize S2 r1 r2=s2 at*;generalize S1 r1=s1 at*;have f:=RS (m:=none) (rs:=[.num v]) (k:=2) (N:=[]);have e:=RS (m:=some (Ma [.num v])) (rs:=s1) (k:=(L1 [.num v] 0).length) (N:=N1 [.num v]);have d:=RS (m:=some (Mb [.num v] s1 0)) (rs:=s2) (k:=(L3 [.num v] s1 0).length) (N:=N2 [.num v] s1 0);have c:([.num v]:List Rw).length=1:=rfl;generalize ([.num v]:List Rw)=h at*;have n:(L0 h).length=2+(TJ none h 2 []).length:=by simp;lia
 have l:(L1 h 0).length=(L0 h).length+1:=Ao;have a2:(UI h s1 0).length=(L1 h 0).length+(TJ (some (Ma h)) s1 (L1 h 0).length (N1 h)).length:=Ao;have j:(L3 h s1 0).length=(UI h s1 0).length+1:=Ao;have a4:(L4 h s1 s2 0).length=(L3 h s1 0).length+(TJ (some (Mb h s1 0)) s2 (L3 h s1 0).length (N2 h s1 0)).length:=Ao;lia
end
end L2
namespace RR
open PySem L2
theorem kE(ns:List Int)(hl:ns.length<=63):IQ [.lst (ns.map .int)]=some (.bl true,[]):=by
 obtain⟨b,d1,k1,K,P,l1,Y,J,R,G⟩:=E1 ns 0 3 hl (by lia) (by decide) (by decide);obtain⟨a,d2,k2,w,O,l2,p2,I,Q,F⟩:=E1 ns K 3 hl (by lia) (by decide) (by decide);obtain⟨r1,rfl,l⟩:=P.rws;obtain⟨r2,rfl,j⟩:=O.rws;have y:(r1.map Rw.dat).length=r1.length:=Aq ..;have x:(r2.map Rw.dat).length=r2.length:=Aq ..;have e:r1.length<=3:=by lia
 have d:r2.length<=3:=by lia
 obtain⟨p,D,E⟩:=W4 ns w [.int 0,.int 0,.int 1,.int 2,.int 999] hl (by lia) (by simp);obtain⟨v,rfl,B⟩:∃m:Int,p=.int m/\Wd m:=by simp only[Aj,Aw,or_false] at D;rcases D with h|h|h|h|h<;>exact⟨_,h,by decide,by decide⟩
 obtain⟨sure,C,q,c⟩:∃s:Int,(if b<a then a else b)=s/\0<=s/\s<=64:=⟨_,rfl,by split<;>lia,by split<;>lia⟩;have T:=Vr l j B e d;have f:=pX (v:=v) e d;have r:=IL T q c;have t:=oH (sure:=sure) T q c f;have o:=GL (k:=2) l (by lia);have n:=GL (k:=2+(r1.length:Int)) j (by lia);obtain⟨Z,V,U,S,W,w',i⟩:=JT (ns:=ns) (sure:=sure) hl l j B e d f q c (.int b) (.int a) [.int 0,.int 1,.int 2,.int 3] (w+1) (by simp;lia) .no .no .no .no .no;obtain⟨f1,f2⟩:=N4_1 (v:=v) (s1:=S1 r1) (s2:=S2 r1 r2);have L:([.num v]:List Rw).map Rw.dat++[VU 0 (S1 r1) (S2 r1 r2)]=[.tup [.str "number",.int v],.tup [.str "if",.int 0,.tup ((S1 r1).map Rw.dat),.tup ((S2 r1 r2).map Rw.dat)]]:=rfl;rw[L] at r t i;have N:(S1 r1).length=r1.length:=Aq ..;have M:(S2 r1 r2).length=r2.length:=Aq ..;rw[N,M] at f2;have g:((N4 [.num v] (S1 r1) (S2 r1 r2) 0).length:Int)=2+(r1.length:Int)+(r2.length:Int):=by rw[f2];push_cast;rfl
 generalize (L4 [.num v] (S1 r1) (S2 r1 r2) 0).map Rw.dat=bl at*;generalize N4 [.num v] (S1 r1) (S2 r1 r2) 0=NN at*;have z:aB [.tup (r1.map Rw.dat),.int 2]=some (.tup ((S1 r1).map Rw.dat),[]):=o;have A:aB [.tup (r2.map Rw.dat),.int (2+(r1.length:Int))]=some (.tup ((S2 r1 r2).map Rw.dat),[]):=n;generalize (S1 r1).map Rw.dat=A1 at*;generalize (S2 r1 r2).map Rw.dat=A2 at*;generalize r1.map Rw.dat=B1 at*;generalize r2.map Rw.dat=B2 at*;unfold IQ;rw[cO,zEK.eq_1];have u:c6.lst []=XE 0:=rfl;have H:c6.lst (ns.map .int)=VN ns:=rfl;have X:ZF 0 4=[.int 0,.int 1,.int 2,.int 3]:=rfl;rw[H];by_cases hz:v=0
 ·subst hz
  simp only[if_true] at i;simp -implicitDefEqProofs [cF,u,G,F,C,E,y,z,A,r,t,i,f1,g,x]
 ·simp only[if_neg hz] at i
  simp -implicitDefEqProofs [cF,u,G,F,C,E,y,z,A,r,t,i,f1,g,x,hz]
end RR
namespace KK
open PySem PySem.W
noncomputable abbrev g(a i:Nat)(n:Rg)(d m:Rc):Ro:=⟨.type "function",none,.func (fnOf n n (L2.Z0 (RR.top i)) (L2.aU (RR.top i)) (L2.cV (RR.top i)) d .none .none m none (.ref (a - 1)) .none),#[]⟩
theorem p(P:Mc)(a i:Nat)(n:Rg)(m:Rc)(h1:nsIn (K P) Ri n=some (some (.ref a)):=by kernel_rfl)(h2:(K P).lookup a=some (g a i n .none m):=by kernel_rfl)(b:codeIn (K P) (.ref (a - 1)) n=true:=by kernel_rfl):L2.A4 (K P) n (RR.top i) a:=L2.a4 h1 h2 b (by unfold keepIn;simp only[h2])
noncomputable abbrev gm(a i j:Nat)(n q:Rg)(m:Rc):Ro:=⟨.type "function",none,.func (fnOf n q (L2.Z0 (RR.mem i j)) (L2.aU (RR.mem i j)) (L2.cV (RR.mem i j)) .none .none .none m none (.ref (a - 1)) .none),#[]⟩
theorem MU(P:Mc):L2.Cls (K P) 359:=⟨by kernel_rfl,by kernel_rfl,by kernel_rfl,by kernel_rfl⟩
theorem R6(P:Mc)(a i j:Nat)(n q:Rg)(m:Rc)(d:nsIn (K P) Ri "Flat"=some (some (.ref 359)):=by kernel_rfl)(h1:findIn (K P) (.ref 359) n=some (some (.ref a)):=by kernel_rfl)(h2:isFn (K P) (.ref a)=true:=by kernel_rfl)(b:(K P).lookup a=some (gm a i j n q m):=by kernel_rfl)(c:codeIn (K P) (.ref (a - 1)) q=true:=by kernel_rfl):L2.A4m (K P) "Flat" n q (RR.mem i j) a:=⟨359,_,_,_,_,_,_,_,_,_,d,MU P,h1,h2,b,c,by unfold keepIn;simp only[b]⟩
end KK
namespace RR
open PySem L2
abbrev Zn(K:Al)(x:Rg):Prop:=Ge K Ri x=some none
abbrev Gn(K:Al)(x:Rg)(v:Rc):Prop:=Ge K Ri x=some (some v)
theorem K1{α:Type}{P:List α->Prop}(z:∀a,P [a]):∀us:List α,us.length=1->P us
 |[a],_=>z a
theorem WN{α:Type}{P:List α->Prop}(z:∀a b,P [a,b]):∀us:List α,us.length=2->P us
 |[a,b],_=>z a b
theorem SA{α:Type}{P:List α->Prop}(z:∀a b c,P [a,b,c]):∀us:List α,us.length=3->P us
 |[a,b,c],_=>z a b c
theorem Len4{α:Type}{P:List α->Prop}(z:∀a b c d,P [a,b,c,d]):∀us:List α,us.length=4->P us
 |[a,b,c,d],_=>z a b c d
theorem Len5{α:Type}{P:List α->Prop}(z:∀a b c d e,P [a,b,c,d,e]):∀us:List α,us.length=5->P us
 |[a,b,c,d,e],_=>z a b c d e
theorem Len6{α:Type}{P:List α->Prop}(z:∀a b c d e f,P [a,b,c,d,e,f]):∀us:List α,us.length=6->P us
 |[a,b,c,d,e,f],_=>z a b c d e f
theorem jN{P:Bb}{w:Rl}{K:Al}{mg:Rg->Option Rc}{base:Rn}{C f:Rf}{fd:Ds}(F:YH K "__init__" "Flat.__init__" (mem 58 0) f fd)(c:Cls K C)(b:ZC K C "laid")(a:ZC K C "numbers"):bO P w K mg base CX0 1 f fd ["self"] (spI C "laid" "numbers"):=
 kH F aJ c b a (by decide) λ_ _ _ _ _ _ d=>ini2 (pv 0) (pv 0)
theorem zLY{l:Qq}{w:Rl}{K:Al}{h:Rn}{mg:Rg->Option Rc}{fa:Rf}(X:K.In h)(G:h.Ns Ri mg)(i:mg "law"=some (.ref fa)){C_Flat f_Flat f_x0 f_x1 f_x2 f_x3 f_x4 f_x5 f_x6 f_x7 f_x8 f_x9 f_x10 f_x11 f_x12 f_x13 f_x14 f_x15 f_x16 f_x17 f_x18 f_x19 f_x20 f_x21 f_x22:Rf}{kV_x22 dc_x22 pm_x22 cd_x22 ct_x22:Rc}{t1:Rx}{a2 f_x23 f_x24 f_x25 f_x26 f_x27 f_x28 f_x29 f_x30 f_x31 f_x32 f_x51 f_x52 f_x54 f_x55 f_x53 f_x33 f_x34 f_x35 f_x36 f_x37 f_x38 f_x39 f_x41 f_x40 f_x44 f_x45 f_x46 f_x47 f_x48 f_x42 f_x43 f_x49 f_x50:Rf}{kV_x50 dc_x50 pm_x50 cd_x50 ct_x50:Rc}{t3 t4 t5 t6 t7 t8 t9 t10:Rx}{a11:Rf}{t12 t13 t14 t15 t16 t17 t18:Rx}{a19:Rf}{h20 h21 h22 h23 h24 h25 h26:Int}{t27 t28 t29 t30 t31:Rx}{a32:Rf}{t33 t34 t35 t36 t37 t38 t39:Rx}{a40:Rf}{t41 t42 t43:Rx}{a44:Rf}{t45:Rx}{a46:Rf}{t47 t48 t49:Rx}{a50:Rf}{t51 t52:Rx}{a53:Rf}{t54 t55 t56:Rx}{a57 a58:Rf}{h59 h60 h61 h62 h63 h64:Int}{t65 t66:Rx}{a67:Rf}{t68 t69:Rx}{a70:Rf}{t71 t72 t73 t74 t75:Rx}(O:Ge K Ri "Flat"=some (some (.ref C_Flat)))(MU:Cls K C_Flat)(iz:ZC K C_Flat "laid")(iy:ZC K C_Flat "numbers")(j3:Kz K C_Flat=true)(j4:Eu K (.ref C_Flat)=true)(jo:A4m K "Flat" "__init__" "Flat.__init__" (mem 58 0) f_Flat)(rj:A4 K "is_whole" (top 9) f_x0)(u:A4 K "plus" (top 10) f_x1)(x:A4 K "minus" (top 11) f_x2)(y:A4 K "times" (top 12) f_x3)(z:A4 K "least" (top 13) f_x4)(A:A4 K "most" (top 14) f_x5)(B:A4 K "less" (top 15) f_x6)(C:A4 K "over" (top 16) f_x7)(rh:A4 K "pick" (top 17) f_x8)(rf:A4 K "done" (top 19) f_x9)(my:A4 K "parts_of" (top 28) f_x10)(mx:A4 K "makes_word" (top 29) f_x11)(mw:A4 K "place_of" (top 30) f_x12)(mv:A4 K "names_of" (top 31) f_x13)(mq:A4 K "with_names" (top 32) f_x14)(mn:A4 K "may_name" (top 33) f_x15)(mm:A4 K "fits" (top 34) f_x16)(mj:A4 K "is_row" (top 35) f_x17)(mi:A4 K "is_block" (top 36) f_x18)(mh:A4 K "is_cells" (top 39) f_x19)(me:A4 K "touches" (top 40) f_x20)(md:A4 K "do_on_cell" (top 41) f_x21)(t:K.lookup a2=some ⟨.type "tuple",none,.seq #[.int 0 t1] 0,#[]⟩)(E:Ge K Ri "do_row"=some (some (.ref f_x22)))(om:K.lookup f_x22=some ⟨.type "function",none,.func (Hm "do_row" "do_row" (Z0 (top 42)) (aU (top 42)) (cV (top 42)) (.ref a2) kV_x22 dc_x22 pm_x22 none cd_x22 ct_x22),#[]⟩)(qk:Iq K cd_x22 "do_row"=true)(j:Eu K (.ref f_x22)=true)(ma:A4 K "do_rows" (top 43) f_x23)(m9:A4 K "check_run" (top 44) f_x24)(m8:A4 K "run" (top 45) f_x25)(m7:A4 K "is_if" (top 51) f_x26)(m6:A4 K "sight_behind_if" (top 52) f_x27)(F:A4 K "sight_behind" (top 53) f_x28)(ly:A4 K "is_tree" (top 54) f_x29)(H:A4 K "listed" (top 55) f_x30)(lw:A4 K "do_tree" (top 56) f_x31)(lv:A4 K "run_tree" (top 57) f_x32)(l4:A4m K "Flat" "lay" "Flat.lay" (mem 58 1) f_x51)(l0:A4m K "Flat" "both" "Flat.both" (mem 58 2) f_x52)(kz:A4m K "Flat" "lay_if" "Flat.lay_if" (mem 58 4) f_x54)(ky:A4m K "Flat" "masked" "Flat.masked" (mem 58 5) f_x55)(I:A4m K "Flat" "lay_rows" "Flat.lay_rows" (mem 58 3) f_x53)(lu:A4 K "flattened" (top 59) f_x33)(ls:A4 K "_law_cell_at" (top 61) f_x34)(lr:A4 K "_law_mixed" (top 62) f_x35)(lq:A4 K "_law_draw" (top 63) f_x36)(lp:A4 K "_law_pick" (top 64) f_x37)(ln:A4 K "_law_place" (top 65) f_x38)(ll:A4 K "_law_row" (top 66) f_x39)(lh:A4 K "_law_next" (top 68) f_x41)(li:A4 K "_law_rows" (top 67) f_x40)(lb:A4 K "_law_names" (top 71) f_x44)(la:A4 K "_law_may" (top 72) f_x45)(l9:A4 K "_law_must" (top 73) f_x46)(l8:A4 K "_law_mixed_order" (top 74) f_x47)(l7:A4 K "_law_renamed" (top 75) f_x48)(lf:A4 K "_law_block" (top 69) f_x42)(lc:A4 K "_law_cells" (top 70) f_x43)(l6:A4 K "_law_shifted" (top 76) f_x49)(qo:Ge K Ri "law"=some (some (.ref f_x50)))(oj:K.lookup f_x50=some ⟨.type "function",none,.func (Hm "law" "law" (Z0 (top 77)) (aU (top 77)) (cV (top 77)) .none kV_x50 dc_x50 pm_x50 none cd_x50 ct_x50),#[]⟩)(qj:Iq K cd_x50 "law"=true)(oq:Eu K (.ref f_x50)=true)(kj:Zn K "len")(iw:Zn K "range")(kg:Zn K "min")(ki:Zn K "max")(jj:Zn K "list")(iu:Zn K "tuple")(g8:Zn K "sorted")(da:Zn K "isinstance")(jl:Zn K "bool")(kl:Zn K "int")(kf:Zn K "str")(dk:Zn K "enumerate")(kc:Zn K "zip")(kn:Zn K "all")(km:Zn K "any")(jk:Zn K "dict")(dr:Gn K "MOST_WORD" (.int 999 t3))(o8:K.lookup a11=some ⟨.type "tuple",none,.seq #[.str "plus" t4,.str "minus" t5,.str "times" t6,.str "least" t7,.str "most" t8,.str "less" t9,.str "over" t10] 0,#[]⟩)(j7:Gn K "DEEDS" (.ref a11))(o7:K.lookup a19=some ⟨.type "dict",none,.dict #[⟨h20,.str "plus" t12,.ref f_x1⟩,⟨h21,.str "minus" t13,.ref f_x2⟩,⟨h22,.str "times" t14,.ref f_x3⟩,⟨h23,.str "least" t15,.ref f_x4⟩,⟨h24,.str "most" t16,.ref f_x5⟩,⟨h25,.str "less" t17,.ref f_x6⟩,⟨h26,.str "over" t18,.ref f_x7⟩] 7,#[]⟩)(oh:(a19==Ey)=false)(ju:Gn K "MADE" (.ref a19))(du:Gn K "MOST_SURE" (.int 64 t27))(dw:Gn K "MOST_ROWS" (.int 40 t28))(dh:Gn K "MOST_PLACE" (.int 63 t29))(ny:K.lookup a32=some ⟨.type "tuple",none,.seq #[.str "row" t30,.str "row" t31] 0,#[]⟩)(dj:Gn K "DEED_PARTS" (.ref a32))(nw:K.lookup a40=some ⟨.type "tuple",none,.seq #[.str "word" t39] 0,#[]⟩)(nv:K.lookup a44=some ⟨.type "tuple",none,.seq #[.str "row" t41,.str "row" t42,.str "row" t43] 0,#[]⟩)(nu:K.lookup a46=some ⟨.type "tuple",none,.seq #[.str "place" t45] 0,#[]⟩)(nq:K.lookup a50=some ⟨.type "tuple",none,.seq #[.str "place" t47,.str "row" t48,.str "row" t49] 0,#[]⟩)(nk:K.lookup a53=some ⟨.type "tuple",none,.seq #[.str "place" t51,.str "row" t52] 0,#[]⟩)(nj:K.lookup a57=some ⟨.type "tuple",none,.seq #[.str "place" t54,.str "row" t55,.str "row" t56] 0,#[]⟩)(ni:K.lookup a58=some ⟨.type "dict",none,.dict #[⟨h59,.str "number" t33,.ref a40⟩,⟨h60,.str "pick" t34,.ref a44⟩,⟨h61,.str "load" t35,.ref a46⟩,⟨h62,.str "take" t36,.ref a50⟩,⟨h63,.str "store" t37,.ref a53⟩,⟨h64,.str "put" t38,.ref a57⟩] 6,#[]⟩)(og:(a58==Ey)=false)(cu:Gn K "OTHER_PARTS" (.ref a58))(nh:K.lookup a67=some ⟨.type "tuple",none,.seq #[.str "load" t65,.str "take" t66] 0,#[]⟩)(g7:Gn K "READERS" (.ref a67))(ng:K.lookup a70=some ⟨.type "tuple",none,.seq #[.str "store" t68,.str "put" t69] 0,#[]⟩)(g6:Gn K "WRITERS" (.ref a70))(di:Gn K "MOST_CELLS" (.int 64 t71))(cg:Gn K "MOST_TREE_ROWS" (.int 20 t72))(dz:Gn K "MOST_DEEP" (.int 3 t73))(jt:Gn K "ZERO" (.int 0 t74))(q9:Gn K "ONE" (.int 1 t75)):∃fd:Ds,(∀(s:Af) (v:Rc),Op s fd ⟨[v],[]⟩ [("_law_script",v)])/\∀base:Rn,K.In base->base.Ns Ri mg->bO l.prog w K mg base CX0 15 fa fd ["_law_script"] (spV K [] 1 IQ):=by
 have e:=i.symm.trans (Ft X G qo);cases e;have T:Txt K mg:=⟨λ_ _ e=>Ft X G e,Dj X G kj,Dj X G iw,Dj X G kg,Dj X G ki,Dj X G jj,Dj X G iu,Dj X G g8,Dj X G da,Dj X G jl,Dj X G kl,Dj X G kf,Dj X G dk,Dj X G kc,Dj X G kn,Dj X G km,Dj X G jk,⟨_,.ref a11,Ft X G j7,rfl,λ_ _ _=>(.tup (xs:=[.str "plus",.str "minus",.str "times",.str "least",.str "most",.str "less",.str "over"]) (.inr ⟨_,_,_,o8,rfl,rfl,(by show 7<=sizeLine;decide),(.cons ⟨_,rfl⟩ (.cons ⟨_,rfl⟩ (.cons ⟨_,rfl⟩ (.cons ⟨_,rfl⟩ (.cons ⟨_,rfl⟩ (.cons ⟨_,rfl⟩ (.cons ⟨_,rfl⟩ .nil)))))))⟩) (.cons (.str _) (.cons (.str _) (.cons (.str _) (.cons (.str _) (.cons (.str _) (.cons (.str _) (.cons (.str _) .nil))))))))⟩,⟨_,.ref a32,Ft X G dj,rfl,λ_ _ _=>(.tup (xs:=[.str "row",.str "row"]) (.inr ⟨_,_,_,ny,rfl,rfl,(by show 2<=sizeLine;decide),(.cons ⟨_,rfl⟩ (.cons ⟨_,rfl⟩ .nil))⟩) (.cons (.str _) (.cons (.str _) .nil)))⟩,⟨_,.ref a19,Ft X G ju,rfl,λ_ _ _=>(.ktb (D:=[("plus",.ref f_x1),("minus",.ref f_x2),("times",.ref f_x3),("least",.ref f_x4),("most",.ref f_x5),("less",.ref f_x6),("over",.ref f_x7)]) ⟨oh,_,_,_,o7,⟨rfl,rfl,rfl⟩,rfl,(.cons rfl rfl (.cons rfl rfl (.cons rfl rfl (.cons rfl rfl (.cons rfl rfl (.cons rfl rfl (.cons rfl rfl .nil)))))))⟩ (.cons (.fn u.ns) (.cons (.fn x.ns) (.cons (.fn y.ns) (.cons (.fn z.ns) (.cons (.fn A.ns) (.cons (.fn B.ns) (.cons (.fn C.ns) .nil))))))))⟩,⟨_,.int 64,Ft X G di,⟨_,rfl⟩,λ_ _ _=>(.int _)⟩,⟨_,.int 3,Ft X G dz,⟨_,rfl⟩,λ_ _ _=>(.int _)⟩,⟨_,.int 63,Ft X G dh,⟨_,rfl⟩,λ_ _ _=>(.int _)⟩,⟨_,.int 40,Ft X G dw,⟨_,rfl⟩,λ_ _ _=>(.int _)⟩,⟨_,.int 64,Ft X G du,⟨_,rfl⟩,λ_ _ _=>(.int _)⟩,⟨_,.int 20,Ft X G cg,⟨_,rfl⟩,λ_ _ _=>(.int _)⟩,⟨_,.int 999,Ft X G dr,⟨_,rfl⟩,λ_ _ _=>(.int _)⟩,⟨_,.int 1,Ft X G q9,⟨_,rfl⟩,λ_ _ _=>(.int _)⟩,⟨_,.ref a58,Ft X G cu,rfl,λ_ _ _=>(.ktb (D:=[("number",.ref a40),("pick",.ref a44),("load",.ref a46),("take",.ref a50),("store",.ref a53),("put",.ref a57)]) ⟨og,_,_,_,ni,⟨rfl,rfl,rfl⟩,rfl,(.cons rfl rfl (.cons rfl rfl (.cons rfl rfl (.cons rfl rfl (.cons rfl rfl (.cons rfl rfl .nil))))))⟩ (.cons (.tup (xs:=[.str "word"]) (.inr ⟨_,_,_,nw,rfl,rfl,(by show 1<=sizeLine;decide),(.cons ⟨_,rfl⟩ .nil)⟩) (.cons (.str _) .nil)) (.cons (.tup (xs:=[.str "row",.str "row",.str "row"]) (.inr ⟨_,_,_,nv,rfl,rfl,(by show 3<=sizeLine;decide),(.cons ⟨_,rfl⟩ (.cons ⟨_,rfl⟩ (.cons ⟨_,rfl⟩ .nil)))⟩) (.cons (.str _) (.cons (.str _) (.cons (.str _) .nil)))) (.cons (.tup (xs:=[.str "place"]) (.inr ⟨_,_,_,nu,rfl,rfl,(by show 1<=sizeLine;decide),(.cons ⟨_,rfl⟩ .nil)⟩) (.cons (.str _) .nil)) (.cons (.tup (xs:=[.str "place",.str "row",.str "row"]) (.inr ⟨_,_,_,nq,rfl,rfl,(by show 3<=sizeLine;decide),(.cons ⟨_,rfl⟩ (.cons ⟨_,rfl⟩ (.cons ⟨_,rfl⟩ .nil)))⟩) (.cons (.str _) (.cons (.str _) (.cons (.str _) .nil)))) (.cons (.tup (xs:=[.str "place",.str "row"]) (.inr ⟨_,_,_,nk,rfl,rfl,(by show 2<=sizeLine;decide),(.cons ⟨_,rfl⟩ (.cons ⟨_,rfl⟩ .nil))⟩) (.cons (.str _) (.cons (.str _) .nil))) (.cons (.tup (xs:=[.str "place",.str "row",.str "row"]) (.inr ⟨_,_,_,nj,rfl,rfl,(by show 3<=sizeLine;decide),(.cons ⟨_,rfl⟩ (.cons ⟨_,rfl⟩ (.cons ⟨_,rfl⟩ .nil)))⟩) (.cons (.str _) (.cons (.str _) (.cons (.str _) .nil)))) .nil)))))))⟩,⟨_,.ref a67,Ft X G g7,rfl,λ_ _ _=>(.tup (xs:=[.str "load",.str "take"]) (.inr ⟨_,_,_,nh,rfl,rfl,(by show 2<=sizeLine;decide),(.cons ⟨_,rfl⟩ (.cons ⟨_,rfl⟩ .nil))⟩) (.cons (.str _) (.cons (.str _) .nil)))⟩,⟨_,.ref a70,Ft X G g6,rfl,λ_ _ _=>(.tup (xs:=[.str "store",.str "put"]) (.inr ⟨_,_,_,ng,rfl,rfl,(by show 2<=sizeLine;decide),(.cons ⟨_,rfl⟩ (.cons ⟨_,rfl⟩ .nil))⟩) (.cons (.str _) (.cons (.str _) .nil)))⟩,⟨_,.int 0,Ft X G jt,⟨_,rfl⟩,λ_ _ _=>(.int _)⟩,clsF O MU iz iy⟩
 have g:=pC (st:=top 42) om qk j;have ql:=g.binds (ps:=K2) (ds:=[]) (m:=4) t rfl λ_ _ _ _ _ _ us hl=>match us,hl with|[_,_,_,_],_=>⟨_,rfl,rfl⟩
 have jw:=g.binds (ps:=K2) (ds:=[.int 0 t1]) (m:=3) t rfl λ_ _ _ _ _ _ us hl=>match us,hl with|[_,_,_],_=>⟨_,rfl,rfl⟩
 have qr:=HH (st:=top 77) oj qj oq;refine⟨Hm "law" "law" (Z0 (top 77)) (aU (top 77)) (cV (top 77)) .none kV_x50 dc_x50 pm_x50 none cd_x50 ct_x50,λs v=>.of_eq rfl,λbase _ _=>?_⟩;have eo:NewF l.prog w K mg base "Flat" "laid" "numbers":=iW X G T.c_Flat jo (mksF O j3 j4) (λU c n1 n2=>jN U c n1 n2) (K1 λ_=>rfl);have b:cB l.prog w K mg base "is_whole" 1 Qx0 [] a9 f_x0:=Z4 X G rj (λU=>pK U T) (SA λ_ _ _=>rfl);have ka:cB l.prog w K mg base "plus" 1 Qx1 [] N7 f_x1:=Z4 X G u (λU=>lT U T) (WN λ_ _=>rfl);have k9:cB l.prog w K mg base "minus" 1 Qx2 [] RJ f_x2:=Z4 X G x (λU=>dI U T) (WN λ_ _=>rfl);have k8:cB l.prog w K mg base "times" 1 Qx3 [] RK f_x3:=Z4 X G y (λU=>iA U T) (WN λ_ _=>rfl);have k7:cB l.prog w K mg base "least" 1 Qx4 [] RH f_x4:=Z4 X G z (λU=>qP U T) (WN λ_ _=>rfl);have k6:cB l.prog w K mg base "most" 1 Qx5 [] N5 f_x5:=Z4 X G A (λU=>lP U T) (WN λ_ _=>rfl);have jz:cB l.prog w K mg base "less" 1 Qx6 [] N3 f_x6:=Z4 X G B (λU=>oA U T) (WN λ_ _=>rfl);have jy:cB l.prog w K mg base "over" 1 Qx7 [] UX f_x7:=Z4 X G C (λU=>fM U T) (WN λ_ _=>rfl);have jx:cB l.prog w K mg base "pick" 1 Qx8 [] N6 f_x8:=Z4 X G rh (λU=>lK U T) (SA λ_ _ _=>rfl);have J:cB l.prog w K mg base "done" 2 Qx9 [] WM f_x9:=Z4 X G rf (λU=>lL U T ka k9 k8 k7 k6 jz jy jx) (WN λ_ _=>rfl);have P:cB l.prog w K mg base "parts_of" 1 Qx10 [] aD f_x10:=Z4 X G my (λU=>jU U T) (K1 λ_=>rfl);have Q:cB l.prog w K mg base "makes_word" 1 Qx11 [] Y3 f_x11:=Z4 X G mx (λU=>hU U T) (K1 λ_=>rfl);have L:cB l.prog w K mg base "place_of" 1 Qx12 [] bA f_x12:=Z4 X G mw (λU=>jP U T) (K1 λ_=>rfl);have q:cB l.prog w K mg base "names_of" 2 CU [] ZH f_x13:=Z4 X G mv (λU=>Ze U T P) (K1 λ_=>rfl);have iq:cB l.prog w K mg base "with_names" 1 Qx14 [] XH f_x14:=Z4 X G mq (λU=>iV U T) (WN λ_ _=>rfl);have R:cB l.prog w K mg base "may_name" 2 Qx15 [] YO f_x15:=Z4 X G mn (λU=>fS U T b) (WN λ_ _=>rfl);have ip:cB l.prog w K mg base "fits" 3 Qx16 [] UW f_x16:=Z4 X G mm (λU=>eI U T b R) (SA λ_ _ _=>rfl);have S:cB l.prog w K mg base "is_row" 4 Qx17 [] WU f_x17:=Z4 X G mj (λU=>eX U T P ip) (WN λ_ _=>rfl);have io:cB l.prog w K mg base "is_block" 5 Qx18 [] W5 f_x18:=Z4 X G mi (λU=>dN U T b Q S) (K1 λ_=>rfl);have V:cB l.prog w K mg base "is_cells" 2 Qx19 [] YN f_x19:=Z4 X G mh (λU=>oT U T b) (WN λ_ _=>rfl);have im:cB l.prog w K mg base "touches" 1 Qx20 [] Y0 f_x20:=Z4 X G me (λU=>pW U T) (WN λ_ _=>rfl);have M:cB l.prog w K mg base "do_on_cell" 2 Qx21 [3] bM f_x21:=Z4 X G md (λU=>oU U T im) (Len4 λ_ _ _ _=>rfl);have N:cB l.prog w K mg base "do_row" 3 K2 [2] ZQ f_x22:=⟨Ft X G E,⟨_,Vv g T J L M,ql⟩,j⟩;have Z:DefD l.prog w K mg base "do_row" 3 K2 (spV K [2] 4 ZQ) f_x22 (.int 0):=⟨Ft X G E,⟨_,_,Vv g T J L M,jw,by first|exact⟨_,rfl⟩|rfl⟩,j⟩;have il:cB l.prog w K mg base "do_rows" 4 Qx23 [1] V6 f_x23:=Z4 X G ma (λU=>hV U T q N Z) (WN λ_ _=>rfl);have ik:cB l.prog w K mg base "check_run" 6 Qx24 [] XW f_x24:=Z4 X G m9 (λU=>lJ U T io V) (WN λ_ _=>rfl);have fm:cB l.prog w K mg base "run" 7 Qx25 [] NK f_x25:=Z4 X G m8 (λU=>mP U T il ik) (WN λ_ _=>rfl);have ij:cB l.prog w K mg base "is_if" 1 Qx26 [] RG f_x26:=Z4 X G m7 (λU=>Xh U T) (K1 λ_=>rfl);have qv:∀n,cB l.prog w K mg base "sight_behind" (4+2*n) Qx28 [] (bJ n) f_x28:=λn=>by
  induction n with
  |zero=>exact(Z4 X G F (λU=>HW) (SA λ_ _ _=>rfl))
  |succ n k=>
   have ii:cB l.prog w K mg base "sight_behind_if" (4+2*n+1) Qx27 [] (ZJ (bJ n)) f_x27:=(Z4 X G m6 (λU=>lB (Fz _ _) U T R k) (SA λ_ _ _=>rfl));exact(Z4 X G F (λU=>rG (Fz _ _) U T Q S ij ii) (SA λ_ _ _=>rfl))
 have k:=qv 4;have r:cB l.prog w K mg base "is_tree" 13 CV [] YZ f_x29:=Z4 X G ly (λU=>lF U T b k) (K1 λ_=>rfl);have qu:∀n,cB l.prog w K mg base "listed" (0+1*n) Qx30 [] (XG n) f_x30:=λn=>by
  induction n with
  |zero=>exact(Z4 X G H (λU=>HW) (WN λ_ _=>rfl))
  |succ n o=>
   exact(Z4 X G H (λU=>qY (Fz _ _) U T o) (WN λ_ _=>rfl))
 have o:=qu 4;have ig:cB l.prog w K mg base "do_tree" 5 Qx31 [1] V7 f_x31:=Z4 X G lw (λU=>mY U T q N o Z) (WN λ_ _=>rfl);have i9:cB l.prog w K mg base "run_tree" 14 Qx32 [] W8 f_x32:=Z4 X G lv (λU=>oM U T V r ig) (WN λ_ _=>rfl);have d:TD l.prog w K mg base "Flat" "lay" 1 G4 [0] 2 aX f_x51:=(JX l4 (λU=>fJ U T) (WN λ_ _=>rfl));have Y:TD l.prog w K mg base "Flat" "both" 2 Qx52 [0] 3 ZI f_x52:=(JX l0 (λU=>qU U T d) (SA λ_ _ _=>rfl));have gu:TD l.prog w K mg base "Flat" "masked" 3 Qx55 [0] 3 YY f_x55:=(JX ky (λU=>pM U T d Y) (SA λ_ _ _=>rfl));have qt:∀n,TD l.prog w K mg base "Flat" "lay_rows" (3+2*n) Qx53 [0] 3 (bI n) f_x53:=λn=>by
  induction n with
  |zero=>exact(JX I (λU=>HW) (SA λ_ _ _=>rfl))
  |succ n p=>
   have gv:TD l.prog w K mg base "Flat" "lay_if" (3+2*n+1) Qx54 [0] 3 (X7 (bI n)) f_x54:=(JX kz (λU=>fX (Fz _ _) U T d Y p) (SA λ_ _ _=>rfl));exact(JX I (λU=>Wn (Fz _ _) U T q iq d gv gu) (SA λ_ _ _=>rfl))
 have p:=qt 4;have i8:cB l.prog w K mg base "flattened" 14 Qx33 [] XX f_x33:=Z4 X G lu (λU=>dU U T r d p eo) (K1 λ_=>rfl);have i7:cB l.prog w K mg base "_law_cell_at" 1 Qx34 [] ZX f_x34:=Z4 X G ls (λU=>eG U T) (WN λ_ _=>rfl);have i6:cB l.prog w K mg base "_law_mixed" 2 Qx35 [] XZ f_x35:=Z4 X G lr (λU=>jM U T i7) (SA λ_ _ _=>rfl);have f:cB l.prog w K mg base "_law_draw" 3 G3 [1] bX f_x36:=Z4 X G lq (λU=>iJ U T i6) (SA λ_ _ _=>rfl);have a:cB l.prog w K mg base "_law_pick" 4 NB [1] bU f_x37:=Z4 X G lp (λU=>eC U T f) (SA λ_ _ _=>rfl);have cq:cB l.prog w K mg base "_law_place" 5 Qx38 [1,2] Z9 f_x38:=Z4 X G ln (λU=>oW U T f a) (Len5 λ_ _ _ _ _=>rfl);have i5:cB l.prog w K mg base "_law_row" 6 Qx39 [1,3] V8 f_x39:=Z4 X G ll (λU=>jY U T f a cq) (Len5 λ_ _ _ _ _=>rfl);have i3:cB l.prog w K mg base "_law_next" 5 Qx41 [1,4] Y2 f_x41:=Z4 X G lh (λU=>Wq U T a) (Len6 λ_ _ _ _ _ _=>rfl);have i4:cB l.prog w K mg base "_law_rows" 7 Qx40 [1] W7 f_x40:=Z4 X G li (λU=>oX U T a i5 i3) (Len4 λ_ _ _ _=>rfl);have gy:cB l.prog w K mg base "_law_names" 1 Qx44 [] Z8 f_x44:=Z4 X G lb (λU=>Xb U T) (K1 λ_=>rfl);have cw:cB l.prog w K mg base "_law_may" 1 Qx45 [] YG f_x45:=Z4 X G la (λU=>iN U T) (WN λ_ _=>rfl);have gx:cB l.prog w K mg base "_law_must" 2 Qx46 [] W6 f_x46:=Z4 X G l9 (λU=>gH U T gy cw) (K1 λ_=>rfl);have gw:cB l.prog w K mg base "_law_mixed_order" 5 Qx47 [1] Z5 f_x47:=Z4 X G l8 (λU=>Zo U T a gx) (SA λ_ _ _=>rfl);have W:cB l.prog w K mg base "_law_renamed" 1 Qx48 [] cD f_x48:=Z4 X G l7 (λU=>nV U T) (WN λ_ _=>rfl);have fj:cB l.prog w K mg base "_law_block" 8 Qx42 [1] Y9 f_x42:=Z4 X G lf (λU=>Zx U T f a i4 gw W) (SA λ_ _ _=>rfl);have h9:cB l.prog w K mg base "_law_cells" 5 Qx43 [1] XY f_x43:=Z4 X G lc (λU=>eZ U T f a) (SA λ_ _ _=>rfl);have fg:cB l.prog w K mg base "_law_shifted" 2 Qx49 [] aB f_x49:=Z4 X G l6 (λU=>Zj U T W) (WN λ_ _=>rfl);exact qW qr T fm r i9 i8 a fj h9 fg
theorem zC1(K:Al)(H:Hp)(a:Rf)(ns:List Int)(hl:ns.length<=63)(h:WT K H a (ns.map V.int)):spV K [] 1 IQ [.ref a] H (λv _=>v=.bl true) λ_ _ _=>False:=by
 have c:b6 K (Zp (λ_=>False) [] [.ref a]) H (ns.map V.int) (ns.map c6.int):=by
  clear h hl;induction ns with
  |nil=>exact .nil
  |cons n ns k=>exact .cons (.int n) k
 have hz:∀b,¬Zp (λ_=>False) [] [V.ref a] b:=λb h=>by
  rcases h with h|⟨i,h,_⟩
  ·exact h
  ·cases h
 refine⟨λ_=>False,[.lst (ns.map .int)],.bl true,[],rfl,⟨rfl,(λi h=>nomatch h),λi d hi e=>?_,(λi d h=>nomatch h),(λi j b h=>nomatch h),λa h=>h.elim⟩,kE ns hl,λv H' _ _ r=>by cases r;rfl⟩;cases i with
 |zero=>
  cases e;refine⟨_,rfl,?_⟩;rcases h with((h|⟨x,C,dx,f,g,p,q,us,ws,h1,h2,z⟩)|⟨o,h⟩)|h
  ·exact .lst h (hz a) c
  ·exact .fzm (.inr ⟨x,C,dx,f,g,p,q,us,ws,h1,h2,hz x,z.imp (λz=>⟨z.1,HO.lst.inj z.2⟩) λz=>⟨z.1,HO.lst.inj z.2⟩⟩) c
  ·exact .fzl (.inl ⟨o,h⟩) c
  ·exact .fzl (.inr h) c
 |succ i=>cases i<;>cases e
end RR
open PySem PySem.W PyProof.Rows
set_option maxRecDepth 100000 in
set_option maxHeartbeats 0 in
theorem PySem.Challenge.cw_lanepacks_k54_whole_ifs_decided_holds : PySem.Challenge.rw_lanepacks_k54_whole_ifs_decided.Holds := by
 w_on;refine holds_law KK.said λsaid=>?_
 refine holds_open (q:=KK.view) (loose:=KK.lo) (Xt:=KK.X) (XP:=XL KK.view []) (Yf:=KK.H.obs) (Ya:=KK.H.val) (YP:=KK.H.says) (N:=6896) KK.hl (Hook.of _) (Hook.keeps _) (λs e=>xl_of s (Dq.mp e).1) XL.keeps (by rfl) (by rfl) (by rfl) (λs e=>recFacts_of (Dq.mp e).2) (by rfl) (by first|assumption|decide+kernel) (by decide+kernel) ⟨rfl,rfl,rfl,rfl,rfl,by decide+kernel⟩ ?hw ?hc
 case hw=>w_witness2
 refine L2.zBD (l:=Jm) (n:=63) (k:=15) (x:= "_law_script") (CX:=L2.CX0) (sp:=λK=>L2.spV K [] 1 L2.IQ) rfl (by decide) rfl ⟨rfl,by decide,by decide⟩ (λw h Y=>W.kIn_of (K:=KK.K) (as:=KK.A) (e:=KK.kA) Y) ?F (λK H a ns hl _ hS=>RR.zC1 K H a ns hl hS) λ_ _ _ _ z=>z
 case F=>
  intro w mg fa h KX G hmg;exact RR.zLY (K:=KK.K w.params) (C_Flat:=359) (f_Flat:=323) (f_x0:=83) (f_x1:=90) (f_x2:=97) (f_x3:=104) (f_x4:=111) (f_x5:=118) (f_x6:=125) (f_x7:=132) (f_x8:=139) (f_x9:=147) (f_x10:=164) (f_x11:=171) (f_x12:=178) (f_x13:=183) (f_x14:=190) (f_x15:=197) (f_x16:=204) (f_x17:=209) (f_x18:=216) (f_x19:=221) (f_x20:=228) (f_x21:=235) (f_x22:=243) (kV_x22:=.none) (dc_x22:=.none) (pm_x22:=.str "lanepacks.running" 493) (cd_x22:=.ref 242) (ct_x22:=.none) (t1:=521) (a2:=236) (f_x23:=248) (f_x24:=255) (f_x25:=262) (f_x26:=269) (f_x27:=276) (f_x28:=283) (f_x29:=290) (f_x30:=297) (f_x31:=302) (f_x32:=309) (f_x51:=330) (f_x52:=337) (f_x54:=349) (f_x55:=356) (f_x53:=342) (f_x33:=368) (f_x34:=375) (f_x35:=382) (f_x36:=389) (f_x37:=396) (f_x38:=403) (f_x39:=408) (f_x41:=422) (f_x40:=415) (f_x44:=439) (f_x45:=444) (f_x46:=449) (f_x47:=454) (f_x48:=459) (f_x42:=427) (f_x43:=432) (f_x49:=464) (f_x50:=471) (kV_x50:=.none) (dc_x50:=.none) (pm_x50:=.str "law_lanepacks_k54_whole_ifs_decided" 711) (cd_x50:=.ref 470) (ct_x50:=.none) (t3:=273) (t4:=275) (t5:=276) (t6:=277) (t7:=278) (t8:=279) (t9:=280) (t10:=281) (a11:=76) (t12:=357) (t13:=358) (t14:=359) (t15:=360) (t16:=361) (t17:=362) (t18:=363) (a19:=140) (h20:=Bx w.params "plus") (h21:=Bx w.params "minus") (h22:=Bx w.params "times") (h23:=Bx w.params "least") (h24:=Bx w.params "most") (h25:=Bx w.params "less") (h26:=Bx w.params "over") (t27:=383) (t28:=385) (t29:=387) (t30:=389) (t31:=390) (a32:=148) (t33:=392) (t34:=394) (t35:=398) (t36:=400) (t37:=404) (t38:=407) (t39:=393) (a40:=150) (t41:=395) (t42:=396) (t43:=397) (a44:=151) (t45:=399) (a46:=152) (t47:=401) (t48:=402) (t49:=403) (a50:=153) (t51:=405) (t52:=406) (a53:=154) (t54:=408) (t55:=409) (t56:=410) (a57:=155) (a58:=149) (h59:=Bx w.params "number") (h60:=Bx w.params "pick") (h61:=Bx w.params "load") (h62:=Bx w.params "take") (h63:=Bx w.params "store") (h64:=Bx w.params "put") (t65:=418) (t66:=419) (a67:=156) (t68:=421) (t69:=422) (a70:=157) (t71:=495) (t72:=562) (t73:=564) (t74:=566) (t75:=568) KX G hmg
   (by kernel_rfl)
   (KK.MU _)
   (by unfold L2.ZC;kernel_rfl)
   (by unfold L2.ZC;kernel_rfl)
   (by kernel_rfl)
   (by kernel_rfl)
   (KK.R6 _ 323 58 0 "__init__" "Flat.__init__" (.str "lanepacks.trees" 560))
   (KK.p _ 83 9 "is_whole" (.str "lanepacks.words" 271))
   (KK.p _ 90 10 "plus" (.str "lanepacks.words" 271))
   (KK.p _ 97 11 "minus" (.str "lanepacks.words" 271))
   (KK.p _ 104 12 "times" (.str "lanepacks.words" 271))
   (KK.p _ 111 13 "least" (.str "lanepacks.words" 271))
   (KK.p _ 118 14 "most" (.str "lanepacks.words" 271))
   (KK.p _ 125 15 "less" (.str "lanepacks.words" 271))
   (KK.p _ 132 16 "over" (.str "lanepacks.words" 271))
   (KK.p _ 139 17 "pick" (.str "lanepacks.words" 271))
   (KK.p _ 147 19 "done" (.str "lanepacks.words" 271))
   (KK.p _ 164 28 "parts_of" (.str "lanepacks.blocks" 381))
   (KK.p _ 171 29 "makes_word" (.str "lanepacks.blocks" 381))
   (KK.p _ 178 30 "place_of" (.str "lanepacks.blocks" 381))
   (KK.p _ 183 31 "names_of" (.str "lanepacks.blocks" 381))
   (KK.p _ 190 32 "with_names" (.str "lanepacks.blocks" 381))
   (KK.p _ 197 33 "may_name" (.str "lanepacks.blocks" 381))
   (KK.p _ 204 34 "fits" (.str "lanepacks.blocks" 381))
   (KK.p _ 209 35 "is_row" (.str "lanepacks.blocks" 381))
   (KK.p _ 216 36 "is_block" (.str "lanepacks.blocks" 381))
   (KK.p _ 221 39 "is_cells" (.str "lanepacks.running" 493))
   (KK.p _ 228 40 "touches" (.str "lanepacks.running" 493))
   (KK.p _ 235 41 "do_on_cell" (.str "lanepacks.running" 493))
   (by kernel_rfl)
   (by kernel_rfl)
   (by kernel_rfl)
   (by kernel_rfl)
   (by kernel_rfl)
   (KK.p _ 248 43 "do_rows" (.str "lanepacks.running" 493))
   (KK.p _ 255 44 "check_run" (.str "lanepacks.running" 493))
   (KK.p _ 262 45 "run" (.str "lanepacks.running" 493))
   (KK.p _ 269 51 "is_if" (.str "lanepacks.trees" 560))
   (KK.p _ 276 52 "sight_behind_if" (.str "lanepacks.trees" 560))
   (KK.p _ 283 53 "sight_behind" (.str "lanepacks.trees" 560))
   (KK.p _ 290 54 "is_tree" (.str "lanepacks.trees" 560))
   (KK.p _ 297 55 "listed" (.str "lanepacks.trees" 560))
   (KK.p _ 302 56 "do_tree" (.str "lanepacks.trees" 560))
   (KK.p _ 309 57 "run_tree" (.str "lanepacks.trees" 560))
   (KK.R6 _ 330 58 1 "lay" "Flat.lay" (.str "lanepacks.trees" 560))
   (KK.R6 _ 337 58 2 "both" "Flat.both" (.str "lanepacks.trees" 560))
   (KK.R6 _ 349 58 4 "lay_if" "Flat.lay_if" (.str "lanepacks.trees" 560))
   (KK.R6 _ 356 58 5 "masked" "Flat.masked" (.str "lanepacks.trees" 560))
   (KK.R6 _ 342 58 3 "lay_rows" "Flat.lay_rows" (.str "lanepacks.trees" 560))
   (KK.p _ 368 59 "flattened" (.str "lanepacks.trees" 560))
   (KK.p _ 375 61 "_law_cell_at" KK.m)
   (KK.p _ 382 62 "_law_mixed" KK.m)
   (KK.p _ 389 63 "_law_draw" KK.m)
   (KK.p _ 396 64 "_law_pick" KK.m)
   (KK.p _ 403 65 "_law_place" KK.m)
   (KK.p _ 408 66 "_law_row" KK.m)
   (KK.p _ 422 68 "_law_next" KK.m)
   (KK.p _ 415 67 "_law_rows" KK.m)
   (KK.p _ 439 71 "_law_names" KK.m)
   (KK.p _ 444 72 "_law_may" KK.m)
   (KK.p _ 449 73 "_law_must" KK.m)
   (KK.p _ 454 74 "_law_mixed_order" KK.m)
   (KK.p _ 459 75 "_law_renamed" KK.m)
   (KK.p _ 427 69 "_law_block" KK.m)
   (KK.p _ 432 70 "_law_cells" KK.m)
   (KK.p _ 464 76 "_law_shifted" KK.m)
   (by kernel_rfl)
   (by kernel_rfl)
   (by kernel_rfl)
   (by kernel_rfl)
   (by kernel_rfl)
   (by kernel_rfl)
   (by kernel_rfl)
   (by kernel_rfl)
   (by kernel_rfl)
   (by kernel_rfl)
   (by kernel_rfl)
   (by kernel_rfl)
   (by kernel_rfl)
   (by kernel_rfl)
   (by kernel_rfl)
   (by kernel_rfl)
   (by kernel_rfl)
   (by kernel_rfl)
   (by kernel_rfl)
   (by kernel_rfl)
   (by kernel_rfl)
   (by kernel_rfl)
   (by kernel_rfl)
   (by kernel_rfl)
   (by decide)
   (by kernel_rfl)
   (by kernel_rfl)
   (by kernel_rfl)
   (by kernel_rfl)
   (by kernel_rfl)
   (by kernel_rfl)
   (by kernel_rfl)
   (by kernel_rfl)
   (by kernel_rfl)
   (by kernel_rfl)
   (by kernel_rfl)
   (by kernel_rfl)
   (by kernel_rfl)
   (by decide)
   (by kernel_rfl)
   (by kernel_rfl)
   (by kernel_rfl)
   (by kernel_rfl)
   (by kernel_rfl)
   (by kernel_rfl)
   (by kernel_rfl)
   (by kernel_rfl)
   (by kernel_rfl)
   (by kernel_rfl)
end
