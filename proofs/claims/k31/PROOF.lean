import PyProof.Rows.All
import KE.KFromBytes
import KE.KTab
import KE.KIsAll
import KE.KDictOf
import KE.KEqDeep
import KE.KItem
import KE.KUnpackStar
import Wide.FinOn
import Wide.Line
import OpenK.KOwn
import Open.TreeImp
import OpenK.KMore
import PyProof.InstStoreFacts
import PySem.Challenge.RW_lanepacks_k31_whole_long_trees
set_option Elab.async false
set_option linter.all false
set_option maxRecDepth 100000
set_option maxHeartbeats 4000000
set_option bootstrap.genMatcherCode false
set_option compiler.extract_closed false
open Option renaming some->b3,none->b5
open Bool renaming true->ba,false->bb
open PySem renaming Value->Rz,Addr->Sa,Str->Sb,mainGlobals->Sc,wpAny->Sd,model->Se,Expr->Sf,World->Sg,assignEach->Sh,Heap->Si,Stmt->Sj,Obj->Sk,cellsFrom->Sm,NameKind->So,Scope->Sq,Sem->Sr,Model->Ss,Tok->Su
open Option renaming bind_eq_some_iff->Aa,map_eq_some_iff->An,bind_some->Ay,isSome_some->Ni,getD_none->Pn
open PySem renaming wpAny_bind->Ac,Shared->Ad,starEach->Ap,wpAny_pure->Aq,Program->Az,bootBuiltins->Bm,Around->Cb,wpAny_holding->Cc,attributeBase->Cd,sizeLine_eq->Ce,FuncData->Ch,wpAny_mono->Co,mem_of_lookup->Cr,wpAny_callSpecial?_slot->Cs,backTo->Ct,compareOp->Cu,wpAny_Call_Name_kw->Dq,wpAny_newObj_type->Dv,wpAny_field->Eb,keywordEach->Eh,wpAny_call_entry->Eo,Spec->Es,wpAny_truthy_bool->Et,call_meets->Eu,swapsWithSole->Ff,swappedStores->Fg,binaryOp->Fh,wpAny_setField_rec->Fi,Keyword->Fo,wpAny_seqItems->Fs,swapsWith->Fu,wpAny_passesOwn->Fv,sysModules->Gf,Builtin->Gk,wpAny_pyIter_list->Gr,backToKw->Gu,holding->Gv,sliceBounds->He,wpAny_execs_nil->Hl,wpAny_standAt->Hm,wpAny_pyIter_tuple->Hn,behindInMarks->Ho,tupleKind_room_in1->Ht,wpAny_sequenceKey->Ia,list_append->Ib,codeAny_mono->Ih,codeAny->Ij,wpAny_updateSeq_pair->Il,importedModules->Ir,letOwnedTupleGo->Iy,wpAny_newFunctionEnv_cells->Jo,Within->Jt,recursionLimit->Jy,wpAny_binaryOp_repeat_ref->Kb,wpAny_assign_Name->Ke,unpackItems->Km,getItem->Kn,wpAny_onRaise->Kr,noFill_tuple_add->Kz,wpAny_pyNext_list_item->Lc,DictEntry->Lj,standAt->Lk,wpAny_pyNext_list_end->Ll,codeAny_call_function->Ln,concat_meets->Lo,seqIndex_neg->Lp,call_meetsIn->Lq,wpAny_rule->Mc,typeIs_int->Md,ZipApart->Me,codeAny_call_builtin->Mg,Params->Mj,wpAny_loadPart->Ml,PyData->Mm,newFunctionEnv->Mo,setItem->Mp,seqIndex_of->Mr,callerA->Ms,wpAny_letGo->Mu,getMethod->Nd,seq_tuple_add->Ng,evalPart_none->Nh,wpAny_attempt->Nl,frameOf->No,ExceptHandler->Nq,BindsTo->Ob,wpAny_call->Od,valueAt->Oe,wpAny_Call_method->Of,wpAny_pyIter_enum->Om,slot_list_setitem->Ot,wpAny_typeOf->Pd,typeOf->Pe,entryPlaceOf->Ph,seqSlot_of->Pr,bindName->Pw,PassesOwn->Qc,lastMarks->Qd,pushCells->Qj,setField->Qq,Thread->Qr,wpAny_Name->Qs,call->Qt,newObjAsIs->Qu,isInstance->Qv,Builtin->Rh
open PySem.Heap renaming get?_push_of_some->Ae,lt_size->As,get?_push_size->Aw,get?_update_other->Bv,size_push->Di,SameBut->Er,get?_update_self->Go,ExtBut->Jd,FlyingW->Jx,get?_some_iff->Nm,get?_push_ne->Ol
open Bool renaming and_eq_true->Af,and_eq_true_iff->Dm,false_ne_true->Ea,false_eq_true->Ec,or_eq_true->Je,beq_eq_decide_eq->Ly,or_false->Rc,false_or->Rf,true_and->Rl,or_true->Rr
open PySem.W renaming Frag->Ag,nsIn->Ds,keepIn->Em,kia_one->Ex,emptyDict->Gm,findIn->Gs,kitOne->Hb,fnOf->Hh,instObj->Ig,callWith_K->Jv,codeIn->Jw,SharedT->Kk,cellsFrom_some->Ky,makesIn->Lm,kitx_list->Mq,hideAll_get->Nb,plainGet_of->Nc,plainGet->Oa,Frag->Pa,looks_findIn->Pj,methodObj->Qa,hasDictIn->Qe,absHeap->Qw,openEnds->Qx,lookIn->Ra,subIn->Ri,clsIn->Rj,takerIn->Rn,OpenLaw->Ro
open List renaming getElem?_append_left->Ah,getElem?_eq_some_iff->Ai,replicate->Aj,size_toArray->Ak,mem_singleton->Al,getElem?_append_right->Am,length_append->Ao,mem_cons->Ar,mem_cons_of_mem->At,map_append->Au,append_assoc->Av,length_map->Ba,map_cons->Be,append_nil->Bi,mem_cons_self->Bj,mem_append_left->Bo,length_replicate->Bp,not_mem_nil->Br,mem_append_right->Bt,lookup_cons->Bw,getElem?_set_ne->By,map_nil->Cf,length_cons->Cg,mem_append->Ci,nodup_cons->Cj,mem_of_getElem?->Cm,length_singleton->Cn,range->Cq,nil_append->Cv,getElem?_set_self->Cw,take_of_length_le->Cz,getElem?_take_of_lt->Dd,length_set->Dg,replicate_succ->Dh,length_take->Dj,getElem?_replicate->Dk,cons_append->Dt,lookup_cons_self->Dy,getElem?_eq_none->Dz,getElem?_map->Ef,mem_map->Ek,eq_of_mem_replicate->En,all_eq_true->Fe,mem_range->Fj,lookup->Fk,drop_left->Fq,getElem?_eq_getElem->Fy,flatten_cons->Fz,take_append_of_le_length->Gd,find?_cons->Gp,drop_eq_getElem_cons->Gy,take_left->Gz,countP_cons->Hc,any_cons->Hs,dropLast_concat_getLast->Io,filterMap_cons->Ix,of_mem_zip->Iz,length_nil->Ja,forIn_cons->Jb,mem_filterMap->Ju,mem_or_eq_of_mem_set->Ka,length_eq_zero_iff->Kq,all_cons->Ks,drop_length->Lb,range_succ_eq_map->Lg,mem_iff_getElem?->Lu,take_left'->Lw,set_append_right->Lz,map_set->Ma,singleton_append->Mb,getElem?_mapIdx->Mf,forall_mem_cons->Mi,forIn_nil->Mn,toList_toArray->My,set_cons_succ->Nw,set_cons_zero->Nx,nodup_append->Op,getElem_inj->Pk,length_drop->Pm,zipIdx_cons->Po,getElem_mem->Pu,mem_filter->Qb,zipIdx_nil->Qg,drop_left'->Qk,drop_zero->Qo,mapM_cons->Qp,set_comm->Qz,all_map->Rp
open Nat renaming le_refl->Ax,lt_of_lt_of_le->Bb,ne_of_lt->Bl,lt_irrefl->Db,zero_le->Ee,le_trans->Ei,le_add_right->Gc,sub_self->Gq,le_succ->Hd,ne_of_gt->Hg,le_of_succ_le->Ie,lt_succ_self->Kx,zero_add->Li,le_of_lt->Oz,add_comm->Pg,succ_le_succ->Pq,not_lt_zero->Qh,min_le_left->Qi
open PySem.AutoSeq1 renaming wpAny_loadPart'->Bg,idx_int->Ik,sub_tuple_tuple->Ki,sub_tuple_list->Kt,sub_list_tuple->Ku,sub_list_list->Lh
open PySem.Value renaming ref->Bk,bool->Ge,type->Ip,str->Kc,int->Mz,float->Pz,isStrOf->Qy,isInt->Rs,bytes->Rt
open PySem.Str renaming ofString->Bq,ofString_eq_toList->Hy
open PySem.NameKind renaming free->Bu,cell->Ck
open Option.some renaming inj->Bx,injEq->Oj
open PySem.PyData renaming keyHash->Bz,depthAll->Ez,canLay0->Gg,canLayAll0->Ic,depth->Ii,eqv->Iq,int->Oi,strOk->Rq
open PySem.Builtin.SmallTypes renaming nextOf->Ca,ownedTupleIsFree->Du,ownedTupleHandOut->Ha
open PySem.F renaming slot_list_append->De,type_list_append->Df,slot_dict_get->Dx,plainAttrs_list->Ep,entry_dict_get->Fa,slot_tuple_iterator_next->Fc,args_list_append_2->Gw,entry_list_append->Hf,args_tuple_add_2->Hi,slot_list_extend->Hj,type_list_extend->Hk,entry_tuple_add->Hq,slot_list_append->Hr,args_dict_get_2->Hu,slot_tuple_add->Hx,args_tuple_iterator_next_1->Im,entry_tuple_iterator_next->Jf,slot_zip_next->Jg,slot_int_rmul->Jh,slot_dict_getitem->Jz,args_dict_get_3->Ko,plainAttrs_dict->Kp,slot_list_count->Kv,type_list_count->Kw,type_dict_get->Lr,args_list_count_2->Mx,entry_list_count->Nt,args_tuple_mul_2->Nv,args_zip_next_1->Oo,slot_list_count->Ov,args_int_rmul_2->Ow,entry_tuple_mul->Ox,entry_zip_next->Pp,entry_int_rmul->Ps,slot_tuple_mul->Pt,fills_int_mul->Ql
open Ne renaming symm->Dl
open PySem.Builtin.List renaming listTooLong->Dw,listSameRef->Kj
open Prod renaming fst->Ed,snd->Fb
open PyProof.Rows renaming slot_tuple_getitem->Eg,callWith_type1->Ew,assignInOrder_cons->Gi,assignInOrder_nil->Kf,AllBare->Kl,subscriptTail_builtinR->Le,IntsAre->Og,tail_any->Rb
open PySem.SeqAt renaming shaped->Ej,list_countAt->Nu
open PySem.PassesOwn renaming never->El
open ForInStep renaming yield->Ey
open False renaming elim->Fd
open PySem.Builtin.Slice renaming slicePlaces->Fm,sliceAdjust->Gx,sliceApplied->Jp,slicePartIndex->Px,sliceFields->Qn
open PyProof.Rows.KTD renaming datumAt->Fp
open PySem.Calls renaming evalArgs_plain->Ft,callWith_builtin->Gh,spliced_cons->Gj,spliced_nil->Hz,Name_function_global->Jn
open PySem.Builtin.Tuple renaming tupleExact->Fw,tupleItemsOf->Jq,tupleTooMany->Jr,tupleIsExact->Qm
open PySem.Obj renaming mapSeq->Fx,data_mapFields->Nk,mapFields->Rg
open Array renaming length_toList->Ga,size_extract->Np,size_append->Oq,toList->Rm
open PySem.Builtin.Range renaming rangeSize->Gb
open Int renaming eq_ofNat_of_zero_le->Hv,emod_lt_of_pos->Hw,emod_nonneg->Ji,toNat_natCast->Kh,ediv_nonneg->Lv
open PySem.W.Fast renaming tw10156331382660048174->Iu,tw11892475500146522536->Iv,tw14364793385576792824->Iw,tw1435165496053646825->Jj,tw4187177175401517315->Jl,te4187177175401517315->Jm
open PySem.Challenge renaming pw_lanepacks_k31_whole_long_trees->Jk,rw_lanepacks_k31_whole_long_trees->Js
open PyProof.Rows.IsTup renaming new->Kg
open PySem.IsL renaming update->La
open PyProof renaming noPylong_small->Ld
open Classical renaming choose_spec->Ls
open List.cons renaming injEq->Lx
open PySem.SeqAt.EqAt renaming bool_bool->Mh
open PySem.Heap.SameBut renaming update->Mt
open PySem.Builtin.Dict renaming missed->Mv
open PySem.EntryCells renaming newEntry->Mw
open PySem.Paired renaming length->Na,snoc->Rv
open Or renaming inl->Nj,inr->Pf
open Sum renaming inl->Ny,inr->Nz
open List.Pairwise renaming nil->Oh
open Char renaming toNat->Oy
open PySem.Around renaming under->Pb
open PySem.Code renaming isFrame->Pc
open PySem.W.Looks renaming ld->Py
open PySem.Shared renaming heap->Qf
open PySem.Heap.UpToSlots renaming of_keeps->Rk
open PySem.IsRange renaming new->Ru
open PySem.Heap.IsSliceOf renaming new->Rx
open PySem.W.WShape renaming has->Ry
noncomputable section
namespace KK
open PySem PySem.W
noncomputable def EV:List Sk->Nat->BT->Option BT
 |[],_,t=>b3 t
 |o::l,n,t=>match((t.ins n o).get n).isSome with
  |true=>EV l (n+1) (t.ins n o)
  |false=>b5
theorem JC{life:Life}:∀{l:List Sk}{n:Nat}{t t':BT},EV l n t=b3 t'->Qw t' (n+l.length) life=⟨(Qw t n life).objs++l.toArray,life⟩
 |[],n,t,t',h=>by cases h;simp[Qw]
 | o :: l,n,t,t',h => by
  unfold EV at h;split at h
  ·rename_i g
   have a:=JC (life:=life) h;rw[show n+(o::l).length=n+1+l.length by simp;lia,a,absHeap_ins g];simp[Heap.push]
  ·cases h
def toT(s:Ad):Option Kk:=(EV s.heap.objs.toList 0 .nil).map λt=>⟨t,s.heap.objs.size,s.heap.life,s.gens,s.drawn,s.toks,s.os⟩
def CH{s:Ad}{u:Kk}(h:toT s=b3 u):u.abs=s:=by
 unfold toT at h;cases e:EV s.heap.objs.toList 0 .nil with
 |none=>rw[e]at h;cases h
 |some t=>
  rw[e]at h;cases h;have:=JC (life:=s.heap.life) e
  simp only[Li,Ga]at this;obtain⟨⟨a,life⟩,gens,drawn,toks,os⟩:=s;show(⟨Qw t a.size life,gens,drawn,toks,os⟩:Ad)=_;rw[this];simp[Qw,BT.list]
abbrev StT:=Kk->Qr->Option (Kk×Qr)
noncomputable def topG(st:StT)(ok:Qr->Bool):Nat->Kk->Qr->Option Kk
 |0,_,_=>b5
 | n + 1,s,t => match through t with
  |true=>b3 s
  | false => match ok t with
   |false=>b5
   |true=>match st s t with
    |some (s',t')=>topG st ok n s' t'
    |none=>b5
theorem CI{tb:String->Option Gk}{p:Az}{w:Sg}{a:Nat}{b:Option Rz}:∀{n:Nat}{s s':Kk}{t:Qr},topG (stepT (denote tb) p w) (stepOk a b) n s t=b3 s'->topRun tb p w a b n s.abs t=b3 s'.abs
 |0,_,_,_,h=>by cases h
 | n + 1,s,s',t,h => by
  unfold topG at h;unfold topRun;cases f:through t with
  |true=>rw[f]at h;cases h;rfl
  |false=>
   rw[f]at h;cases hk:stepOk a b t with
   |false=>rw[hk]at h;cases h
   |true=>
    rw[hk]at h;cases c:stepT (denote tb) p w s t with
    |none=>rw[c]at h;cases h
    |some r=>obtain⟨e,d⟩:=r;rw[c]at h;rw[stepT_spec c];exact CI h
noncomputable def impG(st:StT):Nat->Kk->Qr->Option Kk
 |0,_,_=>b5
 | n + 1,s,t => match t.atExitBegin with
  |some []=>b3 s
  |some (_::_)=>b5
  |none=>match st s t with
   |some (s',t')=>impG st n s' t'
   |none=>b5
theorem BE{tb:String->Option Gk}{p:Az}{w:Sg}:∀{n:Nat}{s s':Kk}{t:Qr},impG (stepT (denote tb) p w) n s t=b3 s'->importEnds tb p w n s.abs t=b3 s'.abs
 |0,_,_,_,h=>by cases h
 | n + 1,s,s',t,h => by
  unfold impG at h;unfold importEnds;cases d:t.atExitBegin with
  |some x=>
   rw[d]at h;cases x with
   |nil=>cases h;rfl
   |cons=>cases h
  |none=>
   rw[d]at h;cases a:stepT (denote tb) p w s t with
   |none=>rw[a]at h;cases h
   |some r=>obtain⟨c,b⟩:=r;rw[a]at h;dsimp only;rw[stepT_spec a];exact BE h
noncomputable def chkU(p:Az)(s₀ s:Ad):Bool:=staticsOk (Ir p.main.body) s₀.heap s.heap&&namesBound p s.heap&&gensDone s&&laidKept s₀.heap s.heap
noncomputable def PB(p:Az)(w:Sg)(N:Nat):Option (Ad×Ad):=
 (toT (Jj (opening p)).1).bind λu=>(impG (Iu (Iv Iw) (opening p) w) N u (Jj (opening p)).2).bind λb=>(Fast.tw14289696077712309145 p b.abs).bind λs₀=>
 match s₀.heap.isNs Sc&&s₀.gens.size==0 with
 |true=>(toT s₀).bind λv=>(topG (Iu (Iv Iw) p w) (Fast.tw6613529449190102663 s₀.heap.objs.size (s₀.heap.nsMap Sc "__annotations__")) N v (topStub p)).bind λa=>b3 (s₀,a.abs)
 |false=>b5
def lr{p:Az}{w:Sg}{N:Nat}{q:Ad×Ad}(h:PB p w N=b3 q)(hc:chkU p q.1 q.2=ba):Qx treeTable p w N=b3 q.2:=by
 unfold PB at h;rw[<-Fast.te1435165496053646825,<-Fast.te10156331382660048174,<-Fast.te11892475500146522536,<-Fast.te14364793385576792824,<-Fast.te14289696077712309145,<-Fast.te6613529449190102663]at h;unfold Qx fencedOpening;obtain⟨u,i,h⟩:=Aa.mp h;obtain⟨k,g,h⟩:=Aa.mp h;obtain⟨s₀,f,h⟩:=Aa.mp h;have c:=BE g;rw[CH i]at c;rw[c,Ay,f,Ay];unfold topFrom;cases b:(s₀.heap.isNs Sc&&s₀.gens.size==0)with
 |false=>rw[b]at h;cases h
 |true=>
  rw[b]at h;obtain⟨v,e,h⟩:=Aa.mp h;obtain⟨j,d,h⟩:=Aa.mp h;cases h;have a:=CI d;rw[CH e]at a;dsimp only;rw[a,Ay];unfold chkU at hc;rw[hc]
def mapQ{α β:Type}{p:Az}{w:Sg}{N:Nat}{f:Ad->α}{g:Ad->β}{v:α}{u:β}(h1:(PB p w N).map (λq=>f q.2)=b3 v)(h2:(PB p w N).map (λq=>(chkU p q.1 q.2,g q.2))=b3 (ba,u)):(Qx treeTable p w N).map (λs=>(f s,g s))=b3 (v,u):=by
 cases e:PB p w N with
 |none=>rw[e]at h1;cases h1
 |some q=>
  rw[e]at h1 h2;obtain⟨b,a⟩:=Prod.mk.inj (Bx h2);rw[lr e b];exact congrArg b3 (Prod.ext (Bx h1) a)
end KK
namespace RR
open PySem
def top(i:Nat):Sj:=PySem.Challenge.pw_lanepacks_k31_whole_long_trees.main.body.getD i (.Pass ⟨0,0,0,0⟩)
def mem(i j:Nat):Sj:=match top i with
 |.ClassDef _ _ _ b _ _ _ _ _ _ _=>b.getD j (.Pass ⟨0,0,0,0⟩)
 |s=>s
end RR
namespace KK
open PySem PySem.W PySem.Calls PyProof.Rows
def dA(s:Sj):Arguments:=match s with
 |.FunctionDef _ a _ _ _ _ _ _ _ _=>a
 |_=>⟨[],[],b5,[],[],b5,[]⟩
def dB(s:Sj):List Sj:=match s with
 |.FunctionDef _ _ b _ _ _ _ _ _ _=>b
 |_=>[]
def dS(s:Sj):Sq:=match s with
 |.FunctionDef _ _ _ _ _ _ c _ _ _=>c
 |_=>{kind:=.function,names:=[],isGenerator:=bb,isCoroutine:=bb}
abbrev s(x:Sb)(t:Nat):Rz:=.str x t
abbrev e(P:Mj)(x:Sb)(t:Nat)(v:Rz):Lj:=⟨PyData.keyHash P x,s x t,v⟩
abbrev f(a i:Nat)(n:Sb)(d m:Rz):Nat×Sk:=(a,⟨.type "function",b5,.func (fnOf n n (dA (RR.top i)) (dB (RR.top i)) (dS (RR.top i)) d .none .none m b5 (.ref (a-1)) .none),#[]⟩)
abbrev fh(a i j:Nat)(n q:Sb)(m:Rz):Nat×Sk:=(a,⟨.type "function",b5,.func (fnOf n q (dA (RR.mem i j)) (dB (RR.mem i j)) (dS (RR.mem i j)) .none .none .none m b5 (.ref (a-1)) .none),#[]⟩)
abbrev fk(a i:Nat)(n:Sb)(d k m:Rz):Nat×Sk:=(a,⟨.type "function",b5,.func (fnOf n n (dA (RR.top i)) (dB (RR.top i)) (dS (RR.top i)) d k .none m b5 (.ref (a-1)) .none),#[]⟩)
abbrev co(a:Nat)(n:Sb)(t:Nat)(l k:Int)(u:Nat)(x y z v:Rz):Nat×Sk:=(a,⟨.type "code",b5,.fields #[s n t,s n (t+1),s "/claim/cut.py" (t+2),.int l 0,.int k 0,.int 0 0,.int 0 0,.int 3 0,x,.bool ba,.int 181 0,y,.none,z,v,.ref (a-1),.int u 0,.int l 0,s "/claim/cut.py" (u+1)],#[]⟩)
abbrev c(a:Nat)(n:Sb)(t:Nat)(l k:Int)(u:Nat):Nat×Sk:=co a n t l k u (.ref (a-5)) (.ref (a-4)) (.ref (a-3)) (.ref (a-2))
abbrev b(a:Nat)(n:Sb)(t:Nat)(l k:Int)(u:Nat):Nat×Sk:=co a n t l k u (.ref (a-3)) (.ref (a-2)) .none .none
abbrev m:Rz:=s "law_lanepacks_k31_whole_long_trees" 872
abbrev kc(a q:Nat)(n:Sb)(b t u:Nat):Nat×Sk:=(a,⟨.type "type",b5,.cls {name:=n,bases:=[.ref q],mro:=[.ref a,.ref q,.type "ValueError",.type "Exception",.type "BaseException",.type "object"],ns:=a-1,qualname:=n},#[b3 (.ref b),b5,b3 (s n t),b3 (s n u),b3 (.builtin "ValueError.__new__"),b3 (.bool ba)]⟩)
abbrev kn(P:Mj)(a m w l r:Nat):Nat×Sk:=(a,⟨.type "dict",b5,.dict #[e P "__module__" m (s "lanepacks.errors" w),e P "__firstlineno__" (m+4) (.int l (m+3)),e P "__static_attributes__" (m+5) (.ref r),e P "__doc__" (m+6) .none] 2,#[]⟩)
noncomputable def K(P:Mj):Frag:=[(3,⟨.type "dict",b5,.dict #[e P "__name__" 165 (s "law_lanepacks_k31_whole_long_trees" 872),e P "__doc__" 166 (.none),e P "__package__" 167 (.none),e P "__loader__" 168 (.builtin "__main__.__loader__#opaque"),e P "__spec__" 169 (.none),e P "__annotations__" 170 (.ref 6),e P "__builtins__" 171 (.ref 4),e P "__file__" 173 (s "/claim/cut.py" 172),e P "__cached__" 174 (.none),e P "PackError" 206 (.ref 24),e P "NoBlock" 222 (.ref 37),e P "NoCells" 238 (.ref 49),e P "NoRow" 263 (.ref 68),e P "NoLanes" 279 (.ref 80),e P "NoPlan" 295 (.ref 92),e P "NoProgram" 311 (.ref 104),e P "NoTree" 327 (.ref 116),e P "NoLoop" 343 (.ref 128),e P "NoText" 359 (.ref 140),e P "NoName" 384 (.ref 159),e P "TooMany" 400 (.ref 171),e P "TooLong" 416 (.ref 183),e P "NotValid" 441 (.ref 202),e P "Nothing" 457 (.ref 214),e P "MOST_WORD" 461 (.int 999 460),e P "DEEDS" 469 (.ref 217),e P "is_whole" 478 (.ref 224),e P "plus" 486 (.ref 231),e P "minus" 494 (.ref 238),e P "times" 502 (.ref 245),e P "least" 510 (.ref 252),e P "most" 518 (.ref 259),e P "less" 526 (.ref 266),e P "over" 534 (.ref 273),e P "pick" 543 (.ref 280),e P "MADE" 558 (.ref 281),e P "done" 567 (.ref 288),e P "MOST_SURE" 571 (.int 64 570),e P "MOST_ROWS" 573 (.int 40 572),e P "MOST_PLACE" 575 (.int 63 574),e P "DEED_PARTS" 578 (.ref 289),e P "OTHER_PARTS" 604 (.ref 290),e P "READERS" 607 (.ref 297),e P "WRITERS" 610 (.ref 298),e P "parts_of" 617 (.ref 305),e P "makes_word" 624 (.ref 312),e P "place_of" 631 (.ref 319),e P "names_of" 637 (.ref 324),e P "with_names" 645 (.ref 331),e P "may_name" 653 (.ref 338),e P "fits" 662 (.ref 345),e P "is_row" 668 (.ref 350),e P "is_block" 679 (.ref 357),e P "MOST_CELLS" 683 (.int 64 682),e P "is_cells" 689 (.ref 362),e P "touches" 697 (.ref 369),e P "do_on_cell" 707 (.ref 376),e P "do_row" 721 (.ref 384),e P "do_rows" 727 (.ref 389),e P "check_run" 735 (.ref 396),e P "run" 746 (.ref 403),e P "MOST_TREE_ROWS" 750 (.int 20 749),e P "MOST_DEEP" 752 (.int 3 751),e P "ZERO" 754 (.int 0 753),e P "ONE" 756 (.int 1 755),e P "is_if" 763 (.ref 410),e P "sight_behind_if" 775 (.ref 417),e P "sight_behind" 786 (.ref 424),e P "is_tree" 793 (.ref 431),e P "Flat" 865 (.ref 481),e P "flattened" 871 (.ref 490),e P "_law_cell_at" 883 (.ref 497),e P "_law_mixed" 893 (.ref 504),e P "_law_draw" 902 (.ref 511),e P "_law_pick" 911 (.ref 518),e P "_law_place" 922 (.ref 525),e P "_law_row" 928 (.ref 530),e P "_law_cells" 934 (.ref 535),e P "_law_deed" 945 (.ref 542),e P "_law_step" 957 (.ref 549),e P "_law_names" 964 (.ref 556),e P "_law_which" 972 (.ref 563),e P "_law_tree_rows" 992 (.ref 570),e P "_law_tree" 1003 (.ref 577),e P "_law_many" 1009 (.ref 582),e P "_law_tree_play" 1015 (.ref 587),e P "_law_ask" 1023 (.ref 594),e P "law" 1029 (.ref 599)] 88,#[]⟩),(23,⟨.type "dict",b5,.dict #[e P "__module__" 196 (s "lanepacks.errors" 187),e P "__firstlineno__" 200 (.int 2 199),e P "__static_attributes__" 201 (.ref 22),e P "__weakref__" 203 (.ref 25),e P "__doc__" 204 (.none)] 3,#[]⟩),(24,⟨.type "type",b5,.cls {name:= "PackError",bases:=[.type "ValueError"],mro:=[.ref 24,.type "ValueError",.type "Exception",.type "BaseException",.type "object"],ns:=23,qualname:= "PackError",subclasses:=[.ref 37,.ref 49,.ref 68,.ref 80,.ref 92,.ref 104,.ref 116,.ref 128,.ref 140,.ref 159,.ref 171,.ref 183,.ref 202,.ref 214]},#[b3 (.ref 15),b5,b3 (s "PackError" 189),b3 (s "PackError" 197),b3 (.builtin "ValueError.__new__"),b3 (.bool ba)]⟩),kn P 36 214 187 4 35,kc 37 24 "NoBlock" 28 207 215,kn P 48 230 187 6 47,kc 49 24 "NoCells" 40 223 231,(67,⟨.type "dict",b5,.dict #[e P "__module__" 246 (s "lanepacks.errors" 187),e P "__firstlineno__" 250 (.int 8 249),e P "__init__" 258 (.ref 65),e P "__static_attributes__" 260 (.ref 66),e P "__doc__" 261 (.none)] 2,#[]⟩),kc 68 24 "NoRow" 52 239 247,kn P 79 271 187 13 78,kc 80 24 "NoLanes" 71 264 272,kn P 91 287 187 15 90,kc 92 24 "NoPlan" 83 280 288,kn P 103 303 187 17 102,kc 104 24 "NoProgram" 95 296 304,kn P 115 319 187 19 114,kc 116 24 "NoTree" 107 312 320,kn P 127 335 187 21 126,kc 128 24 "NoLoop" 119 328 336,kn P 139 351 187 23 138,kc 140 24 "NoText" 131 344 352,(158,⟨.type "dict",b5,.dict #[e P "__module__" 367 (s "lanepacks.errors" 187),e P "__firstlineno__" 371 (.int 25 370),e P "__init__" 379 (.ref 156),e P "__static_attributes__" 381 (.ref 157),e P "__doc__" 382 (.none)] 2,#[]⟩),kc 159 24 "NoName" 143 360 368,kn P 170 392 187 30 169,kc 171 24 "TooMany" 162 385 393,kn P 182 408 187 32 181,kc 183 24 "TooLong" 174 401 409,(201,⟨.type "dict",b5,.dict #[e P "__module__" 424 (s "lanepacks.errors" 187),e P "__firstlineno__" 428 (.int 34 427),e P "__init__" 436 (.ref 199),e P "__static_attributes__" 438 (.ref 200),e P "__doc__" 439 (.none)] 2,#[]⟩),kc 202 24 "NotValid" 186 417 425,kn P 213 449 187 39 212,kc 214 24 "Nothing" 205 442 450,(217,⟨.type "tuple",b5,.seq #[s "plus" 462,s "minus" 463,s "times" 464,s "least" 465,s "most" 466,s "less" 467,s "over" 468] 0,#[]⟩),f 224 19 "is_whole" (.none) (s "lanepacks.words" 458),c 223 "is_whole" 470 44 3 476,f 231 20 "plus" (.none) (s "lanepacks.words" 458),c 230 "plus" 479 48 2 484,f 238 21 "minus" (.none) (s "lanepacks.words" 458),c 237 "minus" 487 50 2 492,f 245 22 "times" (.none) (s "lanepacks.words" 458),c 244 "times" 495 52 2 500,f 252 23 "least" (.none) (s "lanepacks.words" 458),c 251 "least" 503 54 2 508,f 259 24 "most" (.none) (s "lanepacks.words" 458),c 258 "most" 511 56 2 516,f 266 25 "less" (.none) (s "lanepacks.words" 458),c 265 "less" 519 58 2 524,f 273 26 "over" (.none) (s "lanepacks.words" 458),c 272 "over" 527 60 2 532,f 280 27 "pick" (.none) (s "lanepacks.words" 458),c 279 "pick" 535 62 3 541,(281,⟨.type "dict",b5,.dict #[e P "plus" 544 (.ref 231),e P "minus" 545 (.ref 238),e P "times" 546 (.ref 245),e P "least" 547 (.ref 252),e P "most" 548 (.ref 259),e P "less" 549 (.ref 266),e P "over" 550 (.ref 273)] 7,#[]⟩),f 288 29 "done" (.none) (s "lanepacks.words" 458),c 287 "done" 559 65 2 565,(289,⟨.type "tuple",b5,.seq #[s "row" 576,s "row" 577] 0,#[]⟩),(290,⟨.type "dict",b5,.dict #[e P "number" 579 (.ref 291),e P "pick" 581 (.ref 292),e P "load" 585 (.ref 293),e P "take" 587 (.ref 294),e P "store" 591 (.ref 295),e P "put" 594 (.ref 296)] 6,#[]⟩),(291,⟨.type "tuple",b5,.seq #[s "word" 580] 0,#[]⟩),(292,⟨.type "tuple",b5,.seq #[s "row" 582,s "row" 583,s "row" 584] 0,#[]⟩),(293,⟨.type "tuple",b5,.seq #[s "place" 586] 0,#[]⟩),(294,⟨.type "tuple",b5,.seq #[s "place" 588,s "row" 589,s "row" 590] 0,#[]⟩),(295,⟨.type "tuple",b5,.seq #[s "place" 592,s "row" 593] 0,#[]⟩),(296,⟨.type "tuple",b5,.seq #[s "place" 595,s "row" 596,s "row" 597] 0,#[]⟩),(297,⟨.type "tuple",b5,.seq #[s "load" 605,s "take" 606] 0,#[]⟩),(298,⟨.type "tuple",b5,.seq #[s "store" 608,s "put" 609] 0,#[]⟩),f 305 38 "parts_of" (.none) (s "lanepacks.blocks" 568),c 304 "parts_of" 611 78 1 615,f 312 39 "makes_word" (.none) (s "lanepacks.blocks" 568),c 311 "makes_word" 618 82 1 622,f 319 40 "place_of" (.none) (s "lanepacks.blocks" 568),c 318 "place_of" 625 84 1 629,f 324 41 "names_of" (.none) (s "lanepacks.blocks" 568),b 323 "names_of" 632 86 1 635,f 331 42 "with_names" (.none) (s "lanepacks.blocks" 568),c 330 "with_names" 638 89 2 643,f 338 43 "may_name" (.none) (s "lanepacks.blocks" 568),c 337 "may_name" 646 91 2 651,f 345 44 "fits" (.none) (s "lanepacks.blocks" 568),c 344 "fits" 654 93 3 660,f 350 45 "is_row" (.none) (s "lanepacks.blocks" 568),b 349 "is_row" 663 99 2 666,f 357 46 "is_block" (.none) (s "lanepacks.blocks" 568),c 356 "is_block" 669 107 1 677,f 362 49 "is_cells" (.none) (s "lanepacks.running" 680),b 361 "is_cells" 684 123 2 687,f 369 50 "touches" (.none) (s "lanepacks.running" 680),c 368 "touches" 690 127 2 695,f 376 51 "do_on_cell" (.none) (s "lanepacks.running" 680),c 375 "do_on_cell" 698 133 4 705,(377,⟨.type "tuple",b5,.seq #[.int 0 708] 0,#[]⟩),f 384 52 "do_row" (.ref 377) (s "lanepacks.running" 680),c 383 "do_row" 709 142 4 719,f 389 53 "do_rows" (.none) (s "lanepacks.running" 680),b 388 "do_rows" 722 151 2 725,f 396 54 "check_run" (.none) (s "lanepacks.running" 680),c 395 "check_run" 728 159 2 733,f 403 55 "run" (.none) (s "lanepacks.running" 680),c 402 "run" 736 164 2 744,f 410 61 "is_if" (.none) (s "lanepacks.trees" 747),c 409 "is_if" 757 174 1 761,f 417 62 "sight_behind_if" (.none) (s "lanepacks.trees" 747),c 416 "sight_behind_if" 764 178 3 773,f 424 63 "sight_behind" (.none) (s "lanepacks.trees" 747),c 423 "sight_behind" 776 188 3 784,f 431 64 "is_tree" (.none) (s "lanepacks.trees" 747),c 430 "is_tree" 787 202 1 791,fh 445 65 0 "__init__" "Flat.__init__" (s "lanepacks.trees" 747),(444,⟨.type "code",b5,.fields #[s "__init__" 806,s "Flat.__init__" 807,s "/claim/cut.py" 808,.int 208 0,.int 1 0,.int 0 0,.int 0 0,.int 3 0,.ref 439,.bool ba,.int 181 0,.ref 440,.none,.ref 441,.ref 442,.ref 443,.int 810 0,.int 208 0,s "/claim/cut.py" 811],#[]⟩),fh 452 65 1 "lay" "Flat.lay" (s "lanepacks.trees" 747),(451,⟨.type "code",b5,.fields #[s "lay" 813,s "Flat.lay" 814,s "/claim/cut.py" 815,.int 212 0,.int 2 0,.int 0 0,.int 0 0,.int 3 0,.ref 446,.bool ba,.int 181 0,.ref 447,.none,.ref 448,.ref 449,.ref 450,.int 818 0,.int 212 0,s "/claim/cut.py" 819],#[]⟩),fh 459 65 2 "both" "Flat.both" (s "lanepacks.trees" 747),(458,⟨.type "code",b5,.fields #[s "both" 821,s "Flat.both" 822,s "/claim/cut.py" 823,.int 216 0,.int 3 0,.int 0 0,.int 0 0,.int 3 0,.ref 453,.bool ba,.int 181 0,.ref 454,.none,.ref 455,.ref 456,.ref 457,.int 827 0,.int 216 0,s "/claim/cut.py" 828],#[]⟩),fh 464 65 3 "lay_rows" "Flat.lay_rows" (s "lanepacks.trees" 747),(463,⟨.type "code",b5,.fields #[s "lay_rows" 830,s "Flat.lay_rows" 831,s "/claim/cut.py" 832,.int 219 0,.int 3 0,.int 0 0,.int 0 0,.int 3 0,.ref 460,.bool ba,.int 181 0,.ref 461,.none,.none,.none,.ref 462,.int 833 0,.int 219 0,s "/claim/cut.py" 834],#[]⟩),fh 471 65 4 "lay_if" "Flat.lay_if" (s "lanepacks.trees" 747),(470,⟨.type "code",b5,.fields #[s "lay_if" 836,s "Flat.lay_if" 837,s "/claim/cut.py" 838,.int 227 0,.int 3 0,.int 0 0,.int 0 0,.int 3 0,.ref 465,.bool ba,.int 181 0,.ref 466,.none,.ref 467,.ref 468,.ref 469,.int 843 0,.int 227 0,s "/claim/cut.py" 844],#[]⟩),fh 478 65 5 "masked" "Flat.masked" (s "lanepacks.trees" 747),(477,⟨.type "code",b5,.fields #[s "masked" 846,s "Flat.masked" 847,s "/claim/cut.py" 848,.int 233 0,.int 3 0,.int 0 0,.int 0 0,.int 3 0,.ref 472,.bool ba,.int 181 0,.ref 473,.none,.ref 474,.ref 475,.ref 476,.int 853 0,.int 233 0,s "/claim/cut.py" 854],#[]⟩),(480,⟨.type "dict",b5,.dict #[e P "__module__" 801 (s "lanepacks.trees" 747),e P "__firstlineno__" 805 (.int 206 804),e P "__init__" 812 (.ref 445),e P "lay" 820 (.ref 452),e P "both" 829 (.ref 459),e P "lay_rows" 835 (.ref 464),e P "lay_if" 845 (.ref 471),e P "masked" 855 (.ref 478),e P "__static_attributes__" 858 (.ref 479),e P "__dict__" 860 (.ref 482),e P "__weakref__" 862 (.ref 483),e P "__doc__" 863 (.none)] 4,#[]⟩),(481,⟨.type "type",b5,.cls {name:= "Flat",bases:=[.type "object"],mro:=[.ref 481,.type "object"],ns:=480,qualname:= "Flat"},#[b5,b5,b3 (s "Flat" 794),b3 (s "Flat" 802),b3 (.builtin "object.__new__"),b3 (.bool ba)]⟩),f 490 66 "flattened" (.none) (s "lanepacks.trees" 747),b 489 "flattened" 866 246 1 869,f 497 68 "_law_cell_at" (.none) m,c 496 "_law_cell_at" 874 259 2 881,f 504 69 "_law_mixed" (.none) m,c 503 "_law_mixed" 884 268 3 891,f 511 70 "_law_draw" (.none) m,c 510 "_law_draw" 894 271 3 900,f 518 71 "_law_pick" (.none) m,c 517 "_law_pick" 903 274 3 909,f 525 72 "_law_place" (.none) m,c 524 "_law_place" 912 276 5 920,f 530 73 "_law_row" (.none) m,b 529 "_law_row" 923 279 5 926,f 535 74 "_law_cells" (.none) m,b 534 "_law_cells" 929 297 3 932,f 542 75 "_law_deed" (.none) m,c 541 "_law_deed" 935 301 2 943,f 549 76 "_law_step" (.none) m,c 548 "_law_step" 946 313 4 955,f 556 77 "_law_names" (.none) m,c 555 "_law_names" 958 328 1 962,f 563 78 "_law_which" (.none) m,c 562 "_law_which" 965 332 1 970,f 570 79 "_law_tree_rows" (.none) m,c 569 "_law_tree_rows" 973 340 6 990,f 577 80 "_law_tree" (.none) m,c 576 "_law_tree" 993 360 3 1001,f 582 81 "_law_many" (.none) m,b 581 "_law_many" 1004 364 1 1007,f 587 82 "_law_tree_play" (.none) m,b 586 "_law_tree_play" 1010 366 4 1013,f 594 83 "_law_ask" (.none) m,c 593 "_law_ask" 1016 385 1 1021,f 599 84 "law" (.none) m,b 598 "law" 1024 390 1 1027]
noncomputable def A:List Nat:=[3,23,24,36,37,48,49,67,68,79,80,91,92,103,104,115,116,127,128,139,140,158,159,170,171,182,183,201,202,213,214,217,224,223,231,230,238,237,245,244,252,251,259,258,266,265,273,272,280,279,281,288,287,289,290,291,292,293,294,295,296,297,298,305,304,312,311,319,318,324,323,331,330,338,337,345,344,350,349,357,356,362,361,369,368,376,375,377,384,383,389,388,396,395,403,402,410,409,417,416,424,423,431,430,445,444,452,451,459,458,464,463,471,470,478,477,480,481,490,489,497,496,504,503,511,510,518,517,525,524,530,529,535,534,542,541,549,548,556,555,563,562,570,569,577,576,582,581,587,586,594,593,599,598]
noncomputable def view:Az:={Jk with main:={PySem.Challenge.pw_lanepacks_k31_whole_long_trees.main with body:=[1,2,3,4,5,6,7,8,9,10,11,12,13,14,15,17,18,19,20,21,22,23,24,25,26,27,28,29,31,32,33,34,35,36,37,38,39,40,41,42,43,44,45,46,48,49,50,51,53,54,55,57,58,59,60,61,62,63,64,65,66,68,69,70,71,72,73,74,75,76,77,78,79,80,81,82,83,84].map RR.top}}
abbrev lo:List Sb:=["MADE","OTHER_PARTS","do_row"]
def kA(P:Mj):A=(K P).map (·.1):=by kernel_rfl
noncomputable def X(s:Ad):Bool:=xlAt view [] s&&recOk (RowW.records (OpenRow.toRowW PySem.Challenge.rw_lanepacks_k31_whole_long_trees.row)) s
noncomputable abbrev H:Hook:=kHook K A kA
abbrev pr:Az:=PySem.Challenge.rw_lanepacks_k31_whole_long_trees.row.prog
set_option maxRecDepth 100000 in
set_option maxHeartbeats 0 in
theorem rAf(w:Sg):(PB pr (w.withFollow "special-get-raises" bb) 11180).map (λq=>Jl view lo (Ir pr.main.body) X ba q.2)=b3 (openGood view lo):=by kernel_rfl
set_option maxRecDepth 100000 in
set_option maxHeartbeats 0 in
theorem rBf(w:Sg):(PB pr (w.withFollow "special-get-raises" bb) 11180).map (λq=>(chkU pr q.1 q.2,H.obs q.2))=b3 ((ba,H.val (w.withFollow "special-get-raises" bb))):=by kernel_rfl
set_option maxRecDepth 100000 in
set_option maxHeartbeats 0 in
theorem rAt(w:Sg):(PB pr (w.withFollow "special-get-raises" ba) 11180).map (λq=>Jl view lo (Ir pr.main.body) X ba q.2)=b3 (openGood view lo):=by kernel_rfl
set_option maxRecDepth 100000 in
set_option maxHeartbeats 0 in
theorem rBt(w:Sg):(PB pr (w.withFollow "special-get-raises" ba) 11180).map (λq=>(chkU pr q.1 q.2,H.obs q.2))=b3 ((ba,H.val (w.withFollow "special-get-raises" ba))):=by kernel_rfl
def hl:LeftO pr view lo X H.obs H.val 11180:=λw=>byRow2 "special-get-raises" (P:=λw=>(Qx treeTable pr w 11180).map (λs=>(openSeen view lo (Ir pr.main.body) X ba s,H.obs s))=b3 (openGood view lo,H.val w)) (λw=>mapQ (by rw[Jm];exact rAf w) (rBf w)) (λw=>mapQ (by rw[Jm];exact rAt w) (rBt w)) w
set_option maxRecDepth 100000 in
set_option maxHeartbeats 0 in
theorem said:PySem.Challenge.rw_lanepacks_k31_whole_long_trees.wellSaid=ba:=by rw[Fast.te9446332074065402090];kernel_rfl
abbrev m0:Rz:=.str "lanepacks.blocks" 568
abbrev m1:Rz:=.str "lanepacks.running" 680
abbrev m2:Rz:=.str "lanepacks.trees" 747
abbrev m3:Rz:=.str "lanepacks.words" 458
abbrev m4:Rz:=.str "law_lanepacks_k31_whole_long_trees" 872
end KK
namespace L2
open PySem PySem.Spec PyProof.Rows
abbrev aQ:=Sum Int Sb
noncomputable def JU:aQ->Rz->Bool
 |.inl k,v=>Rs k v
 |.inr x,v=>Qy x v
def keyH(w:Sg):aQ->Int
 |.inl k=>hashInt k
 |.inr x=>hashStr w x
theorem ZR:∀{k:aQ}{v:Rz},JU k v=ba->(∃i t,k=Ny i/\v=Mz i t)∨(∃x t,k=Nz x/\v=Kc x t)
 |.inl i,v,h=>by obtain⟨t,e⟩:=Value.isInt_shape (k:=i) (v:=v) h;exact .inl ⟨i,t,rfl,e⟩
 |.inr x,v,h=>by obtain⟨t,e⟩:=Value.isStrOf_shape (x:=x) (v:=v) h;exact .inr ⟨x,t,rfl,e⟩
def j7(i:Int)(t:Su):JU (.inl i) (.int i t)=ba:=by simp[JU,Rs]
def Xx(x:Sb)(t:Su):JU (.inr x) (.str x t)=ba:=by simp[JU,Qy]
def iO(a b:Int):decide ((Ny a:aQ)=Ny b)=(a==b):=by
 by_cases e:a=b
 ·subst e;simp
 ·have h : ¬ (Ny a : aQ) = Ny b := λq => e (Sum.inl.inj q)
  rw[decide_eq_false h];exact(beq_eq_false_iff_ne.mpr e).symm
def jx(a b:Sb):decide ((Nz a:aQ)=Nz b)=decide (a=b):=by
 by_cases e:a=b
 ·subst e;simp
 ·have h : ¬ (Nz a : aQ) = Nz b := λq => e (Sum.inr.inj q)
  rw[decide_eq_false h,decide_eq_false e]
def nv(a:Int)(b:Sb):decide ((Ny a:aQ)=Nz b)=bb:=decide_eq_false (λq=>nomatch q)
def gO(a:Sb)(b:Int):decide ((Nz a:aQ)=Ny b)=bb:=decide_eq_false (λq=>nomatch q)
def Z0(prog:Az)(w:Sg):PySem.KeyKind prog w aQ where
 is:=JU
 hash:=keyH w
 inj:=λv a b l f=>by
  rcases ZR l with⟨i,t,rfl,rfl⟩|⟨x,t,rfl,rfl⟩
  ·rcases ZR f with⟨j,u,rfl,e⟩|⟨y,u,rfl,e⟩
   ·injection e with c _;rw[c]
   ·exact nomatch e
  ·rcases ZR f with⟨j,u,rfl,e⟩|⟨y,u,rfl,e⟩
   ·exact nomatch e
   ·injection e with c _;rw[c]
 byValue:=λk v h=>by
  rcases ZR h with⟨i,t,rfl,rfl⟩|⟨x,t,rfl,rfl⟩<;>rfl
 pyHash:=λd h=>by
  rcases ZR d with⟨i,t,rfl,rfl⟩|⟨x,t,rfl,rfl⟩
  ·exact wpAny_pyHash_int h
  ·exact wpAny_pyHash_str h
 eqBool:=λg d h=>by
  rcases ZR g with⟨i,t,rfl,rfl⟩|⟨x,t,rfl,rfl⟩
  ·rcases ZR d with⟨j,u,rfl,rfl⟩|⟨y,u,rfl,rfl⟩
   ·rw[iO]at h;exact wpAny_eqBool_int h
   ·rw[nv]at h;exact SeqAt.EqAt.int_str i t y u _ _ _ _ h
  ·rcases ZR d with⟨j,u,rfl,rfl⟩|⟨y,u,rfl,rfl⟩
   ·rw[gO]at h;exact SeqAt.EqAt.str_int x t j u _ _ _ _ h
   ·rw[jx]at h;exact wpAny_eqBool_str h
 «strs» :=λk x t v h=>by
  rcases ZR h with⟨i,u,rfl,e⟩|⟨y,u,rfl,e⟩
  ·exact nomatch e
  ·injection e with c _
   subst c;cases v<;>rfl
def FP(prog:Az)(w:Sg)(i:Int)(t:Su):(Z0 prog w).is (.inl i) (.int i t)=ba:=j7 i t
def FQ(prog:Az)(w:Sg)(x:Sb)(t:Su):(Z0 prog w).is (.inr x) (.str x t)=ba:=Xx x t
inductive V where
 |non|bl (b:Bool)|int (i:Int)|str (x:Sb)|byt (b:Array UInt8)|flt (b:UInt64)|ref (a:Sa)|ty (n:String)
 deriving DecidableEq
def bA:V->Rz->Prop
 |.non,u=>u=Value.none
 |.bl b,u=>u=Ge b
 |.int i,u=>∃t,u=Mz i t
 |.str x,u=>∃t,u=Kc x t
 |.byt b,u=>∃t,u=Rt b t
 |.flt b,u=>∃t,u=Pz b t
 |.ref a,u=>u=Bk a
 |.ty n,u=>u=Ip n
abbrev bI:List V->List Rz->Prop:=Paired bA
def bI.length{xs:List V}{us:List Rz}(r:bI xs us):xs.length=us.length:=Na r
theorem bI.get:∀{xs:List V}{us:List Rz}{i:Nat}{x:V},bI xs us->xs[i]?=b3 x->∃u,us[i]?=b3 u/\bA x u
 |_,_,_,_,.nil,e=>by simp at e
 |_,_,0,_,.cons r _,e=>by simp at e;subst e;exact⟨_,rfl,r⟩
 |_,_,i+1,x,.cons _ t,e=>by obtain⟨u,h1,h2⟩:=bI.get (i:=i) (x:=x) t (by simpa using e);exact⟨u,by simpa using h1,h2⟩
theorem bI.set{x:V}{u:Rz}(r:bA x u):∀{xs:List V}{us:List Rz}(i:Nat),bI xs us->bI (xs.set i x) (us.set i u)
 |_,_,_,.nil=>.nil
 |_,_,0,.cons _ t=>.cons r t
 |_,_,i+1,.cons q t=>.cons q (bI.set r i t)
theorem bI.append:∀{xs ys:List V}{us ws:List Rz},bI xs us->bI ys ws->bI (xs++ys) (us++ws)
 |_,_,_,_,.nil,s=>s
 |_,_,_,_,.cons r t,s=>.cons r (bI.append t s)
theorem bI.take:∀{xs:List V}{us:List Rz}(n:Nat),bI xs us->bI (xs.take n) (us.take n)
 |_,_,0,_=>.nil
 |_,_,_+1,.nil=>.nil
 |_,_,n+1,.cons r t=>.cons r (bI.take n t)
theorem bI.drop:∀{xs:List V}{us:List Rz}(n:Nat),bI xs us->bI (xs.drop n) (us.drop n)
 |_,_,0,r=>r
 |_,_,_+1,.nil=>.nil
 |_,_,n+1,.cons _ t=>bI.drop n t
noncomputable def UQ:Option V->Option Rz->Prop
 |some v,b3 u=>bA v u
 |none,b5=>True
 |_,_=>False
def KV{κ:Type}:List (κ×V)->List (κ×Rz)->Prop:=Paired λ(p:κ×V) (q:κ×Rz)=>p.1=q.1/\bA p.2 q.2
noncomputable def kV:aQ->V
 |.inl i=>.int i
 |.inr x=>.str x
inductive HO where
 |lst (xs:List V)
 |tup (xs:List V)
 |dK (kvs:List (aQ×V))|dT (kvs:List (List aQ×V))
 |set (S:Int->Bool) (n:Nat)
 |ins (C dx:Sa) (fs:List (Sb×V))
 |own (x:Sa)
 |xd (fs:List (Sb×V))
 |met (f x:Sa)
 |flt (C dx:Sa) (f g:Sb) (p q:Sa) (xs ys:List V)
 |nst (xs:List V) (sub:Sa->Option (List V))
 |rng (lo hi:Int)
 |frz (o:Sk) (u:HO)
 |tbl (ps:Array Rz)
 |ext (φ:Si->Prop)
abbrev Hp:=Sa->Option HO
def upd(H:Hp)(a:Sa)(o:HO):Hp:=λb=>if b=a then b3 o else H b
def cG{H:Hp}{a:Sa}{o:HO}:upd H a o a=b3 o:=by unfold upd;rw[if_pos rfl]
def cH{H:Hp}{a b:Sa}{o:HO}(h:b≠a):upd H a o b=H b:=by unfold upd;rw[if_neg h]
def Y3{H:Hp}{a b:Sa}{o u:HO}(h:H a=b3 o)(h':H b=b3 u)(d:o≠u):a≠b:=by intro e;subst e;rw[h]at h';exact d (Bx h')
def aX{H:Hp}{a b:Sa}{o:HO}(h:H a=b3 o)(h':H b=b5):a≠b:=by intro e;subst e;rw[h]at h';cases h'
section
variable(P:Az)(w:Sg)
def aG(H:Hp)(h:Si)(a:Sa):HO->Prop
 |.lst xs=>xs.length<=sizeLine/\∃(its:List Rz) (n:Nat),bI xs its/\h.get? a=b3 {cls:=.type "list",data:=.seq its.toArray n}
 |.tup xs=>xs.length<=sizeLine/\∃its:List Rz,bI xs its/\IsTup h a its.toArray
 |.dK kvs=>kvs.length<=sizeLine/\(a==Gf)=bb/\∃vs,KV kvs vs/\h.DictOf (Z0 P w) a vs
 | .dT kvs => kvs.length <= sizeLine /\ (a == Gf) = bb /\ ∃ xs : List (List aQ × Sa × Rz),
   Paired (λ(p:List aQ×V) (q:List aQ×Sa×Rz)=>p.1=q.1/\H q.2.1=b3 (.tup (p.1.map kV))/\bA p.2 q.2.2) kvs xs∧
   ∃o es c,h.get? a=b3 o/\o.ExactDict/\o.data=.dict es c/\es.toList=xs.map (entryOfKey (tupleKind (Z0 P w)))/\(xs.map (·.1)).Nodup
 |.set S n=>h.SetOf (intKind P w) a S n
 | .ins C dx fs => H dx = b3 (.own a) /\ fs.length <= 1000 /\ dx ≠ a /\ h.get? a = b3 (Ig C dx) ∧
   ∃mA,h.Ns1 dx mA/\(∀f,UQ (fs.lookup f) (mA f))/\Jt mA (fs.map (·.1))
 |.own _=>∃o,h.get? a=b3 o
 |.xd fs=>∃mA,h.Ns1 a mA/\∀f,UQ (fs.lookup f) (mA f)
 |.rng lo hi=>∃t u v,h.get? a=b3 {cls:=.type "range",data:=.fields #[.int lo t,.int hi u,.int 1 v]}
 |.frz o u=>h.get? a=b3 o/\aG H h a u
 |.tbl ps=>h.get? a=b3 {cls:=.none,data:=.fields ps}
 |.met f x=>h.get? a=b3 (Qa (.ref f) (.ref x))
 | .flt C dx f g p q xs ys => (H dx = b3 (.own a) /\ H p = b3 (.own a) /\ H q = b3 (.own a)) /\ (dx ≠ a /\ p ≠ dx /\ q ≠ dx /\ p ≠ q /\ f ≠ g) /\ h.get? a = b3 (Ig C dx) ∧
   (∃mA,h.Ns1 dx mA/\(∀n,UQ (([(f,.ref p),(g,.ref q)]:List (Sb×V)).lookup n) (mA n))/\Jt mA [f,g])∧
   (xs.length<=sizeLine/\∃(its:List Rz) (n:Nat),bI xs its/\h.get? p=b3 {cls:=.type "list",data:=.seq its.toArray n})∧
   (ys.length<=sizeLine/\∃(its:List Rz) (n:Nat),bI ys its/\h.get? q=b3 {cls:=.type "list",data:=.seq its.toArray n})
 | .nst xs sub => (xs.length <= sizeLine /\ ∃ (its : List Rz) (n : Nat),bI xs its /\ h.get? a = b3 { cls := .type "list",data := .seq its.toArray n }) ∧
   ∀p zs,sub p=b3 zs->p≠a/\H p=b3 (.own a)/\zs.length<=sizeLine/\∃(its:List Rz) (n:Nat),bI zs its/\h.get? p=b3 {cls:=.type "list",data:=.seq its.toArray n}
 |.ext b=>b h/\(∃o,h.get? a=b3 o)/\∀h1 h2:Si,b h1->(∀o,h1.get? a=b3 o->h2.get? a=b3 o)->b h2
def UN(H:Hp)(h:Si):Prop:=∀a o,H a=b3 o->aG P w H h a o
end
section
variable{P:Az}{w:Sg}{H H':Hp}{h h':Si}{a:Sa}{o:HO}
def aG.lt(x:aG P w H h a o):a<h.objs.size:=by
 cases o with
 |lst xs=>obtain⟨_,_,_,_,e⟩:=x;exact As e
 |tup xs=>obtain⟨_,_,_,p⟩:=x;exact p.lt
 |dK kvs=>obtain⟨_,_,_,_,o,_,_,e,_⟩:=x;exact As e
 |dT kvs=>obtain⟨_,_,_,_,o,_,_,e,_⟩:=x;exact As e
 |set S n=>obtain⟨o,_,_,_,e,_⟩:=x;exact As e
 |ins C dx fs=>obtain⟨_,_,_,e,_⟩:=x;exact As e
 |own y=>obtain⟨_,e⟩:=x;exact As e
 |xd fs=>obtain⟨_,⟨_,_,_,e,_⟩,_⟩:=x;exact As e
 |rng lo hi=>obtain⟨_,_,_,e⟩:=x;exact As e
 |frz c u=>obtain⟨e,_⟩:=x;exact As e
 |tbl ps=>exact As (show h.get? a=b3 _ from x)
 |met f y=>exact As (show h.get? a=b3 _ from x)
 |flt C dx f g p q xs ys=>obtain⟨_,_,e,_⟩:=x;exact As e
 |nst xs sub=>obtain⟨⟨_,_,_,_,e⟩,_⟩:=x;exact As e
 |ext b=>obtain⟨_,⟨_,e⟩,_⟩:=x;exact As e
theorem Paired.mapP{α β:Type}{F G:α->β->Prop}:∀{d:List α}{c:List β},Paired F d c->(∀a b,F a b->G a b)->Paired G d c
 |_,_,.nil,_=>.nil
 |_,_,.cons r t,f=>.cons (f _ _ r) (Paired.mapP t f)
def aG.stay(x:aG P w H h a o)(k:∀b u,(b=a∨H b=b3 (.own a))->h.get? b=b3 u->h'.get? b=b3 u)(m:∀b,H b=b3 (.own a)->H' b=b3 (.own a))(R:∀b xs,H b=b3 (.tup xs)->H' b=b3 (.tup xs)):aG P w H' h' a o:=by
 induction o with
 |lst xs=>obtain⟨z,its,n,r,e⟩:=x;exact⟨z,its,n,r,k _ _ (.inl rfl) e⟩
 |tup xs=>obtain⟨z,its,r,j,e,c⟩:=x;exact⟨z,its,r,j,k _ _ (.inl rfl) e,c⟩
 |dK kvs=>obtain⟨z,y,vs,r,j,es,i,e,c⟩:=x;exact⟨z,y,vs,r,j,es,i,k _ _ (.inl rfl) e,c⟩
 |dT kvs=>
  obtain⟨z,y,xs,r,j,es,i,e,c⟩:=x;exact⟨z,y,xs,Paired.mapP r λp q z=>⟨z.1,R _ _ z.2.1,z.2.2⟩,j,es,i,k _ _ (.inl rfl) e,c⟩
 |set S n=>obtain⟨j,es,i,t,e,c⟩:=x;exact⟨j,es,i,t,k _ _ (.inl rfl) e,c⟩
 |ins C dx fs=>
  obtain⟨d,z,B,e,mA,⟨od,es,i,l,c⟩,r⟩:=x;exact⟨m _ d,z,B,k _ _ (.inl rfl) e,mA,⟨od,es,i,k _ _ (.inr d) l,c⟩,r⟩
 |own y=>obtain⟨j,e⟩:=x;exact⟨j,k _ _ (.inl rfl) e⟩
 |xd fs=>obtain⟨mA,⟨od,es,i,e,c⟩,r⟩:=x;exact⟨mA,⟨od,es,i,k _ _ (.inl rfl) e,c⟩,r⟩
 |rng lo hi=>obtain⟨t,u,v,e⟩:=x;exact⟨t,u,v,k _ _ (.inl rfl) e⟩
 |frz j u Q=>obtain⟨e,q⟩:=x;exact⟨k _ _ (.inl rfl) e,Q q⟩
 |tbl ps=>
  have e:h.get? a=b3 {cls:=.none,data:=.fields ps}:=x;show h'.get? a=b3 {cls:=.none,data:=.fields ps};exact k a _ (.inl rfl) e
 |met f y=>
  have e:h.get? a=b3 (Qa (.ref f) (.ref y)):=x;show h'.get? a=b3 (Qa (.ref f) (.ref y));exact k a _ (.inl rfl) e
 |nst xs sub=>
  obtain⟨⟨z,G,E,A,J⟩,k2⟩:=x;exact⟨⟨z,G,E,A,k _ _ (.inl rfl) J⟩,λp zs T=>let ⟨V,l,U,F,D,s,I⟩:=k2 p zs T;⟨V,m _ l,U,F,D,s,k _ _ (.inr l) I⟩⟩
 |flt C dx f g p q xs ys=>
  obtain⟨⟨M,L,K⟩,B,e,⟨mA,⟨od,es,i,l,c⟩,r⟩,⟨O,G,E,A,J⟩,N,F,D,s,I⟩:=x;exact⟨⟨m _ M,m _ L,m _ K⟩,B,k _ _ (.inl rfl) e,⟨mA,⟨od,es,i,k _ _ (.inr M) l,c⟩,r⟩,⟨O,G,E,A,k _ _ (.inr L) J⟩,N,F,D,s,k _ _ (.inr K) I⟩
 |ext W=>obtain⟨p,⟨o,e⟩,st⟩:=x;exact⟨st _ _ p λo q=>k _ _ (.inl rfl) q,⟨o,k _ _ (.inl rfl) e⟩,st⟩
def UN.lt(x:UN P w H h)(e:H a=b3 o):a<h.objs.size:=(x a o e).lt
def UN.fresh(x:UN P w H h)(e:h.objs.size<=a):H a=b5:=by
 cases q:H a with
 |none=>rfl
 |some u=>exact absurd (Bb (x.lt q) e) (Db _)
def UN.kept(x:UN P w H h)(k:∀b u,h.get? b=b3 u->h'.get? b=b3 u):UN P w H h':=λa o e=>
 (x a o e).stay (λb u _ q=>k b u q) (λ_ q=>q) λ_ _ q=>q
def UN.laid(x:UN P w H h)(k:∀b u,h.get? b=b3 u->h'.get? b=b3 u)(g:h.objs.size<=a)(new:aG P w (upd H a o) h' a o):UN P w (upd H a o) h':=λb u e=>by
 have d:=x.fresh g;by_cases f:b=a
 ·subst f;rw[cG]at e;cases e;exact new
 ·rw[cH f]at e
  exact(x b u e).stay (λc v _ q=>k c v q) (λc q=>by rw[cH (aX q d)];exact q) λc xs q=>by rw[cH (aX q d)];exact q
end
def PrtN(H:Hp)(a:Sa)(u:HO):Prop:=∃xs sub zs,u=.lst zs/\((∃x,H a=b3 (.own x)/\H x=b3 (.nst xs sub)/\sub a=b3 zs)∨(H a=b3 (.nst xs sub)/\zs=xs))
def PrtF(H:Hp)(a:Sa)(u:HO):Prop:=∃x C dx f g p q xs ys,H a=b3 (.own x)/\H x=b3 (.flt C dx f g p q xs ys)/\((a=p/\u=.lst xs)∨(a=q/\u=.lst ys))
def Prt(H:Hp)(a:Sa)(u:HO):Prop:=PrtN H a u∨PrtF H a u
def Rd(H:Hp)(a:Sa)(u:HO):Prop:=(H a=b3 u∨Prt H a u)∨∃o,H a=b3 (.frz o u)
def Rd.of{H:Hp}{a:Sa}{u:HO}(h:H a=b3 u):Rd H a u:=.inl (.inl h)
def Rd.ok{P:Az}{w:Sg}{H:Hp}{h:Si}{a:Sa}{u:HO}(r:Rd H a u)(x:UN P w H h):aG P w H h a u:=by
 rcases r with(r|⟨xs,sub,zs,rfl,(⟨y,_,e,s⟩|⟨e,rfl⟩)⟩|⟨y,C,dx,f,g,p,q,xs,ys,_,e,z⟩)|⟨o,r⟩
 ·exact x a u r
 ·obtain⟨_,k2⟩:=x y _ e
  obtain⟨_,_,z,i,n,v,g⟩:=k2 _ _ s;exact⟨z,i,n,v,g⟩
 ·exact(show aG P w H h a (.nst _ sub) from x a _ e).1
 ·obtain⟨_,_,_,_,c,b⟩:=x y _ e
  rcases z with⟨rfl,rfl⟩|⟨rfl,rfl⟩
  ·exact c
  ·exact b
 ·obtain⟨_,q⟩:=x a _ r
  exact q
def Mut:Option HO->Prop
 |some (.lst _)=>True
 |some (.dK _)=>True
 |some (.dT _)=>True
 |some (.set _ _)=>True
 |some (.ins _ _ _)=>True
 |some (.flt _ _ _ _ _ _ _ _)=>True
 |some (.nst _ _)=>True
 |some (.ext _)=>True
 |_=>False
section
variable{P:Az}{w:Sg}{H:Hp}{h h':Si}{x e:Sa}{o':HO}
def UN.write(ok:UN P w H h)(d:Mut (H x))(j:e=x∨H e=b3 (.own x))(k:∀b u,b≠e->h.get? b=b3 u->h'.get? b=b3 u)(g:∃u,h'.get? e=b3 u)
  (new:aG P w (upd H x o') h' x o'):UN P w (upd H x o') h':=λb u q=>by
 have l:∀c y,H c=b3 (.own y)->c≠x:=λc y r z=>by subst z;rw[r]at d;exact d
 have n:∀c xs,H c=b3 (.tup xs)->c≠x:=λc xs r z=>by subst z;rw[r]at d;exact d
 by_cases f:b=x
 ·subst f;rw[cG]at q;cases q;exact new
 ·rw[cH f]at q
  by_cases a:b=e
  ·have i:H b=b3 (.own x):=by
    rcases j with z|z
    ·exact absurd (a.trans z) f
    ·rw[a];exact z
   rw[q]at i;cases i;obtain⟨v,m⟩:=g;exact⟨v,by rw[a];exact m⟩
  ·refine (ok b u q).stay (λc v hc r => k c v ?_ r) (λc r => by rw [cH (l c b r)];exact r) λc xs r => by rw [cH (n c xs r)];exact r
   rcases hc with rfl|hc
   ·exact a
   ·rintro rfl
    rcases j with z|z
    ·exact l c b hc z
    ·rw[hc]at z;cases z;exact f rfl
end
structure Un(fs ex:List Sa)(H H':Hp)(h h':Si):Prop where
 keep:∀b o,h.get? b=b3 o->H b=b5->b∉fs->b∉ex->h'.get? b=b3 o
 slot:∀b o,h.get? b=b3 o->H b=b5->b∈fs->b∉ex->∃sl,h'.get? b=b3 {o with slots:=sl}
 free:∀b o,h.get? b=b3 o->H b=b5->b∉ex->H' b=b5
 there:∀b o,h.get? b=b3 o->b∉ex->∃o',h'.get? b=b3 o'
 tups:∀b xs,H b=b3 (.tup xs)->H' b=b3 (.tup xs)
 frzs:∀b o u,H b=b3 (.frz o u)->H' b=b3 (.frz o u)
 tbls:∀b ps,H b=b3 (.tbl ps)->∃more,H' b=b3 (.tbl (ps++more))
section
variable{fs fs' ex ex':List Sa}{H H1 H2:Hp}{h h1 h2 h':Si}{a x e:Sa}{o:HO}
def Un.any(u:Un fs ex H H1 h h1){b:Sa}{a:Sk}(q:h.get? b=b3 a)(n:H b=b5)(c:b∉ex):∃e,h1.get? b=b3 {a with slots:=e}:=by
 by_cases d:b∈fs
 ·exact u.slot b a q n d c
 ·exact⟨a.slots,u.keep b a q n d c⟩
def Un.kept(k:∀b u,h.get? b=b3 u->h'.get? b=b3 u):Un fs ex H H h h':=
 ⟨λb a q _ _ _=>k b a q,λb a q _ _ _=>⟨a.slots,k b a q⟩,λ_ _ _ n _=>n,λb a q _=>⟨a,k b a q⟩,λ_ _ q=>q,λ_ _ _ q=>q,λ_ ps q=>⟨#[],by rw[q];simp⟩⟩
def Un.refl:Un fs ex H H h h:=Un.kept λ_ _ q=>q
def Un.laid(k:∀b u,h.get? b=b3 u->h'.get? b=b3 u)(d:h.objs.size<=a)(c:H a=b5):Un fs ex H (upd H a o) h h' where
 keep:=λb u q _ _ _=>k b u q
 slot:=λb u q _ _ _=>⟨u.slots,k b u q⟩
 free:=λb u q n _=>by rw[cH (Bl (Bb (As q) d))];exact n
 there:=λb u q _=>⟨u,k b u q⟩
 tups:=λb xs q=>by rw[cH (aX q c)];exact q
 frzs:=λb u xs q=>by rw[cH (aX q c)];exact q
 tbls:=λb ps q=>⟨#[],by rw[cH (aX q c),q];simp⟩
def Un.write(c:Mut (H x))(j:e=x∨H e=b3 (.own x))(k:∀b u,b≠e->h.get? b=b3 u->h'.get? b=b3 u)(f:∃u,h'.get? e=b3 u):Un fs ex H (upd H x o) h h':=by
 have g:∀b,H b=b5->b≠x:=λb n z=>by subst z;rw[n]at c;exact c
 have i:∀b,H b=b5->b≠e:=λb n z=>by
  subst z;rcases j with r|r
  ·exact g b n r
  ·rw[n]at r;cases r
 have d:∀b u,H b=b3 u->¬Mut (b3 u)->b≠x:=λb u q nm z=>by subst z;rw[q]at c;exact nm c
 refine⟨λb u q n _ _=>k b u (i b n) q,λb u q n _ _=>⟨u.slots,k b u (i b n) q⟩,λb u q n _=>by rw[cH (g b n)];exact n,λb u q _=>?_,λb xs q=>by rw[cH (d b _ q λz=>z)];exact q,λb u xs q=>by rw[cH (d b _ q λz=>z)];exact q,λb ps q=>⟨#[],by rw[cH (d b _ q λz=>z),q];simp⟩⟩
 by_cases a:b=e
 ·subst a;exact f
 ·exact⟨u,k b u a q⟩
end
def trk(h:Si)(H:Hp):List Sa:=(Cq h.objs.size).filter λa=>(H a).isSome
def HJ(h:Si)(H:Hp):Si:=W.hideAll h (trk h H)
def nT(h:Si)(H:Hp):(HJ h H).objs.size=h.objs.size:=W.hideAll_size _ _
def Zi{h:Si}{H:Hp}{b:Sa}{o:Sk}(e:h.get? b=b3 o)(n:H b=b5):(HJ h H).get? b=b3 o:=
 Nb _ e λa=>by have q:(H b).isSome=ba:=(Qb.mp a).2;rw[n]at q;simp at q
def jl{h:Si}{H:Hp}{b:Sa}{o:Sk}(e:(HJ h H).get? b=b3 o):h.get? b=b3 o/\H b=b5:=by
 have a:h.get? b=b3 o:=W.of_hideAll (trk h H) e;refine⟨a,?_⟩;cases q:H b with
 |none=>rfl
 |some x=>
  have c:b∈trk h H:=Qb.mpr ⟨Fj.mpr (As a),by simp[q]⟩;have z:(HJ h H).get? b=b5:=W.hideAll_none (trk h H) c;rw[z]at e;cases e
structure Mod(K:Ag)(mg:Sb->Option Rz)(base:Si):Prop where
 kin:K.In base
 glob:base.Ns Sc mg
 blt:∃mb,base.Ns builtinsNs mb/\∀x:Sb,x≠ "__name__" ->mb x=Bm x
 nolimit:base.NoLimit
structure Cx where
 prog:Az
 w:Sg
 K:Ag
 mg:Sb->Option Rz
 base:Si
 A:Cb
 N:List Sb
 s₀:Ad
 H₀:Hp
 env:Env
 outer:List Env
 stack:List Env
 ex:List Sa
 fn:Sb->Bool
 calm:Bool
 pn:List (Sa×Sk)
 xe:Rz->Ad->Prop
def QW(l:List Env):List Sa:=l.filterMap (·.frame)
abbrev Cx.fs(X:Cx):List Sa:=QW X.outer
def Vis(a:Sq)(x:Sb):Prop:=a.names.lookup x=b3 .local∨a.names.lookup x=b3 .cell∨a.names.lookup x=b3 .free
def Loc(a:Sq)(x:Sb):Prop:=a.names.lookup x=b3 .local∨a.names.lookup x=b3 .cell
def Look(env:Env)(h:Si)(m:Sb->Option Rz)(x:Sb)(u:Rz):Prop:=
 (env.kindOf x=b3 .local/\m x=b3 u)∨((env.kindOf x=b3 .cell∨env.kindOf x=b3 .free)/\∃c,env.cells.lookup x=b3 c/\h.IsCell c (b3 u))
structure Cx.Ok(X:Cx):Prop where
 mod:Mod X.K X.mg X.base
 kind:X.env.scope.kind=.function
 glob:X.env.globals=Sc
 blt:X.env.builtins=builtinsNs
 above:X.s₀.heap.objs.size<=X.env.locals
 inj:∀x y c,X.env.cells.lookup x=b3 c->X.env.cells.lookup y=b3 c->x=y
 has:∀x,(X.env.kindOf x=b3 .cell∨X.env.kindOf x=b3 .free)->∃c,X.env.cells.lookup x=b3 c
 cab:∀x c,X.fn x=ba->X.env.cells.lookup x=b3 c->X.s₀.heap.objs.size<=c
 hd:X.calm=ba->X.A.handled=b5
 frames:X.A.frames=b3 X.stack
 stk:X.stack=X.outer∨(X.stack=X.env::X.outer/\X.env.frame=b3 X.env.locals)
 exf:∀b∈X.ex,b≠X.env.locals/\∀x c,X.env.cells.lookup x=b3 c->c≠b
 bs:∀b o,X.base.get? b=b3 o->X.s₀.heap.get? b=b3 o/\X.H₀ b=b5
 bsz:X.base.objs.size<=X.s₀.heap.objs.size
 noex:∀b o,X.base.get? b=b3 o->b∉X.ex
 exfs:∀b∈X.ex,b∉X.fs
 funs:X.s₀.heap.FunFrames X.base X.outer
 frf:∀b∈X.fs,X.H₀ b=b5
structure b9(X:Cx)(aa:List (Sa×Sk))(σ:List (Option V))(H:Hp)(s:Ad):Prop where
 ok:X.Ok
 os:s.os=X.s₀.os
 bare:Kl s.gens
 base:Un X.fs X.ex X.H₀ H X.s₀.heap s.heap
 loc:∃m,s.heap.Ns X.env.locals m/\∀(i:Nat) (x:Sb) (v:V),X.N[i]?=b3 x->σ[i]?=b3 (b3 v)->Vis X.env.scope x->∃u,bA v u/\Look X.env s.heap m x u
 cell:∀x c,X.env.cells.lookup x=b3 c->∃v,s.heap.IsCell c v
 free:H X.env.locals=b5
 freeC:∀x c,X.env.cells.lookup x=b3 c->H c=b5
 pin:∀p∈X.pn++aa,s.heap.get? p.1=b3 p.2/\H p.1=b5/\p.1≠X.env.locals/\p.1∉X.fs/\∀v,p.2.data≠ .cell v
 hok:UN X.prog X.w H s.heap
 len:σ.length=X.N.length
section
variable{X:Cx}{aa:List (Sa×Sk)}{σ:List (Option V)}{H H':Hp}{s:Ad}{h':Si}
def Cx.Ok.nofr(ok:X.Ok){b:Sa}{o:Sk}(e:X.base.get? b=b3 o):b∉X.fs:=λa=>by
 have:=(ok.funs.mem a).1
 rw[e]at this;cases this
def b9.bs(I:b9 X aa σ H s):∀b o,X.base.get? b=b3 o->s.heap.get? b=b3 o/\H b=b5:=λb o e=>
 ⟨I.base.keep b o (I.ok.bs b o e).1 (I.ok.bs b o e).2 (I.ok.nofr e) (I.ok.noex b o e),I.base.free b o (I.ok.bs b o e).1 (I.ok.bs b o e).2 (I.ok.noex b o e)⟩
def b9.bk(I:b9 X aa σ H s):∀b o,X.base.get? b=b3 o->s.heap.get? b=b3 o:=λb o e=>(I.bs b o e).1
def b9.mod(I:b9 X aa σ H s):Mod X.K X.mg X.base:=I.ok.mod
def b9.kIn(I:b9 X aa σ H s):X.K.In s.heap:=I.ok.mod.kin.keeps I.bk
def b9.lt(I:b9 X aa σ H s):X.env.locals<s.heap.objs.size:=let ⟨_,a,_⟩:=I.loc;a.lt
def b9.sz(I:b9 X aa σ H s):X.s₀.heap.objs.size<=s.heap.objs.size:=Ei I.ok.above (Oz I.lt)
def b9.nofs(I:b9 X aa σ H s){a:Sa}(h:s.heap.objs.size<=a):a∉X.fs:=λc=>by obtain⟨_,o,b,_⟩:=I.ok.funs.mem c;exact absurd (Bb (As b) (Ei I.sz h)) (Db _)
def b9.cne(I:b9 X aa σ H s):∀x c,X.env.cells.lookup x=b3 c->c≠X.env.locals:=λx c e z=>by obtain⟨v,o,d,hd⟩:=I.cell x c e;obtain⟨m,⟨o',es,f,a,b,_⟩,_⟩:=I.loc;rw[z,a]at d;cases d;rw[b]at hd;cases hd
def b9.funs(I:b9 X aa σ H s):s.heap.FunFrames X.base X.outer:=by
 have all:∀(l:List Env),(∀b∈QW l,b∈X.fs)->X.s₀.heap.FunFrames X.base l->s.heap.FunFrames X.base l:=by
  intro l;induction l with
  |nil=>intro _ _;trivial
  |cons env r g=>
   intro f hl;obtain⟨hk,⟨L,o,a,j,i,hd⟩,h⟩:=hl;have d:L∈X.fs:=f L (by unfold QW;rw[Ix,a];exact Bj);obtain⟨k,e⟩:=I.base.slot L o i (I.ok.frf L d) d λz=>I.ok.exfs L z d;exact⟨hk,⟨L,_,a,j,e,hd⟩,g (λb c=>f b (by unfold QW;rw[Ix,a];exact At _ c)) h⟩
 exact all X.outer (λ_ c=>c) I.ok.funs
def b9.stack(I:b9 X aa σ H s):s.heap.FunFrames X.base X.stack:=by
 rcases I.ok.stk with e|⟨e,b⟩
 ·rw[e];exact I.funs
 ·rw[e]
  obtain⟨m,a,_⟩:=I.loc;refine .cons (by rw[I.ok.kind];decide) b a ?_ I.funs;exact Heap.get?_none_of_le (Ei I.ok.bsz I.ok.above)
def b9.stkSub(I:b9 X aa σ H s):∀b∈QW X.stack,b∈X.env.locals::X.fs:=λb a=>by
 rcases I.ok.stk with e|⟨e,c⟩
 ·rw[e]at a;exact At _ a
 ·rw[e]at a
  unfold QW at a;rw[Ix,c]at a;exact a
def b9.stkFree(I:b9 X aa σ H s):∀b∈QW X.stack,H b=b5:=λb a=>by
 rcases Ar.mp (I.stkSub b a)with e|a
 ·rw[e];exact I.free
 ·obtain⟨_,o,c,_⟩:=I.ok.funs.mem a
  exact I.base.free b o c (I.ok.frf b a) λz=>I.ok.exfs b z a
def b9.step{g':Array GenState}{t':Nat}{d':Drawn}{ch:List Sa}(I:b9 X aa σ H s)(h:∀b∈ch,(b∈X.ex∨X.s₀.heap.objs.size<=b)/\b≠X.env.locals/\(∀x c,X.env.cells.lookup x=b3 c->c≠b)/\∀p∈X.pn++aa,p.1≠b)(keep:∀b o,b≠X.env.locals->b∉X.fs->b∉ch->s.heap.get? b=b3 o->H b=b5->h'.get? b=b3 o)(slot:∀b o,b≠X.env.locals->b∈X.fs->b∉ch->s.heap.get? b=b3 o->H b=b5->∃J,h'.get? b=b3 {o with slots:=J})(f:∀b o,b∉ch->s.heap.get? b=b3 o->H b=b5->H' b=b5)(there:∀b o,b∉ch->s.heap.get? b=b3 o->∃o',h'.get? b=b3 o')(B:∀b xs,H b=b3 (.tup xs)->H' b=b3 (.tup xs))(E:∀b o u,H b=b3 (.frz o u)->H' b=b3 (.frz o u))(C:∀b ps,H b=b3 (.tbl ps)->∃more,H' b=b3 (.tbl (ps++more)))(ns:∀m,s.heap.Ns X.env.locals m->h'.Ns X.env.locals m)(K:UN X.prog X.w H' h')(Q:Kl g'):b9 X aa σ H' {s with heap:=h',gens:=g',drawn:=d',toks:=t'}:=by
 have D:∀b o,X.s₀.heap.get? b=b3 o->b≠X.env.locals:=λb o e=>Bl (Bb (As e) I.ok.above);have j:∀b o,X.s₀.heap.get? b=b3 o->b∉X.ex->b∉ch:=λb o e a y=>by
  rcases(h b y).1 with z|z
  ·exact a z
  ·exact absurd (Bb (As e) z) (Db _)
 have O:∀x c,X.env.cells.lookup x=b3 c->∀v,s.heap.IsCell c v->h'.IsCell c v:=λx c e v q0=>by
  obtain⟨o,A,hd⟩:=q0;have g:c∉ch:=λz=>(h c z).2.2.1 x c e rfl;by_cases hc:c∈X.fs
  ·obtain⟨J,q⟩:=slot c o (I.cne x c e) hc g A (I.freeC x c e)
   exact⟨_,q,hd⟩
  ·exact⟨o,keep c o (I.cne x c e) hc g A (I.freeC x c e),hd⟩
 refine⟨I.ok,I.os,Q,⟨λb o e n y a=>?_,λb o e n y a=>?_,λb o e n a=>?_,λb o e a=>?_,λb xs e=>B b xs (I.base.tups b xs e),λb o xs e=>E b o xs (I.base.frzs b o xs e),λb ps e=>?_⟩,?_,λx c e=>?_,?_,λx c e=>?_,λp N=>?_,K,I.len⟩
 ·exact keep b o (D b o e) y (j b o e a) (I.base.keep b o e n y a) (I.base.free b o e n a)
 ·obtain⟨J,t⟩:=I.base.slot b o e n y a
  obtain⟨G,F⟩:=slot b _ (D b o e) y (j b o e a) t (I.base.free b o e n a);exact⟨G,F⟩
 ·obtain⟨o',t⟩:=I.base.there b o e a
  exact f b o' (j b o e a) t (I.base.free b o e n a)
 ·obtain⟨o',t⟩:=I.base.there b o e a
  exact there b o' (j b o e a) t
 ·obtain⟨m1,t⟩:=I.base.tbls b ps e
  obtain⟨m2,F⟩:=C b _ t;exact⟨m1++m2,by rw[F,Array.append_assoc]⟩
 ·obtain⟨m,P,hl⟩:=I.loc
  refine⟨m,ns m P,λi x v t F R=>?_⟩;obtain⟨u,r,l⟩:=hl i x v t F R;refine⟨u,r,?_⟩;rcases l with l|⟨k,c,e,z⟩
  ·exact .inl l
  ·exact .inr ⟨k,c,e,O x c e _ z⟩
 ·obtain⟨v,z⟩:=I.cell x c e
  exact⟨v,O x c e v z⟩
 ·obtain⟨m,⟨o,_,_,A,_⟩,_⟩:=I.loc
  exact f _ o (λz=>(h _ z).2.1 rfl) A I.free
 ·obtain⟨v,o,A,hd⟩:=I.cell x c e
  exact f c o (λz=>(h c z).2.2.1 x c e rfl) A (I.freeC x c e)
 ·obtain⟨e,n,M,L,d⟩:=I.pin p N
  have g:p.1∉ch:=λz=>(h p.1 z).2.2.2 p N rfl;exact⟨keep p.1 p.2 M L g e n,f p.1 p.2 g e n,M,L,d⟩
def b9.un{t':Nat}(I:b9 X aa σ H s)(u:Un X.fs [] H H' s.heap h')(c:UN X.prog X.w H' h'):b9 X aa σ H' {s with heap:=h',toks:=t'}:=by
 obtain⟨m,⟨o,es,p,h,r⟩,_⟩:=id I.loc;obtain⟨k,j⟩:=u.any h I.free (by simp);exact I.step (g':=s.gens) (d':=s.drawn) (ch:=[]) (λ_ z=>nomatch z) (λb o _ d _ e n=>u.keep b o e n d (by simp)) (λb o _ d _ e n=>u.slot b o e n d (by simp)) (λb o _ e n=>u.free b o e n (by simp)) (λb o _ e=>u.there b o e (by simp)) u.tups u.frzs u.tbls (λl i=>by obtain⟨o',f,g,a,r'⟩:=i;rw[h]at a;cases a;exact⟨_,f,g,j,r'⟩) c I.bare
def b9.call{g':Array GenState}{t':Nat}{d':Drawn}{ch:List Sa}(I:b9 X aa σ H s)(u:Un (QW X.stack) ch H H' s.heap h')(f:UN X.prog X.w H' h')(l:Kl g')(d:∀b∈ch,(b∈X.ex∨X.s₀.heap.objs.size<=b)/\b≠X.env.locals/\(∀x c,X.env.cells.lookup x=b3 c->c≠b)/\∀p∈X.pn++aa,p.1≠b):b9 X aa σ H' {s with heap:=h',gens:=g',drawn:=d',toks:=t'}:=by
 obtain⟨m,⟨o,es,y,j,r⟩,_⟩:=id I.loc;obtain⟨t,g⟩:=u.any j I.free λz=>(d _ z).2.1 rfl;exact I.step (ch:=ch) d (λb o g q hc e n=>u.keep b o e n (λz=>(Ar.mp (I.stkSub b z)).elim g q) hc) (λb o _ _ hc e n=>u.any e n hc) (λb o hc e n=>u.free b o e n hc) (λb o hc e=>u.there b o e hc) u.tups u.frzs u.tbls (λv k=>by obtain⟨o',h,i,a,r'⟩:=k;rw[j]at a;cases a;exact⟨_,h,i,g,r'⟩) f l
def b9.turned{t':Nat}{it:Sa}(I:b9 X aa σ H s)(k:∀b o,b≠it->s.heap.get? b=b3 o->h'.get? b=b3 o)(g:H it=b5)(d:it≠X.env.locals)(h1:it∈X.ex∨X.s₀.heap.objs.size<=it)(h2:∀x c,X.env.cells.lookup x=b3 c->c≠it)(j:∀p∈X.pn++aa,p.1≠it):b9 X aa σ H {s with heap:=h',toks:=t'}:=by
 have a:∀b u,H b=b3 u->b≠it:=λb u e z=>by rw[z,g]at e;cases e
 refine I.step (g':=s.gens) (d':=s.drawn) (ch:=[it]) (λb i=>?_) (λb o _ _ hc e _=>k b o (λz=>hc (by simp[z])) e) (λb o _ _ hc e _=>⟨o.slots,k b o (λz=>hc (by simp[z])) e⟩) (λ_ _ _ _ n=>n)
  (λb o hc e=>⟨o,k b o (λz=>hc (by simp[z])) e⟩) (λ_ _ e=>e) (λ_ _ _ e=>e) (λb ps e=>⟨#[],by rw[e];simp⟩) (λm h=>?_) (λb u e=>?_) I.bare
 ·have e : b = it := by simpa using i
  subst e;exact⟨h1,d,h2,j⟩
 ·obtain⟨o,es,l,f,r⟩:=h
  exact⟨o,es,l,k _ o (Dl d) f,r⟩
 ·refine (I.hok b u e).stay (λc v hc q => k c v ?_ q) (λ_ q => q) λ_ _ q => q
  rcases hc with z|z
  ·rw[z];exact a b u e
  ·exact a c _ z
def b9.tok(I:b9 X aa σ H s)(t:Nat):b9 X aa σ H {s with toks:=t}:=I.un (h':=s.heap) (t':=t) Un.refl I.hok
def b9.kept{t':Nat}(I:b9 X aa σ H s)(k:∀b u,s.heap.get? b=b3 u->h'.get? b=b3 u):b9 X aa σ H {s with heap:=h',toks:=t'}:=I.un (Un.kept k) (I.hok.kept k)
def b9.laid{a:Sa}{o:HO}{t':Nat}(I:b9 X aa σ H s)(k:∀b u,s.heap.get? b=b3 u->h'.get? b=b3 u)(c:s.heap.objs.size<=a)(new:aG X.prog X.w (upd H a o) h' a o):b9 X aa σ (upd H a o) {s with heap:=h',toks:=t'}:=I.un (Un.laid k c (I.hok.fresh c)) (I.hok.laid k c new)
def b9.write{x e:Sa}{o:HO}{t':Nat}(I:b9 X aa σ H s)(c:Mut (H x))(d:e=x∨H e=b3 (.own x))(k:∀b u,b≠e->s.heap.get? b=b3 u->h'.get? b=b3 u)(a:∃u,h'.get? e=b3 u)(new:aG X.prog X.w (upd H x o) h' x o):b9 X aa σ (upd H x o) {s with heap:=h',toks:=t'}:=I.un (Un.write c d k a) (I.hok.write c d k a new)
def b9.weak{a:List (Option V)}(I:b9 X aa σ H s)(hl:a.length=σ.length)(w:∀(i:Nat) v,a[i]?=b3 (b3 v)->σ[i]?=b3 (b3 v)):b9 X aa a H s:=
 ⟨I.ok,I.os,I.bare,I.base,let ⟨m,c,b⟩:=I.loc;⟨m,c,λi x v f e d=>b i x v f (w i v e) d⟩,I.cell,I.free,I.freeC,I.pin,I.hok,hl.trans I.len⟩
def b9.pins_of{a:List (Sa×Sk)}(I:b9 X aa σ H s)(h:∀p∈a,s.heap.get? p.1=b3 p.2/\H p.1=b5/\p.1≠X.env.locals/\p.1∉X.fs/\∀v,p.2.data≠ .cell v):b9 X a σ H s:=
 ⟨I.ok,I.os,I.bare,I.base,I.loc,I.cell,I.free,I.freeC,λp b=>(Ci.mp b).elim (λz=>I.pin p (Bo _ z)) (h p),I.hok,I.len⟩
def FU{N:List Sb}(c:N.Nodup){i j:Nat}{x:Sb}(a:N[i]?=b3 x)(b:N[j]?=b3 x):i=j:=by obtain⟨h1,e⟩:=Ai.mp a;obtain⟨h2,d⟩:=Ai.mp b;exact(Pk c).mp (e.trans d.symm)
def Yh{M:Ss}{A:Cb}{E:Rz->Ad->Prop}{i:Nat}{x:Sb}{v:V}{u:Rz}{Q:Unit->Ad->Prop}(I:b9 X aa σ H s)(hN:X.N.Nodup)(hi:X.N[i]?=b3 x)(l:Loc X.env.scope x)(r:bA v u)(h:∀s',b9 X aa (σ.set i (b3 v)) H s'->(∃a,Er a s.heap s'.heap/\(a=X.env.locals∨X.env.cells.lookup x=b3 a))->Q () s')(hf:X.fn x=ba∨X.env.scope.names.lookup x=b3 .local:=by first|exact .inl rfl|exact .inr rfl|assumption):Sd M A (storeName X.env x u) Q E s:=by
 obtain⟨m,Z,hl⟩:=id I.loc;have i3:(X.env.scope.kind== .class || (X.env.scope.kind== .module&&X.env.locals !=X.env.globals))=bb:=by rw[I.ok.kind];rfl
 have B:i<σ.length:=by rw[I.len];exact(Ai.mp hi).1
 have cne:=I.cne;have cr:∀{a:Sa}{h':Si},(∃o,s.heap.get? a=b3 o/\H a=b5)->Er a s.heap h'->UN X.prog X.w H h':=λ{a h'} ha f b ob e=>by
  obtain⟨_,_,bh⟩:=ha;refine(I.hok b ob e).stay (λc w' hc q=>(f.2 c ?_).trans q) (λ_ q=>q) λ_ _ q=>q;rintro rfl;rcases hc with rfl|hc
  ·rw[bh]at e;cases e
  ·rw[bh]at hc;cases hc
 rcases l with hk|hk
 ·refine wpAny_storeName_local hk Z (λh' Y f => ?_) i3
  obtain⟨oL,_,_,W,_⟩:=id Z;refine h _ ⟨I.ok,I.os,I.bare,⟨λb o e n F l=>?_,λb o e n F l=>?_,I.base.free,λb o e l=>?_,I.base.tups,I.base.frzs,I.base.tbls⟩,⟨_,Y,λj y P g t e3=>?_⟩,λy c e=>?_,I.free,I.freeC,λp U=>?_,cr ⟨oL,W,I.free⟩ f,by simpa using I.len⟩ ⟨_,f,.inl rfl⟩
  ·exact(f.2 b (Bl (Bb (As e) I.ok.above))).trans (I.base.keep b o e n F l)
  ·obtain⟨S,g⟩:=I.base.slot b o e n F l
   exact⟨S,(f.2 b (Bl (Bb (As e) I.ok.above))).trans g⟩
  ·obtain⟨o',g⟩:=I.base.there b o e l
   exact⟨o',(f.2 b (Bl (Bb (As e) I.ok.above))).trans g⟩
  ·by_cases C:j=i
   ·subst C
    rw[hi]at g;cases g;rw[Cw B]at t;cases t;exact⟨u,r,.inl ⟨hk,by simp⟩⟩
   ·rw[By (Dl C)]at t
    obtain⟨R,r',q⟩:=hl j y P g t e3;refine⟨R,r',?_⟩;rcases q with⟨k,e⟩|⟨k,c,e,z⟩
    ·refine .inl ⟨k,?_⟩
     have:y≠x:=λe=>C (FU hN g (e▸hi))
     simp[this,e]
    ·exact .inr ⟨k,c,e,z.sameBut f (cne y c e)⟩
  ·obtain⟨w',z⟩:=I.cell y c e
   exact⟨w',z.sameBut f (cne y c e)⟩
  ·obtain⟨e,n,L,T,d⟩:=I.pin p U
   exact⟨(f.2 p.1 L).trans e,n,L,T,d⟩
 ·have D:X.fn x=ba:=by
   rcases hf with z|z
   ·exact z
   ·rw[z]at hk;cases hk
  obtain⟨c,hc⟩:=I.ok.has x (.inl hk);obtain⟨w',z⟩:=I.cell x c hc;refine wpAny_storeName_cell I.ok.kind hk hc z (λh' K f=>?_);obtain⟨oc,G,gn⟩:=id z;refine h {s with heap:=h'} ⟨I.ok,I.os,I.bare,⟨λb o e n F l=>?_,λb o e n F l=>?_,I.base.free,λb o e l=>?_,I.base.tups,I.base.frzs,I.base.tbls⟩,⟨m,Z.sameBut f (Dl (cne x c hc)),λj y P g t e3=>?_⟩,λy O e=>?_,I.free,I.freeC,λp U=>?_,cr ⟨oc,G,I.freeC x c hc⟩ f,by simpa using I.len⟩ ⟨c,f,.inr hc⟩
  ·exact(f.2 b (Bl (Bb (As e) (I.ok.cab x c D hc)))).trans (I.base.keep b o e n F l)
  ·obtain⟨S,g⟩:=I.base.slot b o e n F l
   exact⟨S,(f.2 b (Bl (Bb (As e) (I.ok.cab x c D hc)))).trans g⟩
  ·obtain⟨o',g⟩:=I.base.there b o e l
   exact⟨o',(f.2 b (Bl (Bb (As e) (I.ok.cab x c D hc)))).trans g⟩
  ·by_cases C:j=i
   ·subst C
    rw[hi]at g;cases g;rw[Cw B]at t;cases t;exact⟨u,r,.inr ⟨.inl hk,c,hc,K⟩⟩
   ·rw[By (Dl C)]at t
    obtain⟨R,r',q⟩:=hl j y P g t e3;refine⟨R,r',?_⟩;rcases q with q|⟨k,O,e,z'⟩
    ·exact .inl q
    ·refine .inr ⟨k,O,e,z'.sameBut f ?_⟩
     rintro rfl;exact C (FU hN g (I.ok.inj _ _ _ e hc▸hi))
  ·by_cases J:O=c
   ·subst J;exact⟨_,K⟩
   ·obtain⟨w2,z2⟩:=I.cell y O e
    exact⟨w2,z2.sameBut f J⟩
  ·obtain⟨e,n,L,T,d⟩:=I.pin p U
   refine⟨(f.2 p.1 ?_).trans e,n,L,T,d⟩;intro q;rw[q,G]at e;have q':oc=p.2:=Bx e;exact d w' (by rw[<-q'];exact gn)
def WJ{M:Ss}{A:Cb}{E:Rz->Ad->Prop}{i:Nat}{x:Sb}{v:V}{u:Rz}{Q:Unit->Ad->Prop}(I:b9 X aa σ H s)(c:X.N.Nodup)(hi:X.N[i]?=b3 x)(a:Loc X.env.scope x)(r:bA v u)(h:∀s',b9 X aa (σ.set i (b3 v)) H s'->Q () s')(b:X.fn x=ba∨X.env.scope.names.lookup x=b3 .local:=by first|exact .inl rfl|exact .inr rfl|assumption):Sd M A (storeName X.env x u) Q E s:=
 Yh I c hi a r (λs' d _=>h s' d) b
def b9.call'{s':Ad}{ch:List Sa}(I:b9 X aa σ H s)(f:s'.os=s.os)(u:Un (QW X.stack) ch H H' s.heap s'.heap)(a:UN X.prog X.w H' s'.heap)(g:Kl s'.gens)(d:∀b∈ch,(b∈X.ex∨X.s₀.heap.objs.size<=b)/\b≠X.env.locals/\(∀x c,X.env.cells.lookup x=b3 c->c≠b)/\∀p∈X.pn++aa,p.1≠b):b9 X aa σ H' s':=by obtain⟨h',g',d',t',o'⟩:=s';have e:o'=s.os:=f;subst e;exact I.call (g':=g') (t':=t') (d':=d') u a g d
end
abbrev XK:=Rz->Option Sa->Hp->Prop
abbrev St:=List (Option V)
abbrev VK:=V->Hp->Prop
abbrev TE:=St->Hp->VK->Prop
abbrev TT:=St->Hp->(Bool->Hp->Prop)->Prop
abbrev TA:=St->Hp->(List V->Hp->Prop)->Prop
structure KH where
 nx:St->Hp->Prop
 rt:VK
 bk:St->Hp->Prop:=λ_ _=>False
 ct:St->Hp->Prop:=λ_ _=>False
abbrev TS:=KH->St->Hp->Prop
inductive EPi(X:Cx)(aa:List (Sa×Sk))(σ:St)(Q:VK)(u:Rz)(s':Ad):Prop
 |mk (v:_) (H':_) (h0:b9 X aa σ H' s') (h1:bA v u) (h2:Q v H'):EPi X aa σ Q u s'
def EP(X:Cx)(aa:List (Sa×Sk))(σ:St)(Q:VK)(u:Rz)(s':Ad):Prop:=EPi X aa σ Q u s'
def TP(X:Cx)(aa:List (Sa×Sk))(σ:St)(Q:Bool->Hp->Prop)(b:Bool)(s':Ad):Prop:=∃H',b9 X aa σ H' s'/\Q b H'
inductive APi(X:Cx)(aa:List (Sa×Sk))(σ:St)(Q:List V->Hp->Prop)(us:List Rz)(s':Ad):Prop
 |mk (vs:_) (H':_) (h0:b9 X aa σ H' s') (h1:bI vs us) (h2:Q vs H'):APi X aa σ Q us s'
def AP(X:Cx)(aa:List (Sa×Sk))(σ:St)(Q:List V->Hp->Prop)(us:List Rz)(s':Ad):Prop:=APi X aa σ Q us s'
def SP(X:Cx)(aa:List (Sa×Sk))(D:KH)(f:Flow)(s':Ad):Prop:=
 match f with
 |.next=>∃a H',b9 X aa a H' s'/\D.nx a H'
 |.brk=>∃a H',b9 X aa a H' s'/\D.bk a H'
 |.cont=>∃a H',b9 X aa a H' s'/\D.ct a H'
 |.ret u=>∃v a H',b9 X aa a H' s'/\bA v u/\D.rt v H'
def PE(X:Cx)(e:Sf)(t:TE):Prop:=
 ∀(aa:List (Sa×Sk)) (s:Ad) (σ:St) (H:Hp) (Q:VK),b9 X aa σ H s->t σ H Q->Sd (Se X.prog X.w) X.A (eval e X.env) (EP X aa σ Q) X.xe s
def PT(X:Cx)(e:Sf)(t:TT):Prop:=
 ∀(aa:List (Sa×Sk)) (s:Ad) (σ:St) (H:Hp) (Q:Bool->Hp->Prop),b9 X aa σ H s->t σ H Q->Sd (Se X.prog X.w) X.A (isTrue e X.env (eval e X.env)) (TP X aa σ Q) X.xe s
def PW(X:Cx)(e:Sf)(t:TT):Prop:=
 ∀(a:Sr Rz) (aa:List (Sa×Sk)) (s:Ad) (σ:St) (H:Hp) (Q:Bool->Hp->Prop),b9 X aa σ H s->t σ H Q->Sd (Se X.prog X.w) X.A (isTrue e X.env a) (TP X aa σ Q) X.xe s
def PW.pt{X:Cx}{e:Sf}{t:TT}(h:PW X e t):PT X e t:=h _
def PA(X:Cx)(es:List Sf)(t:TA):Prop:=
 ∀(pos:Pos) (aa:List (Sa×Sk)) (s:Ad) (σ:St) (H:Hp) (Q:List V->Hp->Prop),b9 X aa σ H s->t σ H Q->Sd (Se X.prog X.w) X.A (spliced (Ct pos (Ap es X.env))) (AP X aa σ Q) X.xe s
def PS(X:Cx)(st:Sj)(t:TS):Prop:=
 ∀(aa:List (Sa×Sk)) (s:Ad) (σ:St) (H:Hp) (D:KH),b9 X aa σ H s->t D σ H->Sd (Se X.prog X.w) X.A (exec st X.env) (SP X aa D) X.xe s
def W1(X:Cx)(st:List Sj)(t:TS):Prop:=
 ∀(aa:List (Sa×Sk)) (s:Ad) (σ:St) (H:Hp) (D:KH),b9 X aa σ H s->t D σ H->Sd (Se X.prog X.w) X.A (execs st X.env) (SP X aa D) X.xe s
def ZP{α:Type}{t:Sr α}{Q b:α->Ad->Prop}{M:Ss}{A:Cb}{E:Rz->Ad->Prop}{s:Ad}(h:Sd M A t Q E s)(c:∀a s,Q a s->b a s):Sd M A t b E s:=Co h c λ_ _ x=>x
section
variable{X:Cx}
def ZH(i:Nat):TE:=λσ H Q=>∃v,σ[i]?=b3 (b3 v)/\Q v H
def tC(v:V):TE:=λ_ H Q=>Q v H
def DU{i:Nat}{x:Sb}{pos:Pos}(j:X.N[i]?=b3 x)(d:Vis X.env.scope x)(hd:(x==("__debug__":Sb))=bb:=by decide)(a:(x==("__classdict__":Sb))=bb:=by decide):PE X (.Name x pos) (ZH i):=by
 intro aa s σ H Q I h;obtain⟨v,e,h⟩:=h;obtain⟨m,f,hl⟩:=I.loc;obtain⟨u,r,l⟩:=hl i x v j e d;have fin:EP X aa σ Q u s:=⟨v,H,I,r,h⟩;rcases l with⟨hk,g⟩|⟨hk,c,hc,b⟩
 ·exact Qs (wpAny_loadName_local I.ok.kind hk f g fin) hd
 ·rcases hk with hk|hk
  ·exact Qs (wpAny_loadName_cell I.ok.kind hk hc b fin) hd
  ·exact Qs (wpAny_loadName_free I.ok.kind hk hc b fin a) hd
def XO{i j pos}:PE X (.Constant (.int i) j pos) (tC (.int i)):=λ_ _ _ H _ I h=>wpAny_Constant_int ⟨.int i,H,I.tok _,⟨_,rfl⟩,h⟩
def lB{b j pos}:PE X (.Constant (.bool b) j pos) (tC (.bl b)):=λ_ _ _ H _ I h=>Constant_bool ⟨.bl b,H,I,rfl,h⟩
def Za{j pos}:PE X (.Constant .none j pos) (tC .non):=λ_ _ _ H _ I h=>Constant_none ⟨.non,H,I,rfl,h⟩
def Xl{x j pos}:PE X (.Constant (.str x) j pos) (tC (.str x)):=λ_ _ _ H _ I h=>Calls.Constant_str ⟨.str x,H,I.tok _,⟨_,rfl⟩,h⟩
def Gl(X:Cx)(x:Sb):Prop:=X.env.kindOf x=b3 .globalImplicit
def UD{E:Rz->Ad->Prop}{aa:List (Sa×Sk)}{s:Ad}{σ:St}{H:Hp}{x:Sb}{u:Rz}{pos:Pos}{Q:Rz->Ad->Prop}(I:b9 X aa σ H s)(b:Gl X x)(a:X.mg x=b3 u)(h:Q u s)(hd:(x==("__debug__":Sb))=bb:=by decide):Sd (Se X.prog X.w) X.A (eval (.Name x pos) X.env) Q E s:=
 Jn I.ok.kind b (Calls.loadGlobal_global (by rw[I.ok.glob];exact I.mod.glob.keeps I.bk) a h) hd
def OK{E:Rz->Ad->Prop}{aa:List (Sa×Sk)}{s:Ad}{σ:St}{H:Hp}{x:Sb}{u:Rz}{pos:Pos}{Q:Rz->Ad->Prop}(I:b9 X aa σ H s)(d:Gl X x)(c:X.mg x=b5)(a:Bm x=b3 u)(h:Q u s)(b:x≠ "__name__":=by decide)(hd:(x==("__debug__":Sb))=bb:=by decide):Sd (Se X.prog X.w) X.A (eval (.Name x pos) X.env) Q E s:=by obtain⟨e,h1,h2⟩:=I.mod.blt;exact Jn I.ok.kind d (Calls.loadGlobal_builtin (by rw[I.ok.glob];exact I.mod.glob.keeps I.bk) c (by rw[I.ok.blt];exact h1.keeps I.bk) ((h2 x b).trans a) h) hd
def hW{x:Sb}{v:V}{u:Rz}{pos:Pos}(b:Gl X x)(a:X.mg x=b3 u)(r:bA v u)(hd:(x==("__debug__":Sb))=bb:=by decide):PE X (.Name x pos) (tC v):=
 λ_ _ _ H _ I h=>UD I b a ⟨v,H,I,r,h⟩ hd
def iL{x:Sb}{v:V}{u:Rz}{pos:Pos}(d:Gl X x)(c:X.mg x=b5)(a:Bm x=b3 u)(r:bA v u)(b:x≠ "__name__":=by decide)(hd:(x==("__debug__":Sb))=bb:=by decide):PE X (.Name x pos) (tC v):=
 λ_ _ _ H _ I h=>OK I d c a ⟨v,H,I,r,h⟩ b hd
variable{a b:Sf}{ta tb:TE}{pos:Pos}
def tB(t:TE):TT:=λσ H Q=>t σ H λx H1=>∃c,x=.bl c/\Q c H1
def jv{e:Sf}{t:TE}(h:PE X e t)(c:∀a,isTrue e X.env a=(do let v<-a;Lk e.pos;Gv [v] (truthy v)):=by intro _;rfl):PT X e (tB t):=by intro aa s σ H Q I hw;refine isTrue_plain (ZP (h aa s σ H _ I hw) λv s1 ⟨x,H1,f,b,q1⟩=>?_) (c _);obtain⟨d,rfl,q⟩:=q1;cases b;exact Et ⟨H1,f,q⟩
variable{tA tB':TT}{rest:List Sf}
def tAnd(t u:TT):TT:=λσ H Q=>t σ H λc H1=>if c=ba then u σ H1 Q else Q bb H1
def tOr(t u:TT):TT:=λσ H Q=>t σ H λc H1=>if c=ba then Q ba H1 else u σ H1 Q
def tNot(t:TT):TT:=λσ H Q=>t σ H λc H1=>Q (!c) H1
def ij(b:PT X a tA):PW X (.BoolOp .And [a] pos) tA:=by
 intro d aa s σ H Q I h;refine isTrue_and (ZP (b aa s σ H Q I h) λc s1 e=>?_);cases c with
 |true=>exact isTrue_and_nil e
 |false=>exact e
def mz(b:PT X a tA):PW X (.BoolOp .Or [a] pos) tA:=by
 intro d aa s σ H Q I h;refine isTrue_or (ZP (b aa s σ H Q I h) λc s1 e=>?_);cases c with
 |false=>exact isTrue_or_nil e
 |true=>exact e
def fS(g:PT X a tA)(f:PW X (.BoolOp .And (b::rest) pos) tB'):PW X (.BoolOp .And (a::b::rest) pos) (tAnd tA tB'):=by
 intro e aa s σ H Q I h;refine isTrue_and (ZP (g aa s σ H _ I h) λc s1 ⟨H1,d,q1⟩=>?_);cases c with
 |true=>exact f e aa s1 σ H1 Q d q1
 |false=>exact⟨H1,d,q1⟩
def gR(g:PT X a tA)(f:PW X (.BoolOp .Or (b::rest) pos) tB'):PW X (.BoolOp .Or (a::b::rest) pos) (tOr tA tB'):=by
 intro e aa s σ H Q I h;refine isTrue_or (ZP (g aa s σ H _ I h) λc s1 ⟨H1,d,q1⟩=>?_);cases c with
 |true=>exact⟨H1,d,q1⟩
 |false=>exact f e aa s1 σ H1 Q d q1
def kN(b:PT X a tA):PT X (.UnaryOp .Not a pos) (tNot tA):=by intro aa s σ H Q I h;exact isTrue_not (b aa s σ H (λc H1=>Q (!c) H1) I h)
def gV(ta tb:TE):TE:=λσ H Q=>ta σ H λx H1=>∃c,x=.bl c/\if c=ba then tb σ H1 Q else Q (.bl bb) H1
def dN{op}{t:TE}(h:PE X a t):PE X (.BoolOp op [a] pos) t:=λaa s σ H Q I hw=>BoolOp_one (h aa s σ H Q I hw)
def jE(g:PE X a ta)(f:PE X (.BoolOp .And (b::rest) pos) tb):PE X (.BoolOp .And (a::b::rest) pos) (gV ta tb):=by
 intro aa s σ H Q I h;refine BoolOp_and (ZP (g aa s σ H _ I h) λv s1 ⟨x,H1,d,e,q1⟩=>?_);obtain⟨c,rfl,q1⟩:=q1;cases e;refine Et ?_;cases c with
 |true=>exact f aa s1 σ H1 Q d q1
 |false=>exact⟨.bl bb,H1,d,rfl,q1⟩
def tIf(t:TT)(ta tb:TE):TE:=λσ H Q=>t σ H λc H1=>if c=ba then ta σ H1 Q else tb σ H1 Q
def kY{c:Sf}(hc:PT X c tA)(g:PE X a ta)(f:PE X b tb):PE X (.IfExp c a b pos) (tIf tA ta tb):=by
 intro aa s σ H Q I h;refine wpAny_IfExp (ZP (hc aa s σ H _ I h) λd s1 ⟨H1,e,q1⟩=>?_);cases d with
 |true=>exact g aa s1 σ H1 Q e q1
 |false=>exact f aa s1 σ H1 Q e q1
end
def XV(K:Ag)(H:Hp)(a:Sa)(xs:List V):Prop:=
 Rd H a (.lst xs)∨
  ∃(o:Sk) (its:Array Rz) (n:Nat),K.lookup a=b3 o/\o.cls=.type "list" /\o.dict=b5/\o.data=.seq its n/\its.size<=sizeLine/\bI xs its.toList
def UO(K:Ag)(H:Hp)(a:Sa)(xs:List V):Prop:=
 Rd H a (.tup xs)∨
  ∃(o:Sk) (its:Array Rz) (n:Nat),K.lookup a=b3 o/\o.cls=.type "tuple" /\o.data=.seq its n/\its.size<=sizeLine/\bI xs its.toList
noncomputable def absV:Rz->Option V
 |.none=>b3 .non
 |.bool b=>b3 (.bl b)
 |.int i _=>b3 (.int i)
 |.str x _=>b3 (.str x)
 |.bytes b _=>b3 (.byt b)
 |.float b _=>b3 (.flt b)
 |.ref a=>b3 (.ref a)
 |.type n=>b3 (.ty n)
 |_=>b5
def bA.abs{x:V}{u:Rz}(r:bA x u):absV u=b3 x:=by
 cases x with
 |non=>cases r;rfl
 |bl _=>cases r;rfl
 |int _=>obtain⟨t,rfl⟩:=r;rfl
 |str _=>obtain⟨t,rfl⟩:=r;rfl
 |byt _=>obtain⟨t,rfl⟩:=r;rfl
 |flt _=>obtain⟨t,rfl⟩:=r;rfl
 |ref _=>cases r;rfl
 |ty _=>cases r;rfl
def bA.inj{x y:V}{u:Rz}(r:bA x u)(q:bA y u):x=y:=Bx (r.abs.symm.trans q.abs)
theorem bI.inj:∀{xs ys:List V}{us:List Rz},bI xs us->bI ys us->xs=ys
 |_,_,_,.nil,.nil=>rfl
 |_,_,_,.cons r t,.cons r' t'=>by rw[r.inj r',bI.inj t t']
section
variable{X:Cx}{aa:List (Sa×Sk)}{σ:St}{H:Hp}{s:Ad}{a:Sa}{xs ys:List V}
def XV.of{K:Ag}(h:H a=b3 (.lst xs)):XV K H a xs:=.inl (.inl (.inl h))
def UO.of{K:Ag}(h:H a=b3 (.tup xs)):UO K H a xs:=.inl (.inl (.inl h))
def b9.list(I:b9 X aa σ H s)(h:XV X.K H a xs):∃its:List Rz,bI xs its/\PlainL s.heap a its.toArray/\xs.length<=sizeLine:=by
 rcases h with h|⟨o,its,n,hk,hc,hd,b,hz,r⟩
 ·obtain⟨z,its,n,r,e⟩:=h.ok I.hok
  exact⟨its,r,⟨_,n,e,rfl,rfl,rfl⟩,z⟩
 ·refine ⟨its.toList,r,⟨o,n,I.kIn a o hk,hc,hd,by simpa using b⟩,?_⟩
  have e:=r.length;simp only[Ga]at e;lia
def b9.tuple(I:b9 X aa σ H s)(h:UO X.K H a xs):∃its:List Rz,bI xs its/\IsTup s.heap a its.toArray/\xs.length<=sizeLine:=by
 rcases h with h|⟨o,its,n,hk,hc,b,hz,r⟩
 ·obtain⟨z,its,r,p⟩:=h.ok I.hok
  exact⟨its,r,p,z⟩
 ·refine ⟨its.toList,r,⟨o,I.kIn a o hk,hc,n,by simpa using b⟩,?_⟩
  have e:=r.length;simp only[Ga]at e;lia
def b9.list_inj(I:b9 X aa σ H s)(h:XV X.K H a xs)(h':XV X.K H a ys):xs=ys:=by
 obtain⟨its,r,⟨o,n,e,_,_,d⟩,_⟩:=I.list h;obtain⟨its',r',⟨o',n',b,_,_,d'⟩,_⟩:=I.list h';rw[e]at b;cases b;rw[d]at d';injection d' with c _;have:its=its':=by simpa using congrArg Rm c
 subst this;exact r.inj r'
def b9.tuple_inj(I:b9 X aa σ H s)(h:UO X.K H a xs)(h':UO X.K H a ys):xs=ys:=by
 obtain⟨its,r,⟨o,e,_,n,d⟩,_⟩:=I.tuple h;obtain⟨its',r',⟨o',b,_,n',d'⟩,_⟩:=I.tuple h';rw[e]at b;cases b;rw[d]at d';injection d' with c _;have:its=its':=by simpa using congrArg Rm c
 subst this;exact r.inj r'
end
abbrev Cx.wish(X:Cx)(E:Rz->Ad->Prop):Cx:={X with xe:=E}
abbrev Cx.nox(X:Cx):Cx:=X.wish λ_ _=>False
def Cx.Ok.wish{X:Cx}(ok:X.Ok)(E:Rz->Ad->Prop):(X.wish E).Ok:=
 ⟨ok.mod,ok.kind,ok.glob,ok.blt,ok.above,ok.inj,ok.has,ok.cab,ok.hd,ok.frames,ok.stk,ok.exf,ok.bs,ok.bsz,ok.noex,ok.exfs,ok.funs,ok.frf⟩
def Cx.Ok.unwish{X:Cx}{E:Rz->Ad->Prop}(ok:(X.wish E).Ok):X.Ok:=
 ⟨ok.mod,ok.kind,ok.glob,ok.blt,ok.above,ok.inj,ok.has,ok.cab,ok.hd,ok.frames,ok.stk,ok.exf,ok.bs,ok.bsz,ok.noex,ok.exfs,ok.funs,ok.frf⟩
section
variable{X:Cx}{aa:List (Sa×Sk)}{σ:St}{H:Hp}{s:Ad}{E:Rz->Ad->Prop}
def b9.wish(I:b9 X aa σ H s)(E:Rz->Ad->Prop):b9 (X.wish E) aa σ H s:=⟨I.ok.wish E,I.os,I.bare,I.base,I.loc,I.cell,I.free,I.freeC,I.pin,I.hok,I.len⟩
def b9.unwish(I:b9 (X.wish E) aa σ H s):b9 X aa σ H s:=⟨I.ok.unwish,I.os,I.bare,I.base,I.loc,I.cell,I.free,I.freeC,I.pin,I.hok,I.len⟩
def SP.unwish{D:KH}{f:Flow}{s':Ad}(h:SP (X.wish E) aa D f s'):SP X aa D f s':=by
 cases f with
 |next=>obtain⟨a,H',I,q⟩:=h;exact⟨a,H',I.unwish,q⟩
 |brk=>obtain⟨a,H',I,q⟩:=h;exact⟨a,H',I.unwish,q⟩
 |cont=>obtain⟨a,H',I,q⟩:=h;exact⟨a,H',I.unwish,q⟩
 |ret u=>obtain⟨v,a,H',I,r,q⟩:=h;exact⟨v,a,H',I.unwish,r,q⟩
def W1.nox{st:List Sj}{t:TS}(h:W1 X.nox st t):W1 X st t:=λaa s σ H D I hw=>
 Co (h aa s σ H D (I.wish _) hw) (λ_ _ q=>q.unwish) λ_ _ z=>Fd z
end
section
variable{X:Cx}{st:Sj}{rest:List Sj}{t u:TS}{e:Sf}{te:TE}{pos:Pos}
def eU:TS:=λD σ H=>D.nx σ H
def tSeq(t u:TS):TS:=λD σ H=>t {D with nx:=u D} σ H
def BX:W1 X [] eU:=λ_ _ σ H _ I h=>Hl ⟨σ,H,I,h⟩
def SW(h1:PS X st t)(h2:W1 X rest u):W1 X (st::rest) (tSeq t u):=by
 intro aa s σ H D I h;refine wpAny_execs_cons (ZP (h1 aa s σ H {D with nx:=u D} I h) λf s1 q=>?_);cases f with
 |next=>
  obtain⟨a,H',b,q⟩:=q;exact h2 aa s1 a H' D b q
 |ret v=>exact q
 |brk=>exact q
 |cont=>exact q
def Zs(h1:PS X st t):W1 X [st] t:=by
 intro aa s σ H D I h;refine wpAny_execs_cons (ZP (h1 aa s σ H D I h) λf s1 q=>?_);cases f with
 |next=>exact Hl q
 |ret v=>exact q
 |brk=>exact q
 |cont=>exact q
def b9.quiet{aa:List (Sa×Sk)}{σ:St}{H:Hp}{s:Ad}(I:b9 X aa σ H s):interactive X.env=bb:=by simp[interactive,I.ok.kind]
def kr(te:TE):TS:=λD σ H=>te σ H λ_ H1=>D.nx σ H1
def M8(b:PE X e te)(a:Fu e b5 pos.line X.env=pure bb:=by rfl):PS X (.Expr e pos) (kr te):=by intro aa s σ H D I h;exact wpAny_Expr_any (ZP (b aa s σ H _ I h) λv s1 ⟨x,H1,c,d,q1⟩=>⟨σ,H1,c,q1⟩) I.quiet a
def tRet(te:TE):TS:=λD σ H=>te σ H D.rt
def Wv(b:PE X e te):PS X (.Return (b3 e) pos) (tRet te):=by intro aa s σ H D I h;exact wpAny_Return_some (ZP (b aa s σ H _ I h) λv s1 ⟨x,H1,c,a,q1⟩=>⟨x,σ,H1,c,a,q1⟩)
def tIfS(c:TT)(t u:TS):TS:=λD σ H=>c σ H λb H1=>if b=ba then t D σ H1 else u D σ H1
def Tq{c:Sf}{a b:List Sj}{tc:TT}(hc:PT X c tc)(g:W1 X a t)(f:W1 X b u):PS X (.If c a b pos) (tIfS tc t u):=by
 intro aa s σ H D I h;refine wpAny_If (ZP (hc aa s σ H _ I h) λd s1 ⟨H1,e,q1⟩=>?_);cases d with
 |true=>exact g aa s1 σ H1 D e q1
 |false=>exact f aa s1 σ H1 D e q1
def jT:TS:=λ_ _ _=>False
def Zd{a:List Sj}:W1 X a jT:=λ_ _ _ _ _ _ h=>h.elim
end
abbrev TG:=V->St->Hp->(St->Hp->Prop)->Prop
abbrev TGs:=List V->St->Hp->(St->Hp->Prop)->Prop
def PG(X:Cx)(b:Sf)(t:TG):Prop:=
 ∀(aa:List (Sa×Sk)) (s:Ad) (σ:St) (H:Hp) (v:V) (u:Rz) (Q:St->Hp->Prop),b9 X aa σ H s->bA v u->t v σ H Q->
  Sd (Se X.prog X.w) X.A (assign b X.env u) (λ_ s'=>∃a H',b9 X aa a H' s'/\Q a H') X.xe s
def AO(X:Cx)(b:List Sf)(t:TGs):Prop:=
 ∀(aa:List (Sa×Sk)) (s:Ad) (σ:St) (H:Hp) (vs:List V) (us:List Rz) (Q:St->Hp->Prop),b9 X aa σ H s->bI vs us->t vs σ H Q->
  Sd (Se X.prog X.w) X.A (assignInOrder ((Sh b X.env).map (·.2)) us) (λ_ s'=>∃a H',b9 X aa a H' s'/\Q a H') X.xe s
abbrev TSet:=V->V->V->Hp->(Hp->Prop)->Prop
def PSet(X:Cx)(t:TSet):Prop:=
 ∀(aa:List (Sa×Sk)) (s:Ad) (σ:St) (H:Hp) (o i v:V) (a b u:Rz) (Q:Hp->Prop),b9 X aa σ H s->bA o a->bA i b->bA v u->t o i v H Q->
  Sd (Se X.prog X.w) X.A (Mp a b u) (λ_ s'=>∃H',b9 X aa σ H' s'/\Q H') X.xe s
section
variable{X:Cx}{pos:Pos}
def Wi(i:Nat):TG:=λv σ H Q=>Q (σ.set i (b3 v)) H
def BV{i:Nat}{x:Sb}(c:X.N.Nodup)(hi:X.N[i]?=b3 x)(a:Loc X.env.scope x)(b:X.fn x=ba∨X.env.scope.names.lookup x=b3 .local:=by first|exact .inl rfl|exact .inr rfl|assumption):PG X (.Name x pos) (Wi i):=by intro aa s σ H v u Q I r h;exact Ke (WJ I c hi a r (λs' d=>⟨_,H,d,h⟩) b)
def gNil:TGs:=λvs σ H Q=>vs=[]/\Q σ H
def Xp(t:TG)(u:TGs):TGs:=λvs σ H Q=>∃v r,vs=v::r/\t v σ H λa H'=>u r a H' Q
def BW:AO X [] gNil:=by intro aa s σ H vs us Q I r h;obtain⟨e,h⟩:=h;subst e;cases r;exact Kf ⟨σ,H,I,h⟩
def MC{e:Sf}{es:List Sf}{t:TG}{u:TGs}(h1:PG X e t)(h2:AO X es u)(c:(Sh (e::es) X.env).map (·.2)=assign e X.env::(Sh es X.env).map (·.2):=by rfl):AO X (e::es) (Xp t u):=by
 intro aa s σ H vs us Q I r h;obtain⟨v,g,d,h⟩:=h;subst d;cases r with
 |cons r b=>
  rw[c];refine Gi (ZP (h1 aa s σ H _ _ _ I r h) λ_ s1 ⟨a,H1,f,q1⟩=>?_);exact h2 aa s1 a H1 _ _ Q f b q1
def gTup(K:Ag)(n:Nat)(t:TGs):TG:=λv σ H Q=>∃a xs,v=.ref a/\UO K H a xs/\xs.length=n/\t xs σ H Q
def Uq{es:List Sf}{k:Nat}{t:TGs}{n:Nat}(hc:X.calm=ba)(h:AO X es t)(j:(Sh es X.env).length=n:=by rfl)(c:(Sh es X.env).findIdx? (·.1)=b5:=by rfl):PG X (.Tuple es k pos) (gTup X.K n t):=by intro aa s σ H v u Q I r hw;obtain⟨a,xs,l,i,hl,hw⟩:=hw;subst l;cases r;obtain⟨its,d,g,hz⟩:=I.tuple i;refine assign_Tuple_tuple (I.ok.hd hc) g (by simp[j,<-hl,d.length]) c λh' f=>?_;have m:b9 X aa σ H {s with heap:=h'}:=I.kept (t':=s.toks) λb o e=>f b o (Bl (As e)) e;exact h aa _ σ H xs _ Q m (by simpa using d) hw
def gSub(to a:TE)(t:TSet):TG:=λv σ H Q=>to σ H λo H1=>a σ H1 λi H2=>t o i v H2 λb=>Q σ b
def DV{o i:Sf}{to c:TE}{t:TSet}(g:PE X o to)(hi:PE X i c)(f:PSet X t)(j:∀v,assign (.Subscript o i pos) X.env v=(do
   let a<-Gv [v] (eval o X.env)
   let b<-Gv [v,a] (eval i X.env)
   Lk pos
   Gv [v,a,b] (Mp a b v)
   release [v,a,b] []):=by intro _;rfl):PG X (.Subscript o i pos) (gSub to c t):=by
 intro aa s σ H v u Q I r h;rw[j];refine Ac (Cc (ZP (g aa s σ H _ I h) λa s1 ⟨x,H1,m,e,q1⟩=>?_));refine Ac (Cc (ZP (hi aa s1 σ H1 _ m q1) λb s2 ⟨y,H2,l,d,q2⟩=>?_));refine Ac (Hm (Ac (Cc (ZP (f aa s2 σ H2 x y v a b u _ l e d r q2) λ_ p ⟨n,k,q3⟩=>?_))));exact wpAny_release ⟨σ,n,k,q3⟩
def tAsg(te:TE)(g:TG):TS:=λD σ H=>te σ H λx H1=>g x σ H1 D.nx
def OS{tg e:Sf}{te:TE}{g:TG}(d:PE X e te)(c:PG X tg g)(b:Ff [tg] e pos.line X.env=pure bb:=by rfl)(hw:Fg [tg] e X.env=pure b5:=by rfl)(h1:(Sh [tg] X.env).map (·.2)=[assign tg X.env]:=by rfl):PS X (.Assign [tg] e pos) (tAsg te g):=by intro aa s σ H D I h;refine wpAny_Assign_stores (ZP (d aa s σ H _ I h) λv s1 ⟨x,H1,f,a,q1⟩=>?_) b hw;rw[h1];exact ZP (c aa s1 σ H1 x v _ f a q1) λ_ s2 q=>q
def gP{i:Nat}{x:Sb}{e:Sf}{te:TE}{ag:Pos}(g:X.N.Nodup)(hi:X.N[i]?=b3 x)(b:Loc X.env.scope x)(f:PE X e te)(c:Fu e (b3 (.Name x ag)) pos.line X.env=pure bb:=by rfl)(d:X.fn x=ba∨X.env.scope.names.lookup x=b3 .local:=by first|exact .inl rfl|exact .inr rfl|assumption):PS X (.Assign [.Name x ag] e pos) (tAsg te (Wi i)):=by intro aa s σ H D I h;refine wpAny_Assign_Name (ZP (f aa s σ H _ I h) λv s1 ⟨y,H1,k,a,q1⟩=>?_) c;exact WJ k g hi b a (λs2 j=>⟨_,H1,j,q1⟩) d
def tPar(i j:Nat)(ta:TA):TS:=λD σ H=>ta σ H λvs H1=>∃v w,vs=[v,w]/\D.nx ((σ.set i (b3 v)).set j (b3 w)) H1
def kU{i j:Nat}{x y:Sb}{a b:Sf}{ta:TA}{k g pt:Pos}{kt k2 pt2}(hc:X.calm=ba)(t:X.N.Nodup)(hi:X.N[i]?=b3 x)(F:X.N[j]?=b3 y)(m:i≠j)(r:X.env.scope.names.lookup x=b3 .local)(n:X.env.scope.names.lookup y=b3 .local)(G:PA X [a,b] ta)(hw:Fg [.Tuple [.Name x k,.Name y g] kt pt] (.Tuple [a,b] k2 pt2) X.env=pure (b3 [x,y]))(E:Ff [.Tuple [.Name x k,.Name y g] kt pt] (.Tuple [a,b] k2 pt2) pos.line X.env=pure bb:=by rfl):PS X (.Assign [.Tuple [.Name x k,.Name y g] kt pt] (.Tuple [a,b] k2 pt2) pos) (tPar i j ta):=by
 intro aa s σ H D I h;rw[exec_Assign_arm];refine Ac (Hm ?_);rw[E];refine Ac (Aq ?_);rw[if_neg (by decide)];refine Ac (Tuple_ (ZP (G _ aa s σ H _ I h) λus s1 ⟨vs,H1,O,B,q1⟩=>?_));obtain⟨v,w,J,q1⟩:=q1;subst J;obtain⟨d,c,rfl,z,f⟩:∃d c,us=[d,c]/\bA v d/\bA w c:=by
  cases B with
  |cons p q=>
   cases q with
   |cons p' C=>
    cases C;exact⟨_,_,rfl,p,p'⟩
 refine Dv ?_ (by show 2<=sizeLine;decide);have M:b9 X aa σ H1 {s1 with heap:=s1.heap.push {cls:=.type "tuple",data:=.seq [d,c].toArray}}:=O.kept (t':=s1.toks) λb o e=>Ae _ e;rw[hw];refine Ac (Aq ?_);show Sd (Se X.prog X.w) X.A (do rule "assign.swapped-stores";let items<-Km (.ref s1.heap.objs.size) 2 b5;assignInOrder [λv=>Pw X.env y v,λv=>Pw X.env x v] items.reverse;pure Flow.next) _ _ _;refine Ac (Mc (Ac (unpackItems_tuple (items:= #[d,c]) (I.ok.hd hc) (Kg s1.heap _) λh' l=>?_)));have L:=M.kept (h':=h') (t':=s1.toks) λb o e=>l b o (Bl (As e)) e;show Sd _ _ (assignInOrder [λv=>Pw X.env y v,λv=>Pw X.env x v] [c,d]>>=λ_=>pure Flow.next) _ _ _;refine Ac (Gi (wpAny_bindName (WJ L t F (.inl n) f (λs2 K=>?_) (.inr n))));refine Gi (wpAny_bindName (WJ K t hi (.inl r) z (λP u=>Kf (Aq ?_)) (.inr r)));rw[Qz _ _ (Dl m)]at u;exact⟨_,H1,u,q1⟩
end
section
variable{X:Cx}{pos:Pos}
def jd(c:TT)(tb:TS):TS:=λD σ H=>∃W:Nat->St->Hp->Prop,(∃m,W m σ H)/\∀m σ H,W m σ H->
 c σ H λb H1=>if b=ba then∃N:St->Hp->Prop,(∀a H',N a H'->∃d,d<m/\W d a H')/\tb {D with nx:=N,ct:=N,bk:=D.nx} σ H1 else D.nx σ H1
def Zc{c:Sf}{body:List Sj}{tc:TT}{tb:TS}(o:Qc (Se X.prog X.w) X.A X.env X.xe)(hc:PT X c tc)(u:W1 X body tb):PS X (.While c body [] pos) (jd tc tb):=by
 intro aa s σ H D I h;obtain⟨W,⟨m0,t⟩,turn⟩:=h;refine wpAny_While (codeAny_whileLoop (λn s'=>∃e H',b9 X aa e H' s'/\W n e H') ?_ m0 ⟨σ,H,I,t⟩);rintro n s1 ⟨d,H1,x,r⟩;refine Fv o (ZP (hc aa s1 d H1 _ x (turn n d H1 r)) λb s2 ⟨H2,q,q2⟩=>?_);cases b with
 |true=>
  obtain⟨N,p,q2⟩:=q2;rw[if_pos rfl];refine Fv o (ZP (u aa s2 d H2 _ q q2) λf y q3=>?_);cases f with
  |next=>
   obtain⟨a,g,m,j⟩:=q3;obtain⟨k,l,i⟩:=p a g j;exact⟨k,l,a,g,m,i⟩
  |cont=>
   obtain⟨a,g,m,j⟩:=q3;obtain⟨k,l,i⟩:=p a g j;exact⟨k,l,a,g,m,i⟩
  |brk=>exact q3
  |ret v=>exact q3
 |false=>
  rw[if_neg Ea];exact Hl ⟨d,H2,q,q2⟩
end
structure It where
 go:Nat->Hp->Prop
 yld:Nat->Hp->V->Hp->Prop
 stop:Nat->Hp->Prop
def KI(X:Cx)(aa:List (Sa×Sk))(H:Hp)(b:Sa):Prop:=
 H b=b5/\b≠X.env.locals/\b∉X.fs/\(b∈X.ex∨X.s₀.heap.objs.size<=b)/\(∀x c,X.env.cells.lookup x=b3 c->c≠b)/\∀p∈X.pn++aa,p.1≠b
def b9.fpOk{X:Cx}{aa:List (Sa×Sk)}{σ:St}{H H':Hp}{s:Ad}{b:Sa}(I:b9 X aa σ H s)(a:s.heap.objs.size<=b)(f:H' b=b5):KI X aa H' b:=by
 refine⟨f,Hg (Bb I.lt a),I.nofs a,.inr (Ei I.sz a),λx c e z=>?_,λp d z=>?_⟩
 ·obtain⟨v,q⟩:=I.cell x c e
  exact absurd (Bb q.lt (by rw[z];exact a)) (Db _)
 ·exact absurd (Bb (As (I.pin p d).1) (by rw[z];exact a)) (Db _)
structure CV(P:Az)(w:Sg)(K:Ag)(tg:Sf)(J:It)(fp:List Sa)(it:Sa)(tn:Nat->Si->Prop):Prop where
 mem:it∈fp
 obj:∀i h,tn i h->∀b∈fp,∃o,h.get? b=b3 o/\∀v,o.data≠ .cell v
 keep:∀i h h',tn i h->(∀b∈fp,∀o,h.get? b=b3 o->h'.get? b=b3 o)->tn i h'
 item:∀(X:Cx),X.prog=P->X.w=w->X.K=K->X.calm=ba->∀(i:Nat) (aa:List (Sa×Sk)) (s:Ad) (σ:St) (H:Hp) (E:Rz->Ad->Prop),b9 X aa σ H s->(∀b∈fp,KI X aa H b)->tn i s.heap->J.go i H->
  Sd (Se P w) X.A (pyNext (.ref it)) (λr s1=>∃u,r=b3 u∧
   Sd (Se P w) X.A (Iy tg (.ref it) u) (λ_ s2=>∃x H',b9 X aa σ H' s2/\bA x u/\J.yld i H x H'/\tn (i+1) s2.heap/\∀b∈fp,H' b=b5) E s1) E s
 done:∀(X:Cx),X.prog=P->X.w=w->X.K=K->X.calm=ba->∀(i:Nat) (aa:List (Sa×Sk)) (s:Ad) (σ:St) (H:Hp) (E:Rz->Ad->Prop),b9 X aa σ H s->(∀b∈fp,KI X aa H b)->tn i s.heap->J.stop i H->
  Sd (Se P w) X.A (pyNext (.ref it)) (λr s1=>r=b5/\b9 X aa σ H s1) E s
 self:∀(A:Cb) (i:Nat) (s:Ad) (Q:Rz->Ad->Prop) (E:Rz->Ad->Prop),tn i s.heap->Q (.ref it) s->Sd (Se P w) A (pyIter (.ref it)) Q E s
abbrev TI:=St->Hp->(It->Hp->Prop)->Prop
def PIE(X:Cx)(aa:List (Sa×Sk))(σ:St)(tg:Sf)(R:It->Hp->Prop)(a:Rz)(s2:Ad):Prop:=
 ∃(it:Sa) (fp:List Sa) (c:Nat->Si->Prop) (J:It) (H':Hp),a=.ref it/\b9 X aa σ H' s2/\CV X.prog X.w X.K tg J fp it c/\c 0 s2.heap/\(∀b∈fp,KI X aa H' b)/\R J H'
def PI(X:Cx)(tg iter:Sf)(a:TI):Prop:=
 ∀(aa:List (Sa×Sk)) (s:Ad) (σ:St) (H:Hp) (R:It->Hp->Prop),b9 X aa σ H s->a σ H R->
  Sd (Se X.prog X.w) X.A (eval iter X.env) (λv s1=>Sd (Se X.prog X.w) X.A (pyIter v) (PIE X aa σ tg R) X.xe s1) X.xe s
def Tn{M:Ss}{A:Cb}{E:Rz->Ad->Prop}{s:Ad}{tg:Sf}{it:Sa}{u:Rz}{o:Sk}{n:String}{vs:Array Rz}{Q:Unit->Ad->Prop}(b:s.heap.get? it=b3 o)(hc:o.cls= .type n)(hd:o.data= .fields vs)(c:["enumerate","zip","dict_itemiterator","dict_reverseitemiterator","odict_iterator","itertools.zip_longest","itertools.pairwise"].contains n=bb)(a:Q () s):Sd M A (Iy tg (.ref it) u) Q E s:=by
  unfold Iy;cases tg<;>first
    |exact Aq a
    |(cases u<;>first
        |exact Aq a
        | (refine Ac (wpAny_load b ?_)
           rw[hc,hd];show Sd M A (if(["enumerate","zip","dict_itemiterator","dict_reverseitemiterator","odict_iterator","itertools.zip_longest","itertools.pairwise"].contains n&&vs[0]? ==b3 (rawInt _))=ba then _ else _) Q E s;rw[if_neg (by intro h;rw[c,Bool.false_and]at h;cases h)];exact Aq a))
def Itl(K:Ag)(a:Sa):It:=
 ⟨λi H=>∃xs x,XV K H a xs/\xs[i]?=b3 x,λi H x H'=>H'=H/\∀xs,XV K H a xs->xs[i]?=b3 x,λi H=>∃xs,XV K H a xs/\xs.length<=i⟩
def Itt(K:Ag)(a:Sa):It:=
 ⟨λi H=>∃xs x,UO K H a xs/\xs[i]?=b3 x,λi H x H'=>H'=H/\∀xs,UO K H a xs->xs[i]?=b3 x,λi H=>∃xs,UO K H a xs/\xs.length<=i⟩
def Itr(lo:Int)(n:Nat):It:=⟨λi _=>i<n,λi H x H'=>H'=H/\x=.int (lo+i),λi _=>n<=i⟩
def AA{P:Az}{w:Sg}{K:Ag}{tg:Sf}(a it:Sa):CV P w K tg (Itl K a) [it] it (λi h=>h.IsListIter it a i) where
 mem:=by simp
 obj:=λi h st b f=>by
  have e:b=it:=by simpa using f
  subst e;obtain⟨o,e,c,d⟩:=st;exact⟨o,e,λv z=>by rw[d]at z;cases z⟩
 keep:=λi h h' st k=>st.at λo e=>k it (by simp) o e
 item:=by intro X r hw t hc i aa s σ H E I l st q;subst r hw t;obtain⟨xs,x,j,n⟩:=q;obtain⟨its,m,p,hz⟩:=I.list j;obtain⟨u,G,D⟩:=m.get n;obtain⟨B,f1,f2,f3,A,y⟩:=l it (by simp);refine Lc st p.isList (x:=u) (by simpa using G) λh' g C=>?_;have L:b9 X aa σ H {s with heap:=h'}:=I.turned (t':=s.toks) (λb o f e=>(C.2 b f).trans e) B f1 f3 A y;obtain⟨o,e,c,d⟩:=id g;exact⟨u,rfl,Tn (s:={s with heap:=h'}) e c d (by decide) ⟨x,H,L,D,⟨rfl,λys F=>by rw[I.list_inj F j];exact n⟩,g,λb f=>(l b f).1⟩⟩
 done:=by intro X r hw t hc i aa s σ H E I l st q;subst r hw t;obtain⟨xs,j,n⟩:=q;obtain⟨its,m,p,hz⟩:=I.list j;obtain⟨B,f1,f2,f3,A,y⟩:=l it (by simp);have hl:=m.length;exact Ll (I.ok.hd hc) st p.isList (by simp;lia) λh' J=>⟨rfl,I.turned (t':=s.toks) (λb o f e=>J b o f e) B f1 f3 A y⟩
 self:=λ_ _ _ _ _ st h=>wpAny_pyIter_listiter st h
def ED{P:Az}{w:Sg}{K:Ag}{tg:Sf}(a it:Sa):CV P w K tg (Itt K a) [it] it (λi h=>h.IsTupleIter it a i) where
 mem:=by simp
 obj:=λi h st b f=>by
  have e:b=it:=by simpa using f
  subst e;obtain⟨o,e,c,d⟩:=st;exact⟨o,e,λv z=>by rw[d]at z;cases z⟩
 keep:=λi h h' st k=>st.at λo e=>k it (by simp) o e
 item:=by intro X r hw t hc i aa s σ H E I l st q;subst r hw t;obtain⟨xs,x,j,n⟩:=q;obtain⟨its,m,p,hz⟩:=I.tuple j;obtain⟨u,G,D⟩:=m.get n;obtain⟨B,f1,f2,f3,A,y⟩:=l it (by simp);refine wpAny_pyNext_tuple_item st (show s.heap.IsTuple a its.toArray from p) (x:=u) (by simpa using G) λh' g C=>?_;have L:b9 X aa σ H {s with heap:=h'}:=I.turned (t':=s.toks) (λb o f e=>(C.2 b f).trans e) B f1 f3 A y;obtain⟨o,e,c,d⟩:=id g;exact⟨u,rfl,Tn (s:={s with heap:=h'}) e c d (by decide) ⟨x,H,L,D,⟨rfl,λys F=>by rw[I.tuple_inj F j];exact n⟩,g,λb f=>(l b f).1⟩⟩
 done:=by intro X r hw t hc i aa s σ H E I l st q;subst r hw t;obtain⟨xs,j,n⟩:=q;obtain⟨its,m,p,hz⟩:=I.tuple j;obtain⟨B,f1,f2,f3,A,y⟩:=l it (by simp);have hl:=m.length;exact wpAny_pyNext_tuple_end (I.ok.hd hc) st (show s.heap.IsTuple a its.toArray from p) (by simp;lia) λh' J=>⟨rfl,I.turned (t':=s.toks) (λb o f e=>J b o f e) B f1 f3 A y⟩
 self:=λ_ _ _ _ _ st h=>wpAny_pyIter_tupleiter st h
def EC{P:Az}{w:Sg}{K:Pa}{tg:Sf}(it:Sa)(lo:Int)(n:Nat):CV P w K tg (Itr lo n) [it] it (λi h=>IsRangeIter h it (lo+(i:Nat)*1) ((n:Int)-(i:Nat)) 1) where
 mem:=by simp
 obj:=λi h st b a=>by
  have e:b=it:=by simpa using a
  subst e;exact⟨_,st,λv z=>by have z':Data.fields _=Data.cell v:=z;cases z'⟩
 keep:=λi h h' st k=>k it (by simp) _ st
 item:=by intro X g hw j hc i aa s σ H E I d st f;subst g hw j;obtain⟨p,f1,f2,f3,m,l⟩:=d it (by simp);have W:=Walks.range (prog:=X.prog) (w:=X.w) (I.ok.hd hc) it lo 1 n;refine W.item i s _ _ f st λv h' tk q c kk=>?_;obtain⟨t,rfl⟩:=q;have u:b9 X aa σ H {s with heap:=h',toks:=tk}:=I.turned (λb o a e=>kk b o (by simpa using a) e) p f1 f3 m l;refine⟨_,rfl,Tn (s:={s with heap:=h',toks:=tk}) (n:= "range_iterator") c rfl rfl (by decide) ⟨.int (lo+i),H,u,⟨t,?_⟩,⟨rfl,rfl⟩,c,λb a=>(d b a).1⟩⟩;rw[Int.mul_one]
 done:=by intro X g hw j hc i aa s σ H E I d st f;subst g hw j;obtain⟨p,f1,f2,f3,m,l⟩:=d it (by simp);exact wpAny_pyNext_range_end (I.ok.hd hc) st (by have:n<=i:=f;lia) λh' r=>⟨rfl,I.turned (t':=s.toks) (λb o a e=>r b o a e) p f1 f3 m l⟩
 self:=λ_ _ _ _ _ st h=>wpAny_pyIter_rangeiter st h
section
variable{X:Cx}{tg:Sf}
def Xe(K:Ag)(tl:TE):TI:=λσ H R=>tl σ H λx H1=>∃a,x=.ref a/\(∃xs,XV K H1 a xs)/\R (Itl K a) H1
def iTup(K:Ag)(tl:TE):TI:=λσ H R=>tl σ H λx H1=>∃a,x=.ref a/\(∃xs,UO K H1 a xs)/\R (Itt K a) H1
def Zb{l:Sf}{tl:TE}(hl:PE X l tl):PI X tg l (Xe X.K tl):=by
 intro aa s σ H R I h;refine ZP (hl aa s σ H _ I h) λv s1 ⟨x,H1,c,d,q1⟩=>?_;obtain⟨a,e,⟨xs,f⟩,q⟩:=q1;subst e;cases d;obtain⟨its,i,p,hz⟩:=c.list f;refine Gr p.isList ?_;refine⟨s1.heap.objs.size,[s1.heap.objs.size],_,_,H1,rfl,c.kept (t':=s1.toks) λb o e=>Ae _ e,AA a _,⟨_,Aw _ rfl,rfl,rfl⟩,λb g=>?_,q⟩;have e:b=s1.heap.objs.size:=by simpa using g
 subst e;exact c.fpOk (Ax _) (c.hok.fresh (Ax _))
def eD{l:Sf}{tl:TE}(hl:PE X l tl):PI X tg l (iTup X.K tl):=by
 intro aa s σ H R I h;refine ZP (hl aa s σ H _ I h) λv s1 ⟨x,H1,c,d,q1⟩=>?_;obtain⟨a,e,⟨xs,f⟩,q⟩:=q1;subst e;cases d;obtain⟨its,i,p,hz⟩:=c.tuple f;refine Hn (show s1.heap.IsTuple a its.toArray from p) ?_;refine⟨s1.heap.objs.size,[s1.heap.objs.size],_,_,H1,rfl,c.kept (t':=s1.toks) λb o e=>Ae _ e,ED a _,⟨_,Aw _ rfl,rfl,rfl⟩,λb g=>?_,q⟩;have e:b=s1.heap.objs.size:=by simpa using g
 subst e;exact c.fpOk (Ax _) (c.hok.fresh (Ax _))
def Xy{aa:List (Sa×Sk)}{σ:St}{H:Hp}{s:Ad}{R:It->Hp->Prop}{E:Rz->Ad->Prop}{lo hi:Int}{t u v:Su}{tk:Nat}(I:b9 X aa σ H s)(h1: -(2 ^ 62)<=lo)(h2:lo<2 ^ 62)(f: -(2 ^ 62)<=hi)(d:hi<2 ^ 62)(q:R (Itr lo (hi-lo).toNat) H):Sd (Se X.prog X.w) X.A (pyIter (.ref s.heap.objs.size)) (PIE X aa σ tg R) E {s with heap:=s.heap.push {cls:=.type "range",data:=.fields #[.int lo t,.int hi u,.int 1 v]},toks:=tk}:=by
 refine wpAny_pyIter_range (Ru ..) (small_one h1 h2 f d) ?_;have a:b9 X aa σ H {s with heap:=s.heap.push {cls:=.type "range",data:=.fields #[.int lo t,.int hi u,.int 1 v]},toks:=tk}:=I.kept λb o e=>Ae _ e;refine⟨(s.heap.push {cls:=.type "range",data:=.fields #[.int lo t,.int hi u,.int 1 v]}).objs.size,[(s.heap.push {cls:=.type "range",data:=.fields #[.int lo t,.int hi u,.int 1 v]}).objs.size],_,_,H,rfl,a.kept (t':=tk) λb o e=>Ae _ e,EC _ lo (hi-lo).toNat,?_,λb c=>?_,q⟩
 ·have h : lo + ((0 : Nat) : Int) * 1 = lo := by simp
  have g:(((hi-lo).toNat:Nat):Int)-((0:Nat):Int)=Gb lo hi 1:=by rw[rangeSize_one];split<;>lia
  show IsRangeIter _ _ (lo+((0:Nat):Int)*1) ((((hi-lo).toNat:Nat):Int)-((0:Nat):Int)) 1;rw[h,g];exact Aw _ rfl
 ·have e : b = (s.heap.push { cls := .type "range",data := .fields #[.int lo t,.int hi u,.int 1 v] }).objs.size := by simpa using c
  subst e;exact a.fpOk (Ax _) (a.hok.fresh (Ax _))
def Yu(ta:TA):TI:=λσ H R=>ta σ H λvs H1=>∃j:Int,vs=[.int j]/\ -(2 ^ 62)<=j/\j<2 ^ 62/\R (Itr 0 j.toNat) H1
def l7{a:Sf}{ta:TA}{p pos:Pos}(g:Gl X "range")(f:X.mg "range"=b5)(i:PA X [a] ta)(d:Ap [a] X.env=[(bb,eval a X.env)]:=by rfl):PI X tg (.Call (.Name "range" p) [a] [] pos) (Yu ta):=by
 intro aa s σ H R I h;refine Call_ (OK I g f boot_range (Ew (ZP (i pos aa s σ H _ I h) λus s1 ⟨vs,H1,k,c,q1⟩=>?_) d rfl));obtain⟨j,e,q1,q2,q⟩:=q1;subst e;cases c with
 |cons r b=>
  cases b;obtain⟨t,rfl⟩:=r;exact call_range_1 (Xy k (by lia) (by lia) q1 q2 (by simpa using q))
def tFor(d:TI)(g:TG)(tb:TS):TS:=λD σ H=>d σ H λJ H1=>∃W:Nat->Nat->St->Hp->Prop,(∃m,W 0 m σ H1)/\∀i m σ H,W i m σ H->
 (J.stop i H/\D.nx σ H)∨(J.go i H/\∃N:St->Hp->Prop,(∀a H',N a H'->∃c,c<m/\W (i+1) c a H')/\∀x H',J.yld i H x H'->g x σ H' λb H2=>tb {D with nx:=N,ct:=N,bk:=D.nx} b H2)
def MD(fp:List Sa)(h:Si):List (Sa×Sk):=fp.filterMap λb=>(h.get? b).map λo=>(b,o)
def UE{fp:List Sa}{h:Si}{b:Sa}{o:Sk}(a:b∈fp)(e:h.get? b=b3 o):(b,o)∈MD fp h:=Ju.mpr ⟨b,a,by rw[e];rfl⟩
def Xu{fp:List Sa}{h:Si}{p:Sa×Sk}(a:p∈MD fp h):p.1∈fp/\h.get? p.1=b3 p.2:=by
 obtain⟨b,c,e⟩:=Ju.mp a;cases q:h.get? b with
 |none=>rw[q]at e;cases e
 |some o=>
  rw[q]at e;have d:(b,o)=p:=Bx e;subst d;exact⟨c,q⟩
def b9.pinned{aa:List (Sa×Sk)}{σ:St}{H:Hp}{s:Ad}{fp:List Sa}(I:b9 X aa σ H s)(h:∀b∈fp,KI X aa H b)(g:∀b∈fp,∃o,s.heap.get? b=b3 o/\∀v,o.data≠ .cell v):b9 X (aa++MD fp s.heap) σ H s:=
 I.pins_of λp f=>(Ci.mp f).elim (λz=>I.pin p (Bt _ z)) λz=>by obtain⟨a,e⟩:=Xu z;obtain⟨i,f1,f2,_⟩:=h p.1 a;obtain⟨o,c,d⟩:=g p.1 a;rw[e]at c;cases c;exact⟨e,i,f1,f2,d⟩
def b9.unpinned{aa pl:List (Sa×Sk)}{σ:St}{H:Hp}{s:Ad}(I:b9 X (aa++pl) σ H s):b9 X aa σ H s:=I.pins_of λp a=>I.pin p (Bt _ (Bo _ a))
def lX{iter:Sf}{body:List Sj}{Q:TI}{g:TG}{tb:TS}{pos:Pos}(C:Qc (Se X.prog X.w) X.A X.env X.xe)(hc:X.calm=ba)(hi:PI X tg iter Q)(hg:PG X tg g)(k:W1 X body tb)(hs:∀x,foldedSetIterable iter X.env x=pure x:=by intro _;rfl):PS X (.For tg iter body [] pos) (tFor Q g tb):=by
 intro aa s σ H D I h;refine wpAny_For (ZP (hi aa s σ H _ I h) λv s1 h1=>ZP h1 λitv s2 h2=>?_) hs;obtain⟨it,fp,R,J,H2,e,I2,T,K,f2,W,⟨m0,w0⟩,turn⟩:=h2;subst e;have stat:∀{H':Hp},(∀b∈fp,H' b=b5)->∀b∈fp,KI X aa H' b:=λhn b k=>⟨hn b k,(f2 b k).2⟩;refine codeAny_forLoop_any (λn s'=>∃i j H',b9 X aa j H' s'/\R i s'.heap/\(∀b∈fp,H' b=b5)/\W i n j H') ?_ m0 ⟨0,σ,H2,I2,K,λb k=>(f2 b k).1,w0⟩;rintro n U ⟨i,c,F,V,z,E,w3⟩;rcases turn i n c F w3 with⟨y,qn⟩|⟨go,N,hN,step⟩
 ·refine Fv C (ZP (T.done X rfl rfl rfl hc i aa U c F X.xe V (stat E) z y) λr s4 ⟨M,I4⟩ => ?_)
  subst M;exact Hl ⟨c,F,I4,qn⟩
 ·refine Fv C (ZP (T.item X rfl rfl rfl hc i aa U c F X.xe V (stat E) z go) λr s4 ⟨u,M,h4⟩ => ?_)
  subst M;refine Fv C (ZP h4 λ_ S ⟨x,Y,I5,r5,Z,t,O⟩=>?_);have P:=I5.pinned (stat O) (T.obj _ _ t);refine Fv C (ZP (hg _ S c Y x u _ P r5 (step x Y Z)) λ_ s6 ⟨G,H6,I6,q6⟩=>?_);refine Fv C (ZP (k _ s6 G H6 _ I6 q6) λf L q=>?_);have X1:∀{a:St}{p:Hp},b9 X (aa++MD fp S.heap) a p L->N a p->∃m,m<n/\∃i j H',b9 X aa j H' L/\R i L.heap/\(∀b∈fp,H' b=b5)/\W i m j H':=λ{a p} l B=>by obtain⟨m',hm,w7⟩:=hN a p B;refine⟨m',hm,i+1,a,p,l.unpinned,T.keep _ _ _ t λb k o e=>(l.pin (b,o) (Bt _ (Bt _ (UE k e)))).1,λb k=>?_,w7⟩;obtain⟨o,e,d⟩:=T.obj _ _ t b k;exact(l.pin (b,o) (Bt _ (Bt _ (UE k e)))).2.1
  cases f with
  |next=>obtain⟨a,p,l,B⟩:=q;exact X1 l B
  |cont=>obtain⟨a,p,l,B⟩:=q;exact X1 l B
  |brk=>obtain⟨a,p,l,q⟩:=q;exact⟨a,p,l.unpinned,q⟩
  |ret v=>obtain⟨x7,a,p,l,r7,q⟩:=q;exact⟨x7,a,p,l.unpinned,r7,q⟩
end
abbrev R2:=V->V->Hp->VK->Prop
def WV(X:Cx)(f:Rz->Rz->Sr Rz)(r:R2):Prop:=
 ∀(aa:List (Sa×Sk)) (s:Ad) (σ:St) (H:Hp) (x y:V) (v u:Rz) (Q:VK),b9 X aa σ H s->bA x v->bA y u->r x y H Q->
  Sd (Se X.prog X.w) X.A (f v u) (EP X aa σ Q) X.xe s
def UnR(X:Cx)(f:Rz->Sr Rz)(r:V->Hp->VK->Prop):Prop:=
 ∀(aa:List (Sa×Sk)) (s:Ad) (σ:St) (H:Hp) (x:V) (v:Rz) (Q:VK),b9 X aa σ H s->bA x v->r x H Q->
  Sd (Se X.prog X.w) X.A (f v) (EP X aa σ Q) X.xe s
def aF(X:Cx)(f:Rz)(r:List V->Hp->VK->Prop):Prop:=
 ∀(aa:List (Sa×Sk)) (s:Ad) (σ:St) (H:Hp) (xs:List V) (us:List Rz) (Q:VK),b9 X aa σ H s->bI xs us->r xs H Q->
  Sd (Se X.prog X.w) X.A (call f us) (EP X aa σ Q) X.xe s
def tOp(r:R2)(ta tb:TE):TE:=λσ H Q=>ta σ H λx H1=>tb σ H1 λy H2=>r x y H2 Q
def tUn(r:V->Hp->VK->Prop)(ta:TE):TE:=λσ H Q=>ta σ H λx H1=>r x H1 Q
def rI(C:Int->Int->Prop)(g:Int->Int->V):R2:=λx y H Q=>∃i j,x=.int i/\y=.int j/\C i j/\Q (g i j) H
def DZ(g:Int->Int->V):R2:=λx y H Q=>∃i j,x=.int i/\y=.int j/\Q (g i j) H
def rU(g:Int->V):V->Hp->VK->Prop:=λx H Q=>∃i,x=.int i/\Q (g i) H
section
variable{X:Cx}{a b c:Sf}{ta tb tc:TE}{pos:Pos}
def binT(k:PE X a ta)(j:PE X b tb){aa:List (Sa×Sk)}{s:Ad}{σ:St}{H:Hp}{R:V->V->Hp->Prop}(I:b9 X aa σ H s)(h:ta σ H λx H1=>tb σ H1 λy H2=>R x y H2){Q:Rz->Ad->Prop}{f:Rz->Rz->Sr Rz}(i:∀v u s2 x y H2,b9 X aa σ H2 s2->bA x v->bA y u->R x y H2->Sd (Se X.prog X.w) X.A (f v u) Q X.xe s2):Sd (Se X.prog X.w) X.A (eval a X.env) (λv d=>Sd (Se X.prog X.w) X.A (eval b X.env) (λu c=>Sd (Se X.prog X.w) X.A (f v u) Q X.xe c) X.xe d) X.xe s:=by refine ZP (k aa s σ H _ I h) λv s1 ⟨x,H1,m,g,q1⟩=>?_;refine ZP (j aa s1 σ H1 _ m q1) λu s2 ⟨y,H2,l,e,q2⟩=>?_;exact i v u s2 x y H2 l g e q2
def Vv{op:Operator}{r:R2}(e:WV X (Fh op) r)(g:PE X a ta)(f:PE X b tb):PE X (.BinOp a op b pos) (tOp r ta tb):=by intro aa s σ H Q I h;exact wpAny_BinOp (binT g f I h λv u s2 x y H2 i d c q=>e aa s2 σ H2 x y v u Q i d c q)
def nG{op:UnaryOp}{r:V->Hp->VK->Prop}(c:UnR X (unaryOp op) r)(d:PE X a ta):PE X (.UnaryOp op a pos) (tUn r ta):=by intro aa s σ H Q I h;exact UnaryOp_ (ZP (d aa s σ H _ I h) λv s1 ⟨x,H1,e,b,q1⟩=>c aa s1 σ H1 x v Q e b q1)
def opI{f:Rz->Rz->Sr Rz}{C:Int->Int->Prop}{g:Int->Int->Int}(rule:∀(i j:Int) (t u:Su) (s:Ad) (Q:Rz->Ad->Prop) (E:Rz->Ad->Prop),C i j->Q (.int (g i j) s.toks) {s with toks:=s.toks+1}->Sd (Se X.prog X.w) X.A (f (.int i t) (.int j u)) Q E s):WV X f (rI C λi j=>.int (g i j)):=by intro aa s σ H x y v u Q I b a h;obtain⟨i,j,rfl,rfl,hc,q⟩:=h;obtain⟨t,rfl⟩:=b;obtain⟨t',rfl⟩:=a;exact rule i j t t' s _ _ hc ⟨.int (g i j),H,I.tok _,⟨_,rfl⟩,q⟩
def opI0{f:Rz->Rz->Sr Rz}{g:Int->Int->Int}(rule:∀(i j:Int) (t u:Su) (s:Ad) (Q:Rz->Ad->Prop) (E:Rz->Ad->Prop),Q (.int (g i j) s.toks) {s with toks:=s.toks+1}->Sd (Se X.prog X.w) X.A (f (.int i t) (.int j u)) Q E s):WV X f (DZ λi j=>.int (g i j)):=by intro aa s σ H x y v u Q I b a h;obtain⟨i,j,rfl,rfl,q⟩:=h;obtain⟨t,rfl⟩:=b;obtain⟨t',rfl⟩:=a;exact rule i j t t' s _ _ ⟨.int (g i j),H,I.tok _,⟨_,rfl⟩,q⟩
def opB0{f:Rz->Rz->Sr Rz}{g:Int->Int->Bool}(rule:∀(i j:Int) (t u:Su) (s:Ad) (Q:Rz->Ad->Prop) (E:Rz->Ad->Prop),Q (.bool (g i j)) s->Sd (Se X.prog X.w) X.A (f (.int i t) (.int j u)) Q E s):WV X f (DZ λi j=>.bl (g i j)):=by intro aa s σ H x y v u Q I b a h;obtain⟨i,j,rfl,rfl,q⟩:=h;obtain⟨t,rfl⟩:=b;obtain⟨t',rfl⟩:=a;exact rule i j t t' s _ _ ⟨.bl (g i j),H,I,rfl,q⟩
def CDiv(i j:Int):Prop:=0<j/\j<1073741824
def CPow(i j:Int):Prop:=0<=j/\j<=1000000/\i.natAbs<2 ^ 64
def CMul(i j:Int):Prop:=(-(2 ^ 64)<i/\i<2 ^ 64)∨(-(2 ^ 64)<j/\j<2 ^ 64)
def CMul.ok{i j:Int}(h:CMul i j):IntMulOk i j:=by
 rcases h with⟨h1,h2⟩|⟨h1,h2⟩
 ·exact .of_left (intBits_le_64 h1 h2)
 ·exact .of_right (intBits_le_64 h1 h2)
def zKW:WV X (Fh .Add) (DZ λi j=>.int (i+j)):=opI0 λ_ _ _ _ _ _ _ q=>add_int q
def X6:WV X (Fh .Sub) (DZ λi j=>.int (i-j)):=opI0 λ_ _ _ _ _ _ _ q=>sub_int q
def hU:WV X (Fh .Mult) (rI CMul λi j=>.int (i*j)):=opI λ_ _ _ _ _ _ _ hc q=>mul_int q hc.ok
def PQ:WV X (Fh .FloorDiv) (rI CDiv λi j=>.int (i/j)):=opI λi j _ _ _ _ _ hc q=>by have h1:(0:Int)<j:=hc.1;have h2:j<1073741824:=hc.2;exact floordiv_int (by lia) (by rw[Int.fdiv_eq_ediv_of_nonneg i (by lia)];exact q) (.inl (Ld (by lia)))
def VC:WV X (Fh .Mod) (rI (λ_ j=>0<j) λi j=>.int (i % j)):=opI λi j _ _ _ _ _ hc q=>by have h1:(0:Int)<j:=hc;exact mod_int' (by lia) (by rw[Int.fmod_eq_emod_of_nonneg i (by lia)];exact q)
def mV:WV X (Fh .Pow) (rI CPow λi j=>.int (i ^ j.toNat)):=opI λ_ _ _ _ _ _ _ hc q=>pow_int_small hc.1 hc.2.1 hc.2.2 q
def unI{f:Rz->Sr Rz}{g:Int->Int}(rule:∀(i:Int) (t:Su) (s:Ad) (Q:Rz->Ad->Prop) (E:Rz->Ad->Prop),Q (.int (g i) s.toks) {s with toks:=s.toks+1}->Sd (Se X.prog X.w) X.A (f (.int i t)) Q E s):UnR X f (rU λi=>.int (g i)):=by intro aa s σ H x v Q I a h;obtain⟨i,rfl,q⟩:=h;obtain⟨t,rfl⟩:=a;exact rule i t s _ _ ⟨.int (g i),H,I.tok _,⟨_,rfl⟩,q⟩
def Xs:UnR X (unaryOp .USub) (rU λi=>.int (-i)):=unI λ_ _ _ _ _ q=>neg_int q
end
section
variable{X:Cx}{a b c:Sf}{ta tb tc:TE}{pos:Pos}
def HF{aa:List (Sa×Sk)}{σ:St}{H:Hp}{s:Ad}{Q:VK}{k k':Bool}(I:b9 X aa σ H s)(q:Q (.bl k) H)(e:k=k'):EP X aa σ Q (.bool k') s:=by subst e;exact⟨.bl k,H,I,rfl,q⟩
def Te:WV X (Cu .Lt) (DZ λi j=>.bl (decide (i<j))):=opB0 λ_ _ _ _ _ _ _ q=>lt_int q
def BQ:WV X (Cu .LtE) (DZ λi j=>.bl (decide (i<=j))):=opB0 λ_ _ _ _ _ _ _ q=>le_int q
def Q4:WV X (Cu .Gt) (DZ λi j=>.bl (decide (j<i))):=opB0 λ_ _ _ _ _ _ _ q=>gt_int q
def Vx:WV X (Cu .GtE) (DZ λi j=>.bl (decide (j<=i))):=opB0 λ_ _ _ _ _ _ _ q=>ge_int q
def SU:WV X (Cu .Is) (λx y H Q=>y=.non/\Q (.bl (decide (x=.non))) H):=by
 intro aa s σ H x y v u Q I a b h;obtain⟨rfl,q⟩:=h;cases b;refine is_none_gen (HF I q ?_);cases x<;>first
  |(cases a;rfl)
  |(obtain⟨t,rfl⟩:=a;rfl)
def RM:WV X (Cu .IsNot) (λx y H Q=>y=.non/\Q (.bl (!decide (x=.non))) H):=by
 intro aa s σ H x y v u Q I a b h;obtain⟨rfl,q⟩:=h;cases b;refine isnot_none_gen (HF I q ?_);cases x<;>first
  |(cases a;rfl)
  |(obtain⟨t,rfl⟩:=a;rfl)
def WV.or{f:Rz->Rz->Sr Rz}{r r':R2}(h:WV X f r)(h':WV X f r'):WV X f (λx y H Q=>r x y H Q∨r' x y H Q):=by
 intro aa s σ H x y v u Q I b a q;rcases q with q|q
 ·exact h aa s σ H x y v u Q I b a q
 ·exact h' aa s σ H x y v u Q I b a q
def HV(b:Sf){op:CmpOp}(h:op≠ .In:=by decide)(h2:op≠ .NotIn:=by decide):Ho op b=bb:=by
 have c:(op==CmpOp.In)=bb:=by cases op<;>first|rfl|exact absurd rfl h
 have a:(op==CmpOp.NotIn)=bb:=by cases op<;>first|rfl|exact absurd rfl h2
 cases b<;>simp[Ho,c,a]
def Yk{op:CmpOp}{r:R2}(e:WV X (Cu op) r)(i:PE X a ta)(g:PE X b tb)(f:Ho op b=bb):PE X (.Compare a [op] [b] pos) (tOp r ta tb):=by intro aa s σ H Q I h;exact wpAny_Compare1 (binT i g I h λv u s2 x y H2 j d c q=>e aa s2 σ H2 x y v u Q j d c q) f
def Vc(t:TE):TT:=λσ H Q=>t σ H λx H'=>∃k,x=.bl k/\Q k H'
def k8{op:CmpOp}{r:R2}(i:WV X (Cu op) r)(m:PE X a ta)(l:PE X b tb)(j:Ho op b=bb):PT X (.Compare a [op] [b] pos) (Vc (tOp r ta tb)):=by
 intro aa s σ H Q I h;refine wpAny_isTrue_Compare1 (ZP (m aa s σ H _ I h) λv s1 ⟨x,H1,p,g,q1⟩=>ZP (l aa s1 σ H1 _ p q1) λu s2 ⟨y,H2,o,f,q2⟩=>
  ZP (i aa s2 σ H2 x y v u _ o g f q2) λc t ⟨z,q,n,d,k,e,q3⟩=>?_) j
 subst e;cases d;exact Et ⟨q,n,q3⟩
def EB(r r':R2)(ta tb tc:TE):TE:=λσ H Q=>ta σ H λx H1=>tb σ H1 λy H2=>r x y H2 λz a=>∃k,z=.bl k∧
 (if k=ba then tc σ a λw' b=>r' y w' b Q else Q (.bl bb) a)
def cV{op f:CmpOp}{r r':R2}(w:WV X (Cu op) r)(g:WV X (Cu f) r')(C:PE X a ta)(B:PE X b tb)(hc:PE X c tc)(A:Qd [op,f] [b,c]=bb:=by with_unfolding_all rfl):PE X (.Compare a [op,f] [b,c] pos) (EB r r' ta tb tc):=by
 intro aa s σ H Q I h;refine Compare_chain (ZP (C aa s σ H _ I h) λv s1 ⟨x,H1,F,q,q1⟩=>chain_link (ZP (B aa s1 σ H1 _ F q1) λu s2 ⟨y,H2,E,i,q2⟩=>
  ZP (w aa s2 σ H2 x y v u _ E q i q2) λd n ⟨z,l,j,p,k,e,q3⟩=>?_)) A
 subst e;cases p;refine Et ?_;cases k with
 |false=>exact ite_ff ⟨.bl bb,l,j,rfl,q3⟩
 |true=>exact ite_tt (chain_last (ZP (hc aa n σ l _ j q3) λw' m ⟨z',G,D,o,t⟩=>g aa m σ G y z' u w' Q D i o t))
def kf{op f:CmpOp}{r r':R2}(C:WV X (Cu op) r)(g:WV X (Cu f) r')(F:PE X a ta)(E:PE X b tb)(hc:PE X c tc)(D:Qd [op,f] [b,c]=bb:=by with_unfolding_all rfl):PT X (.Compare a [op,f] [b,c] pos) (Vc (EB r r' ta tb tc)):=by
 intro aa s σ H Q I h;refine isTrue_chain (ZP (F aa s σ H _ I h) λv s1 ⟨x,H1,N,t,q1⟩=>test_link (ZP (E aa s1 σ H1 _ N q1) λu s2 ⟨y,H2,M,i,q2⟩=>
  ZP (C aa s2 σ H2 x y v u _ M t i q2) λd n ⟨z,l,j,q,k,e,q3⟩=>?_)) D
 subst e;cases q;refine Et ?_;cases k with
 |false=>
  obtain⟨k',J,B⟩:=q3;cases J;exact ite_ff ⟨l,j,B⟩
 |true=>
  refine ite_tt (test_last (ZP (hc aa n σ l _ j q3) λw' m ⟨z',P,L,p,A⟩=>ZP (g aa m σ P y z' u w' _ L i p A) λd' S ⟨R,O,K,o,k2,G,w⟩=>?_));subst G;cases o;exact Et ⟨O,K,w⟩
def QN:(sizeLine:Nat)<2 ^ 63:=by rw[Ce];decide
def DS:WV X (Fh .Add) (λx y H Q=>∃i j,x=.str i/\y=.str j/\i.length+j.length<=sizeLine/\Q (.str (i++j)) H):=by intro aa s σ H x y v u Q I b a h;obtain⟨i,j,rfl,rfl,hz,q⟩:=h;obtain⟨t,rfl⟩:=b;obtain⟨t',rfl⟩:=a;exact add_str (λt' tk=>⟨.str (i++j),H,I.tok _,⟨_,rfl⟩,q⟩) hz
def Q7{x:V}{us:List Rz}(r:bI [x] us):∃u,us=[u]/\bA x u:=by
 cases r with
 |cons b a=>cases a;exact⟨_,rfl,b⟩
def GC{x y:V}{us:List Rz}(r:bI [x,y] us):∃u w',us=[u,w']/\bA x u/\bA y w':=by
 cases r with
 |cons d c=>
  cases c with
  |cons b a=>cases a;exact⟨_,_,rfl,d,b⟩
def JD(hc:X.calm=ba):aF X (.builtin "max") (λxs H Q=>∃i j,xs=[.int i,.int j]/\Q (.int (if j>i then j else i)) H):=by
 intro aa s σ H xs us Q I r h;obtain⟨i,j,rfl,q⟩:=h;obtain⟨u,w',rfl,⟨t,rfl⟩,⟨t',rfl⟩⟩:=GC r;refine max_two_ints (I.ok.hd hc) λh' tk k=>⟨_,H,I.kept k,?_,q⟩;by_cases a:j>i
 ·rw[if_pos a,if_pos a];exact⟨_,rfl⟩
 ·rw[if_neg a,if_neg a];exact⟨_,rfl⟩
def N7(hc:X.calm=ba):aF X (.builtin "min") (λxs H Q=>∃i j,xs=[.int i,.int j]/\Q (.int (if j<i then j else i)) H):=by
 intro aa s σ H xs us Q I r h;obtain⟨i,j,rfl,q⟩:=h;obtain⟨u,w',rfl,⟨t,rfl⟩,⟨t',rfl⟩⟩:=GC r;refine min_two_ints (I.ok.hd hc) λh' tk k=>⟨_,H,I.kept k,?_,q⟩;by_cases a:j<i
 ·rw[if_pos a,if_pos a];exact⟨_,rfl⟩
 ·rw[if_neg a,if_neg a];exact⟨_,rfl⟩
end
structure EM(h:Si)(x dx C:Sa)(mA:Sb->Option Rz):Prop where
 obj:h.get? x=b3 (Ig C dx)
 ns:h.Ns1 dx mA
 ne:dx≠x
def eB{h:Si}{dx:Sa}{mA:Sb->Option Rz}(n:h.Ns1 dx mA):∃od,h.get? dx=b3 od/\∀name,Ra name od=b3 (mA name):=by
 obtain⟨o,es,i,c,hd,hk,_,d⟩:=n;refine⟨o,c,λname=>?_⟩;have e:=d name;unfold nsFind findBy at e;rw[<-Array.find?_toList]at e;unfold Ra;rw[hd];dsimp only;split
 ·rename_i y q
  rw[q]at e;exact congrArg b3 e
 ·rename_i q
  rw[q]at e;have a:es.toList.any (·.refKey)=bb:=by rw[List.any_eq_false];intro y b;obtain⟨z,t,f⟩:=hk y (Array.mem_toList_iff.mp b);simp[DictEntry.refKey,f]
  have g:¬es.toList.any (·.refKey)=ba:=by rw[a];exact Ea
  rw[if_neg g];exact congrArg b3 e
def EM.look{h:Si}{x dx C:Sa}{mA:Sb->Option Rz}(I:EM h x dx C mA):∃od,W.InstAt h x (Ig C dx) C (b3 od)/\∀name,Ra name od=b3 (mA name):=
 let ⟨od,a,hl⟩:=eB I.ns
 ⟨od,⟨I.obj,rfl,rfl,a⟩,hl⟩
section
variable{prog:Az}{w:Sg}{A:Cb}{E:Rz->Ad->Prop}{s:Ad}{K:Ag}{x dx C f:Sa}{mA:Sb->Option Rz}{name:Sb}{v:Rz}
def iA{b:Bool}{Q:Rz->Ad->Prop}(X:K.In s.heap)(I:EM s.heap x dx C mA)(e:Oa K C name=ba)(d:Qe K C=ba)(f:Gs K (.ref C) name=b3 b5)(c:mA name=b3 v)(a:W.handedIn v=ba)(h:Q v {s with toks:=s.toks+1}):Sd (Se prog w) A (getAttr (.ref x) name b) Q E s:=by obtain⟨od,J,hl⟩:=I.look;exact W.get_value X J (Nc e).1 (W.findObj_own d f rfl (by rw[hl,c])) a h
def gH{pl:Sr Bool}{Q:Rz×List Rz->Ad->Prop}(X:K.In s.heap)(I:EM s.heap x dx C mA)(a:Oa K C name=ba)(d:Gs K (.ref C) name=b3 (b3 (.ref f)))(c:W.isFn K (.ref f)=ba)(b:mA name=b5)(h:Q (.ref f,[.ref x]) s):Sd (Se prog w) A (Nd (.ref x) name pl) Q E s:=by obtain⟨od,J,hl⟩:=I.look;exact W.method_fn X J (Nc a).1 (Nc a).2 d (beq_iff_eq.mp c) (by show(Ra name od).map (·.isSome)=b3 bb;rw[hl,b];rfl) h
def l9{ns:List Sb}{Q:Unit->Ad->Prop}(X:K.In s.heap)(I:EM s.heap x dx C mA)(l:Gs K (.ref C) "__setattr__"=b3 (b3 (.builtin "object.__setattr__")))(m:W.plainOver K C=ba)(k:Rn K C name=b3 b5)(n:Qe K C=ba)(hw:Jt mA ns)(hsz:ns.length<=sizeLine)(h:∀h',EM h' x dx C (λy=>if y=name then b3 v else mA y)->Er dx s.heap h'->Q () {s with heap:=h',toks:=s.toks+2}):Sd (Se prog w) A (setAttr (.ref x) name v) Q E s:=by obtain⟨od,J,hl⟩:=I.look;refine W.set_plain X J l (W.osa_open (s:={s with toks:=s.toks+1}) (r:=b5) X J m k λb=>?_);obtain⟨cd,hc,g⟩:=W.any_some n;have j:s.heap.get? x=b3 ⟨.ref C,b3 dx,.plain,#[]⟩:=I.obj;refine Ac (Aq (Ac (Ac (Ml j (Ac (W.Looks.here (s:={s with toks:=s.toks+1}) (W.looks_clsIn X hc) ?_))))));rw[g];refine Aq (a:=b3 dx) (Ac (Aq (Ac ?_)));refine wpAny_nsSet1 (s:={s with toks:=s.toks+1}) I.ns λh' d c=>?_;obtain⟨oD,o,p,e,f,i⟩:=d.count (PySem.Within.cons name v hw);refine Ac (wpAny_lookBehind e (by rw[f];exact pastItsLine_dict (Ei i (by rw[Cg];lia))) ?_);exact Aq (h _ ⟨(c.2 _ (Dl I.ne)).trans I.obj,d,I.ne⟩ c)
def dD{R:Result->Ad->Prop}{vs:List Rz}{b:List (Sb×Rz)}(X:K.In s.heap)(c:Lm K C=ba)(hi:Gs K (.ref C) "__init__"=b3 (b3 (.ref f)))(e:W.typeIn K (.ref f)=b3 (.type "function"))(h:Ij (Se prog w) (A.under (.builtin "type.__call__" ⟨.ref C::vs,b⟩)) (.call (.ref f) ⟨.ref (s.heap.objs.size+1)::vs,b⟩) (W.InitBack (s.heap.objs.size+1) R) {s with heap:=(s.heap.push Gm).push (Ig C s.heap.objs.size)}):Ij (Se prog w) A (.call (.ref C) ⟨vs,b⟩) R s:=by obtain⟨i,g,d,t,os⟩:=s;exact W.make_core (W.makes_of X c) (W.looks_findIn X hi) (λa=>W.bind_fn X a e) (.inl rfl) h
end
noncomputable def UJ(f:Sb)(v:V):List (Sb×V)->List (Sb×V)
 |[]=>[(f,v)]
 |(g,x)::r=>if g=f then(g,v)::r else(g,x)::UJ f v r
theorem NR(f g:Sb)(v:V):∀fs:List (Sb×V),(UJ f v fs).lookup g=if g=f then b3 v else fs.lookup g
 | [] => by
  show Fk g [(f,v)]=_;by_cases h:g=f
  ·have a:(g==f)=ba:=beq_iff_eq.mpr h
   simp only[Fk,a,if_pos h]
  ·have a:(g==f)=bb:=beq_eq_false_iff_ne.mpr h
   simp only[Fk,a,if_neg h]
 | (k,x) :: r => by
  have b:=NR f g v r;rw[show UJ f v ((k,x)::r)=(if k=f then(k,v)::r else(k,x)::UJ f v r) from rfl];by_cases hk:k=f
  ·rw[if_pos hk]
   by_cases h:g=k
   ·have a:(g==k)=ba:=beq_iff_eq.mpr h
    simp only[Fk,a,if_pos (h.trans hk)]
   ·have a:(g==k)=bb:=beq_eq_false_iff_ne.mpr h
    simp only[Fk,a,if_neg (λe:g=f=>h (e.trans hk.symm))]
  ·rw[if_neg hk]
   by_cases h:g=k
   ·have a:(g==k)=ba:=beq_iff_eq.mpr h
    simp only[Fk,a,if_neg (λe:g=f=>hk (h.symm.trans e))]
   ·have a:(g==k)=bb:=beq_eq_false_iff_ne.mpr h
    simp only[Fk,a];exact b
theorem OJ(f:Sb)(v:V):∀fs:List (Sb×V),f∈(UJ f v fs).map (·.1)/\∀g,g∈fs.map (·.1)->g∈(UJ f v fs).map (·.1)
 |[]=>⟨by simp[UJ],λg h=>by simp at h⟩
 | (k,x) :: r => by
  obtain⟨b,a⟩:=OJ f v r;rw[show UJ f v ((k,x)::r)=(if k=f then(k,v)::r else(k,x)::UJ f v r) from rfl];by_cases hk:k=f
  ·rw[if_pos hk]
   subst hk;exact⟨by simp,λg h=>by simpa using h⟩
  ·rw[if_neg hk]
   refine⟨?_,λg h=>?_⟩
   ·rw[Be]
    exact At _ b
   ·rw[Be]at h⊢
    rcases Ar.mp h with e|e
    ·exact Ar.mpr (.inl e)
    ·exact At _ (a g e)
theorem NQ(f:Sb)(v:V):∀fs:List (Sb×V),(UJ f v fs).length<=fs.length+1
 |[]=>by simp[UJ]
 |(k,x)::r=>by
  have a:=NQ f v r;rw[show UJ f v ((k,x)::r)=(if k=f then(k,v)::r else(k,x)::UJ f v r) from rfl];by_cases hk:k=f
  ·rw[if_pos hk,Cg,Cg];lia
  ·rw[if_neg hk,Cg,Cg];lia
def UQ.some_of{v:V}{o:Option Rz}(r:UQ (b3 v) o):∃u,o=b3 u/\bA v u:=by
 cases o with
 |none=>exact(show False from r).elim
 |some u=>exact⟨u,rfl,r⟩
def UQ.none_of{o:Option Rz}(r:UQ b5 o):o=b5:=by
 cases o with
 |none=>rfl
 |some u=>exact(show False from r).elim
def nH{v:V}{u:Rz}(r:bA v u):W.handedIn u=ba:=by
 cases v with
 |non=>cases (show u=Value.none from r);rfl
 |bl b=>cases (show u=Ge b from r);rfl
 |int i=>obtain⟨t,e⟩:=(show∃t,u=Mz i t from r);cases e;rfl
 |str x=>obtain⟨t,e⟩:=(show∃t,u=Kc x t from r);cases e;rfl
 |byt b=>obtain⟨t,e⟩:=(show∃t,u=Rt b t from r);cases e;rfl
 |flt b=>obtain⟨t,e⟩:=(show∃t,u=Pz b t from r);cases e;rfl
 |ref a=>cases (show u=Bk a from r);rfl
 |ty n=>cases (show u=Ip n from r);rfl
section
variable{P:Az}{w:Sg}{H H':Hp}{h h':Si}{a C dx:Sa}{fs fs':List (Sb×V)}
def BF(b:UN P w H h)(e:H a=b3 (.ins C dx fs)):∃mA,EM h a dx C mA/\(∀f,UQ (fs.lookup f) (mA f))/\Jt mA (fs.map (·.1))/\fs.length<=1000/\H dx=b3 (.own a):=by obtain⟨d,z,g,c,mA,n,r,q⟩:=(show aG P w H h a (.ins C dx fs) from b a _ e);exact⟨mA,⟨c,n,g⟩,r,q,z,d⟩
end
structure Cls(K:Ag)(C:Sa):Prop where
 pg:Oa K C Str.empty=ba
 hd:Qe K C=ba
 po:W.plainOver K C=ba
 sa:Gs K (.ref C) "__setattr__"=b3 (b3 (.builtin "object.__setattr__"))
def Cls.get{K:Ag}{C:Sa}(c:Cls K C)(f:Sb):Oa K C f=ba:=c.pg
def ZD(K:Ag)(C:Sa)(f:Sb):Prop:=Gs K (.ref C) f=b3 b5
def ZD.taker{K:Ag}{C:Sa}{f:Sb}(n:ZD K C f):Rn K C f=b3 b5:=by unfold Rn;rw[show Gs K (.ref C) f=b3 b5 from n];rfl
structure Meth(K:Ag)(C:Sa)(m:Sb)(f:Sa):Prop where
 at_:Gs K (.ref C) m=b3 (b3 (.ref f))
 fn:W.isFn K (.ref f)=ba
 kp:Em K (.ref f)=ba
section
variable{X:Cx}{aa:List (Sa×Sk)}{σ:St}{H:Hp}{s:Ad}{a C dx:Sa}{fs:List (Sb×V)}{f:Sb}{v:V}{A:Cb}{E:Rz->Ad->Prop}
def D9{y:V}{u:Rz}{Q:Unit->Ad->Prop}(I:b9 X aa σ H s)(e:H a=b3 (.ins C dx fs))(c:Cls X.K C)(n:ZD X.K C f)(hl:fs.length<1000)(l:bA y u)(h:∀s',b9 X aa σ (upd H a (.ins C dx (UJ f y fs))) s'->Q () s'):Sd (Se X.prog X.w) A (setAttr (.ref a) f u) Q E s:=by
 obtain⟨mA,O,r,i,_,j⟩:=BF I.hok e;have hz:(fs.map (·.1)).length<=sizeLine:=by rw[Ba,Ce];lia
 refine l9 I.kIn O c.sa c.po n.taker c.hd i hz λh' d k=>h _ ?_;have hd:∃o,h'.get? dx=b3 o:=let ⟨o,_,_,t,_⟩:=d.ns;⟨o,t⟩
 refine I.write (x:=a) (e:=dx) (by rw[e];exact True.intro) (.inr j) (λb q p z=>(k.2 b p).trans z) hd ?_;refine⟨by rw[cH O.ne];exact j,?_,O.ne,d.obj,_,d.ns,λg=>?_,λg m=>?_⟩
 ·have:=NQ f y fs;lia
 ·show UQ ((UJ f y fs).lookup g) (if g=f then b3 u else mA g)
  rw[NR];by_cases q:g=f
  ·rw[if_pos q,if_pos q];exact l
  ·rw[if_neg q,if_neg q];exact r g
 ·by_cases q:g=f
  ·rw[q];exact(OJ f y fs).1
  ·refine (OJ f y fs).2 g (i g λz => m ?_)
   show(if g=f then b3 u else mA g)=b5;rw[if_neg q];exact z
def b9.made(I:b9 X aa σ H s):b9 X aa σ (upd (upd H s.heap.objs.size (.own (s.heap.objs.size+1))) (s.heap.objs.size+1) (.ins C s.heap.objs.size [])) {s with heap:=(s.heap.push Gm).push (Ig C s.heap.objs.size)}:=by
 have d:(s.heap.push Gm).get? s.heap.objs.size=b3 Gm:=Aw s.heap rfl;have i:((s.heap.push Gm).push (Ig C s.heap.objs.size)).get? (s.heap.objs.size+1)=b3 (Ig C s.heap.objs.size):=by
  have:=Aw (s.heap.push Gm) (o:=Ig C s.heap.objs.size) rfl
  rwa[Di]at this
 have h:(s.heap.push Gm).Ns s.heap.objs.size (λ_=>b5):=⟨Gm,#[],_,d,rfl,(λe g=>absurd g (by simp)),λ_=>rfl⟩;have j:=I.laid (a:=s.heap.objs.size) (o:=.own (s.heap.objs.size+1)) (h':=s.heap.push Gm) (t':=s.toks) (λb u q=>Ae _ q) (Ax _) ⟨_,d⟩;refine j.laid (a:=s.heap.objs.size+1) (o:=.ins C s.heap.objs.size []) (t':=s.toks) (λb u q=>Ae _ q) (Nat.le_of_eq (Di _ _)) ?_;have c:s.heap.objs.size≠s.heap.objs.size+1:=Bl (Kx _);refine⟨by rw[cH c,cG],Ee _,c,i,λ_=>b5,(Heap.Ns1.of_empty h).at λo q=>Ae _ q,λ_=>True.intro,λy f=>absurd rfl f⟩
def Xq{prog:Az}{w:Sg}{env:Env}{e:Sf}{f:Sb}{pos:Pos}{s:Ad}{Q:Rz->Ad->Prop}(b:Cd e f env (eval e env)=eval e env)(h:Sd (Se prog w) A (eval e env) (λo a=>Sd (Se prog w) A (getAttr o f ba) Q E a) E s):Sd (Se prog w) A (eval (.Attribute e f pos) env) Q E s:=
 Attribute_any_ h (by rw[arm_eval_Attribute,b])
end
def sFld(K:Ag)(ta tv:TE)(f:Sb):TS:=λD σ H=>tv σ H λy H1=>ta σ H1 λx H2=>∃a C dx fs,x=.ref a/\H2 a=b3 (.ins C dx fs)/\Cls K C/\ZD K C f/\fs.length<1000∧
 D.nx σ (upd H2 a (.ins C dx (UJ f y fs)))
section
variable{X:Cx}{o e value:Sf}{f:Sb}{pos ag c7:Pos}{ta tv:TE}
def Tv(j:PE X o ta)(g:PE X value tv)(i:Fu value (b3 (.Attribute o f ag)) pos.line X.env=pure bb):PS X (.Assign [.Attribute o f ag] value pos) (sFld X.K ta tv f):=by intro aa s σ H D I h;refine plainObj_wpAny_Assign_Attribute (ZP (g aa s σ H _ I h) λu s1 ⟨y,H1,r,b,q⟩=>ZP (j aa s1 σ H1 _ r q) λe s2 ⟨x,H2,p,d,a,C,dx,fs,ex,k,c,n,l,q2⟩=>?_) i;subst ex;obtain rfl:e=Bk a:=d;exact D9 p k c n l b λt m=>⟨σ,_,m,q2⟩
end
section
variable{X:Cx}{aa:List (Sa×Sk)}{σ:St}{H:Hp}{s:Ad}{A:Cb}{E:Rz->Ad->Prop}{Q:Rz->Ad->Prop}{c:Rz}{b:Bool}
inductive NC(K:Ag)(H:Hp):V->Rz->Prop where
 |non:NC K H .non (.type "NoneType")
 |bl (x:Bool):NC K H (.bl x) (.type "bool")
 |int (i:Int):NC K H (.int i) (.type "int")
 |str (x:Sb):NC K H (.str x) (.type "str")
 |flt (x:UInt64):NC K H (.flt x) (.type "float")
 |lst {a:Sa}{xs:List V}(e:H a=b3 (.lst xs)):NC K H (.ref a) (.type "list")
 |frz {a:Sa}{o:Sk}{xs:List V}(e:H a=b3 (.frz o (.lst xs))):NC K H (.ref a) (.type "list")
 |tup {a:Sa}{xs:List V}(e:H a=b3 (.tup xs)):NC K H (.ref a) (.type "tuple")
 |dK {a:Sa}{kvs:List (aQ×V)}(e:H a=b3 (.dK kvs)):NC K H (.ref a) (.type "dict")
 |dT {a:Sa}{kvs:List (List aQ×V)}(e:H a=b3 (.dT kvs)):NC K H (.ref a) (.type "dict")
 |ins {a C dx:Sa}{fs:List (Sb×V)}(e:H a=b3 (.ins C dx fs)) (cl:Cls K C) (ha:Gs K (.ref C) "__class__"=b3 (b3 (.builtin "object.__class__")))
   (hn:W.specialIn K (.builtin "object.__class__") "__get__"=b3 (b3 (.builtin "getset_descriptor.__get__"))) (htk:W.takesIn K (.builtin "object.__class__")=b3 ba)
   (hm:W.mroIn K C (.type "object")=b3 ba):NC K H (.ref a) (.ref C)
def RK{x:V}{u t:Rz}(I:b9 X aa σ H s)(d:bA x u)(ty:NC X.K H x t)(e:Hb X.K t c=b3 b)(h:∀tk,Q (.bool b) {s with toks:=tk}):Sd (Se X.prog X.w) A (call (.builtin "isinstance") [u,c]) Q E s:=by
 cases ty with
 |non=>cases (show u=Value.none from d);exact Ex W.kitx_none I.kIn True.intro e (λz=>nomatch z) h
 |bl y=>cases (show u=Ge y from d);exact Ex W.kitx_bool I.kIn True.intro e (λz=>nomatch z) h
 |int i=>obtain⟨t,q⟩:=(show∃t,u=Mz i t from d);cases q;exact Ex W.kitx_int I.kIn True.intro e (λz=>nomatch z) h
 |str y=>obtain⟨t,q⟩:=(show∃t,u=Kc y t from d);cases q;exact Ex W.kitx_str I.kIn True.intro e (λz=>nomatch z) h
 |flt y=>obtain⟨t,q⟩:=(show∃t,u=Pz y t from d);cases q;exact Ex W.kitx_float I.kIn True.intro e (λz=>nomatch z) h
 | @lst a xs f=>
  cases (show u=Bk a from d);obtain⟨_,_,n,_,h1⟩:=(show aG X.prog X.w H s.heap a (.lst xs) from I.hok a _ f);exact Ex Mq I.kIn ⟨_,h1,rfl⟩ e (λz=>nomatch z) h
 | @frz a j xs f=>
  cases (show u=Bk a from d);obtain⟨_,_,_,n,_,h1⟩:=(show aG X.prog X.w H s.heap a (.frz j (.lst xs)) from I.hok a _ f);exact Ex Mq I.kIn ⟨_,h1,rfl⟩ e (λz=>nomatch z) h
 | @tup a xs f=>
  cases (show u=Bk a from d);obtain⟨_,_,_,p⟩:=(show aG X.prog X.w H s.heap a (.tup xs) from I.hok a _ f);obtain⟨o,h1,h2,_⟩:=p;exact Ex W.kitx_tuple I.kIn ⟨o,h1,h2⟩ e (λz=>nomatch z) h
 | @dK a kvs f=>
  cases (show u=Bk a from d);obtain⟨_,_,vs,_,p⟩:=(show aG X.prog X.w H s.heap a (.dK kvs) from I.hok a _ f);obtain⟨o,es,r,h1,h2,_⟩:=p;exact Ex W.kitx_dict I.kIn ⟨o,h1,h2.1⟩ e (λz=>nomatch z) h
 | @dT a kvs f=>
  cases (show u=Bk a from d);obtain⟨_,_,xs,_,o,es,r,h1,h2,_⟩:=(show aG X.prog X.w H s.heap a (.dT kvs) from I.hok a _ f);exact Ex W.kitx_dict I.kIn ⟨o,h1,h2.1⟩ e (λz=>nomatch z) h
 | @ins a C dx fs f cl m k g l=>
  cases (show u=Bk a from d);obtain⟨mA,O,_⟩:=BF I.hok f;obtain⟨od,J,_⟩:=O.look;exact Ex (W.kitx_own (cl.get _) cl.hd m k g l) I.kIn J e (λz=>nomatch z) h
end
structure Z4(k:Nat)(A:Cb):Prop where
 hd:A.handled=b5
 dp:A.depth+3*k+5<Jy
 un:A.units+16*k+200<cLine
def Z4.mono{j k:Nat}{A:Cb}(r:Z4 k A)(h:j<=k):Z4 j A:=⟨r.hd,by have:=r.dp;lia,by have:=r.un;lia⟩
def Z4.deeper{k:Nat}{A:Cb}(r:Z4 (k+1) A)(env:Env):Z4 k (A.deeper env):=
 ⟨r.hd,by have:=r.dp;show A.depth+1+3*k+5<_;lia,by have:=r.un;show A.units+3+16*k+200<_;lia⟩
def DI{A:Cb}{C:Sa}{us:List Rz}{a:List (Sb×Rz)}:(A.under (.builtin "type.__call__" ⟨.ref C::us,a⟩)).depth=A.depth+1:=by
 first|rfl|simp[Pb,Code.weight,Code.isCreation,Code.isGuard,Code.isCaller,Code.frames,Pc,guardIds]
def DJ{A:Cb}{C:Sa}{us:List Rz}{a:List (Sb×Rz)}:(A.under (.builtin "type.__call__" ⟨.ref C::us,a⟩)).units=A.units+1:=by
 first|rfl|simp[Pb,Code.cUnits,Code.frames,Pc]
def Z4.make{k:Nat}{A:Cb}(r:Z4 (k+1) A)(C:Sa)(us:List Rz)(a:List (Sb×Rz)):Z4 k (A.under (.builtin "type.__call__" ⟨.ref C::us,a⟩)):=
 ⟨r.hd,by have:=r.dp;rw[DI];lia,by have:=r.un;rw[DJ];lia⟩
def Z4.depth{k:Nat}{A:Cb}(r:Z4 k A):A.depth<Jy:=by have:=r.dp;lia
def Z4.units{k:Nat}{A:Cb}(r:Z4 k A):A.units+64<cLine:=by have:=r.un;lia
def KZ:TA:=λ_ H Q=>Q [] H
def J8(ta:TE)(a:TA):TA:=λσ H Q=>ta σ H λx H1=>a σ H1 λxs H2=>Q (x::xs) H2
section
variable{X:Cx}{e:Sf}{es:List Sf}{te:TE}{t:TA}{pos:Pos}
def ZX:PA X [] KZ:=λ_ _ _ _ H Q I h=>Hz ⟨[],H,I,.nil,h⟩
def bL(f:PE X e te)(d:PA X es t)(c:Ap (e::es) X.env=(bb,eval e X.env)::Ap es X.env:=by rfl):PA X (e::es) (J8 te t):=by intro pos aa s σ H Q I h;rw[c];show Sd _ _ (spliced ((bb,eval e X.env)::Ct pos (Ap es X.env))) _ _ s;refine Gj (ZP (f aa s σ H _ I h) λu s1 ⟨x,H1,i,b,q1⟩=>?_);exact ZP (d pos aa s1 σ H1 _ i q1) λus s2 ⟨xs,H2,g,a,q2⟩=>⟨x::xs,H2,g,.cons b a,q2⟩
def tTup(t:TA):TE:=λσ H Q=>t σ H λxs H1=>xs.length<=sizeLine/\∀p,H1 p=b5->Q (.ref p) (upd H1 p (.tup xs))
def tLst(t:TA):TE:=λσ H Q=>t σ H λxs H1=>xs.length<=sizeLine/\∀p,H1 p=b5->Q (.ref p) (upd H1 p (.lst xs))
def Xf{x1}(h:PA X es t):PE X (.Tuple es x1 pos) (tTup t):=by intro aa s σ H Q I c;refine wpAny_Tuple_spliced (ZP (h pos aa s σ H _ I c) λus s1 ⟨xs,H1,a,r,z,q⟩=>⟨by rw[<-r.length];exact z,?_⟩);have d:H1 s1.heap.objs.size=b5:=a.hok.fresh (Ax _);refine⟨.ref s1.heap.objs.size,upd H1 s1.heap.objs.size (.tup xs),a.laid (t':=s1.toks) (λb u e=>Ae _ e) (Ax _) ?_,rfl,q _ d⟩;exact⟨z,us,r,⟨_,Aw _ rfl,rfl,_,rfl⟩⟩
def MB(h:PA X es t):PE X (.List es pos) (tLst t):=by intro aa s σ H Q I c;refine wpAny_List_spliced (ZP (h pos aa s σ H _ I c) λus s1 ⟨xs,H1,a,r,z,q⟩=>⟨by rw[<-r.length];exact z,?_⟩);have d:H1 s1.heap.objs.size=b5:=a.hok.fresh (Ax _);refine⟨.ref s1.heap.objs.size,upd H1 s1.heap.objs.size (.lst xs),a.laid (t':=s1.toks) (λb u e=>Ae _ e) (Ax _) ?_,rfl,q _ d⟩;exact⟨z,us,0,r,Aw _ rfl⟩
end
abbrev Sp:=List V->Hp->VK->XK->Prop
abbrev CS:=List Env->Hp->Ad->XK->Rz->Ad->Prop
structure GN(P:Az)(w:Sg)(K:Ag)(mg:Sb->Option Rz)(base:Si)(A:Cb)(outer:List Env)(s:Ad)(H:Hp):Prop where
 frames:A.frames=b3 outer
 mod:Mod K mg base
 bs:∀b o,base.get? b=b3 o->s.heap.get? b=b3 o/\H b=b5
 bsz:base.objs.size<=s.heap.objs.size
 funs:s.heap.FunFrames base outer
 frf:∀b∈QW outer,H b=b5
 hok:UN P w H s.heap
 bare:Kl s.gens
def CE(outer:List Env)(P:Az)(w:Sg)(H:Hp)(s:Ad)(Q:VK)(u:Rz)(s':Ad):Prop:=
 ∃v H',s'.os=s.os/\Kl s'.gens/\Un (QW outer) [] H H' s.heap s'.heap/\UN P w H' s'.heap/\bA v u/\Q v H'
def CR(CX:CS)(outer:List Env)(P:Az)(w:Sg)(H:Hp)(s:Ad)(Q:VK)(E:XK)(r:Result)(s':Ad):Prop:=
 match r with
 |.ok (.ret u)=>CE outer P w H s Q u s'
 |.ok _=>False
 |.error e=>CX outer H s E e s'
structure YV(P:Az)(w:Sg)(K:Ag)(mg:Sb->Option Rz)(base:Si)(CX:CS)(k:Nat)(f:Sa)(fd:Ch)(ps:List Sb)(sp:Sp):Prop where
 len:∀vs H Q E,sp vs H Q E->vs.length=ps.length
 run:∀(A:Cb) (outer:List Env) (s:Ad) (H:Hp) (args:Args) (us:List Rz) (vs:List V) (Q:VK) (E:XK),Z4 k A->GN P w K mg base A outer s H->Ob s fd args (ps.zip us)->bI vs us->sp vs H Q E->
  Ij (Se P w) A (.call (.ref f) args) (CR CX outer P w H s Q E) s
def GN.make{P:Az}{w:Sg}{K:Ag}{mg:Sb->Option Rz}{base:Si}{A:Cb}{outer:List Env}{s:Ad}{H:Hp}(e:GN P w K mg base A outer s H)(C:Sa)(us:List Rz)(a:List (Sb×Rz)):GN P w K mg base (A.under (.builtin "type.__call__" ⟨.ref C::us,a⟩)) outer s H:=⟨by first|exact e.frames|(simpa[Pb,Code.envs,Pc,pushEnvs]using e.frames),e.mod,e.bs,e.bsz,e.funs,e.frf,e.hok,e.bare⟩
section
variable{X:Cx}{aa:List (Sa×Sk)}{σ:St}{H:Hp}{s s':Ad}
def b9.env0(I:b9 X aa σ H s):GN X.prog X.w X.K X.mg X.base X.A X.stack s H:=
 ⟨I.ok.frames,I.ok.mod,I.bs,Ei I.ok.bsz I.sz,I.stack,I.stkFree,I.hok,I.bare⟩
def b9.after{Q:VK}{u:Rz}(I:b9 X aa σ H s)(h:CE X.stack X.prog X.w H s Q u s'):EP X aa σ Q u s':=by obtain⟨v,H',os,a,un,e,r,q⟩:=h;obtain⟨f,g,d,t,c⟩:=s';obtain rfl:c=s.os:=os;exact⟨v,H',I.call (h':=f) (g':=g) (d':=d) (t':=t) (ch:=[]) un e a (λb z=>absurd z (by simp)),r,q⟩
end
def CG(sp:Sp)(dvs:List V)(E:XK)(t:TA):TE:=λσ H Q=>t σ H λvs H1=>sp (vs++dvs) H1 Q E
def lN(C:Sa)(sp:Sp)(dvs:List V)(E:XK)(t:TA):TE:=λσ H Q=>t σ H λvs H1=>∀x dx,H1 x=b5->H1 dx=b5->dx≠x->
 sp (.ref x::(vs++dvs)) (upd (upd H1 dx (.own x)) x (.ins C dx [])) (λv H2=>v=.non/\Q (.ref x) H2) E
def XX(K:Ag)(fd:Ch)(ps:List Sb)(ds:List Rz):Prop:=
 ∀(s:Ad) (us:List Rz),K.In s.heap->(us++ds).length=ps.length->Ob s fd ⟨us,[]⟩ (ps.zip (us++ds))
def XX.all{K:Ag}{fd:Ch}{ps:List Sb}(h:∀us:List Rz,us.length=ps.length->bindArgs fd ⟨us,[]⟩=pure (ps.zip us)):XX K fd ps []:=λs us _ hl=>by rw[Bi]at hl⊢;exact .of_eq (h us hl)
def N2(CX:CS)(X:Cx)(E:XK):Prop:=∀(aa:List (Sa×Sk)) (σ:St) (H:Hp) (s:Ad) (e:Rz) (s':Ad),b9 X aa σ H s->CX X.stack H s E e s'->X.xe e s'
section
variable{X:Cx}{CX:CS}{k:Nat}{f C:Sa}{fd:Ch}{ps:List Sb}{sp:Sp}{dvs:List V}{ds:List Rz}{E:XK}{x m:Sb}{p pos af:Pos}{e o:Sf}{es:List Sf}{ta:TE}{t:TA}
def D5{aa:List (Sa×Sk)}{σ:St}{H:Hp}{s:Ad}{Q:VK}{us:List Rz}{vs:List V}(F:YV X.prog X.w X.K X.mg X.base CX k f fd ps sp)(d:Z4 k X.A)(g:XX X.K fd ps ds)(hd:bI dvs ds)(c:N2 CX X E)(I:b9 X aa σ H s)(r:bI vs us)(h:sp (vs++dvs) H Q E):Sd (Se X.prog X.w) X.A (call (.ref f) us) (EP X aa σ Q) X.xe s:=by
 have b:bI (vs++dvs) (us++ds):=r.append hd;have hl:(us++ds).length=ps.length:=by rw[<-b.length];exact F.len _ _ _ _ h
 refine Od (Ih (F.run X.A X.stack s H ⟨us,[]⟩ (us++ds) (vs++dvs) Q E d I.env0 (g s us I.kIn hl) b h) λr s' a=>?_);cases r with
 |error e=>exact c aa σ H s e s' I a
 |ok fl=>
  cases fl with
  |ret u=>exact I.after a
  |next=>exact Fd a
  |brk=>exact Fd a
  |cont=>exact Fd a
def BU(F:YV X.prog X.w X.K X.mg X.base CX k f fd ps sp)(g:Z4 k X.A)(j:Gl X x)(i:X.mg x=b3 (.ref f))(hk:Em X.K (.ref f)=ba)(m:XX X.K fd ps ds)(hd:bI dvs ds)(d:N2 CX X E)(n:PA X (e::es) t)(b:(x==("__debug__":Sb))=bb:=by decide)(l:Ap (e::es) X.env=(bb,eval e X.env)::Ap es X.env:=by rfl)(a:(Ct pos (Ap es X.env)).any (·.1)=bb:=by rfl):PE X (.Call (.Name x p) (e::es) [] pos) (CG sp dvs E t):=by intro aa s σ H Q I h;refine Dq (UD I j i ?_ b);refine Jv (h₀:=X.base) I.ok.mod.kin hk (ZP (n pos aa s σ H _ I h) λus s1 ⟨vs,H1,c,r,q⟩=>⟨c.kIn,?_⟩) l a;exact D5 F g m hd d c r q
structure Mk(K:Ag)(C f:Sa):Prop where
 makes:Lm K C=ba
 init:Gs K (.ref C) "__init__"=b3 (b3 (.ref f))
 fn:W.isFn K (.ref f)=ba
 kp:Em K (.ref C)=ba
def dP{aa:List (Sa×Sk)}{σ:St}{H:Hp}{s:Ad}{Q:VK}{us:List Rz}{vs:List V}(M:Mk X.K C f)(F:YV X.prog X.w X.K X.mg X.base CX k f fd ps sp)(j:Z4 (k+1) X.A)(l:XX X.K fd ps ds)(hd:bI dvs ds)(i:N2 CX X E)(I:b9 X aa σ H s)(r:bI vs us)(h:∀x dx,H x=b5->H dx=b5->dx≠x->sp (.ref x::(vs++dvs)) (upd (upd H dx (.own x)) x (.ins C dx [])) (λv H2=>v=.non/\Q (.ref x) H2) E):Sd (Se X.prog X.w) X.A (call (.ref C) us) (EP X aa σ Q) X.xe s:=by
 have d:=h (s.heap.objs.size+1) s.heap.objs.size (I.hok.fresh (Hd _)) (I.hok.fresh (Ax _)) (Bl (Kx _));have b:=b9.made (C:=C) I;have c:bI (V.ref (s.heap.objs.size+1)::(vs++dvs)) (Bk (s.heap.objs.size+1)::(us++ds)):=.cons rfl (r.append hd);have hl:(Bk (s.heap.objs.size+1)::us++ds).length=ps.length:=by have e:=c.length;rw[F.len _ _ _ _ d]at e;exact e.symm
 refine Od (dD (f:=f) I.kIn M.makes M.init (beq_iff_eq.mp M.fn) (Ih (F.run _ X.stack _ _ ⟨Bk (s.heap.objs.size+1)::us,[]⟩ (Bk (s.heap.objs.size+1)::(us++ds)) _ _ E (j.make C us [])
  (b.env0.make C us []) (l _ (Bk (s.heap.objs.size+1)::us) b.kIn hl) c d) λr s' a=>?_))
 cases r with
 |error e=>exact i aa σ _ _ e s' b a
 |ok fl=>
  cases fl with
  |ret u=>
   obtain⟨v,H',n,g,m,q3⟩:=b.after a;subst m;exact⟨g,⟨V.ref (s.heap.objs.size+1),H',n,rfl,q3⟩⟩
  |next=>exact Fd a
  |brk=>exact Fd a
  |cont=>exact Fd a
def mC(M:Mk X.K C f)(F:YV X.prog X.w X.K X.mg X.base CX k f fd ps sp)(c:Z4 (k+1) X.A)(e:Gl X x)(d:X.mg x=b3 (.ref C))(g:XX X.K fd ps ds)(hd:bI dvs ds)(b:N2 CX X E)(a:(x==("__debug__":Sb))=bb:=by decide):PE X (.Call (.Name x p) [] [] pos) (lN C sp dvs E KZ):=by intro aa s σ H Q I h;refine Dq (UD I e d ?_ a);exact W.callWith_K0 I.kIn M.kp (dP (us:=[]) M F c g hd b I .nil h)
end
structure aA(N P:List Sb)(sc:Sq):Prop where
 kind:sc.kind=.function
 co:sc.isCoroutine=bb
 gen:sc.isGenerator=bb
 nd:N.Nodup
 pre:N.take P.length=P
 par:∀x∈P,sc.names.lookup x=b3 .local∨sc.names.lookup x=b3 .cell
 nofree:∀y∈sc.names,y.2≠ .free
theorem JA{kindOf:Sb->Option So}{x:Sb}:∀{binds:List (Sb×Rz)}{m:Sb->Option Rz},(∀v,(x,v)∉binds)->bindL kindOf binds m x=m x
 |[],_,_=>rfl
 | (n,v) :: r,m,h => by
  unfold bindL;rw[JA λw hw=>h w (At _ hw)];split
  ·have : x ≠ n := by rintro rfl;exact h v Bj
   simp[this]
  ·rfl
theorem IW{kindOf:Sb->Option So}{x:Sb}:∀{binds:List (Sb×Rz)}{m:Sb->Option Rz},(∀v,(x,v)∉binds)->bindC kindOf binds m x=m x
 |[],_,_=>rfl
 | (n,v) :: r,m,h => by
  unfold bindC;rw[IW λw hw=>h w (At _ hw)];split
  ·rfl
  ·have : x ≠ n := by rintro rfl;exact h v Bj
   simp[this]
theorem IZ{kindOf:Sb->Option So}{x:Sb}{v:Rz}:∀{P:List Sb}{vs:List Rz}{i:Nat}{m:Sb->Option Rz},P.Nodup->P[i]?=b3 x->vs[i]?=b3 v->kindOf x=b3 .local->bindL kindOf (P.zip vs) m x=b3 v
 |[],_,_,_,_,h,_,_=>by simp at h
 |_::_,[],_,_,_,_,h,_=>by simp at h
 |p::P,w::vs,0,m,a,h1,h2,hk=>by simp at h1 h2;subst h1;subst h2;show bindL kindOf ((p,w)::P.zip vs) m p=_;unfold bindL;rw[JA λv b=>(Cj.mp a).1 (Iz b).1,if_pos hk];simp
 |p::P,w::vs,i+1,m,a,h1,h2,hk=>by show bindL kindOf ((p,w)::P.zip vs) m x=_;unfold bindL;exact IZ (i:=i) (Cj.mp a).2 (by simpa using h1) (by simpa using h2) hk
theorem IV{kindOf:Sb->Option So}{x:Sb}{v:Rz}:∀{P:List Sb}{vs:List Rz}{i:Nat}{m:Sb->Option Rz},P.Nodup->P[i]?=b3 x->vs[i]?=b3 v->kindOf x≠b3 .local->bindC kindOf (P.zip vs) m x=b3 v
 |[],_,_,_,_,h,_,_=>by simp at h
 |_::_,[],_,_,_,_,h,_=>by simp at h
 |p::P,w::vs,0,m,a,h1,h2,hk=>by simp at h1 h2;subst h1;subst h2;show bindC kindOf ((p,w)::P.zip vs) m p=_;unfold bindC;rw[IW λv b=>(Cj.mp a).1 (Iz b).1,if_neg hk];simp
 |p::P,w::vs,i+1,m,a,h1,h2,hk=>by show bindC kindOf ((p,w)::P.zip vs) m x=_;unfold bindC;exact IV (i:=i) (Cj.mp a).2 (by simpa using h1) (by simpa using h2) hk
def start(N:List Sb)(vs:List V):St:=vs.map b3++Aj (N.length-vs.length) b5
noncomputable def TK(CX:CS)(P:Az)(w:Sg)(K:Ag)(mg:Sb->Option Rz)(base:Si)(N:List Sb)(qual:Sb)(scope:Sq)(f:Sa)(cd:Rz)(A:Cb)(outer:List Env)(s:Ad)(H:Hp)(E:XK):Cx where
 prog:=P
 w:=w
 K:=K
 mg:=mg
 base:=base
 A:=A.deeper (envOfC qual scope s.heap.objs.size f cd)
 N:=N
 s₀:=s
 H₀:=H
 env:=envOfC qual scope s.heap.objs.size f cd
 outer:=outer
 stack:=envOfC qual scope s.heap.objs.size f cd::outer
 ex:=[]
 calm:=ba
 fn:=λ_=>ba
 pn:=[]
 xe:=λe s'=>Sd (Se P w) (A.deeper (envOfC qual scope s.heap.objs.size f cd)) (leaving (envOfC qual scope s.heap.objs.size f cd) e) (λ_ a=>CX outer H s E e a) (λb a=>CX outer H s E b a) s'
def EY{a:Sq}{n:Nat}{x:Sb}(h:a.names.lookup x=b3 .cell):∃c,(Sm n a.names []).lookup x=b3 c:=by have q:=Ky a.names n [] (.inl h);exact Option.isSome_iff_exists.mp q
def JQ{CX:CS}{P:Az}{w:Sg}{K:Ag}{mg:Sb->Option Rz}{base:Si}{N ps:List Sb}{qual:Sb}{scope:Sq}{f:Sa}{cd:Rz}{A:Cb}{outer:List Env}{s s1:Ad}{H:Hp}{E:XK}{us:List Rz}{vs:List V}(S:aA N ps scope)(hd:A.handled=b5)(d:GN P w K mg base A outer s H)(hl:vs.length=ps.length)(r:bI vs us)(x:InCallC s s.heap.objs.size (bindL (envOfC qual scope s.heap.objs.size f cd).kindOf (ps.zip us) λ_=>b5) (Sm (s.heap.objs.size+1) scope.names []) (bindC (envOfC qual scope s.heap.objs.size f cd).kindOf (ps.zip us) λ_=>b5) s1):b9 (TK CX P w K mg base N qual scope f cd A outer s H E) [] (start N vs) H s1:=by
 have B:ps.length<=N.length:=by have:=congrArg List.length S.pre;rw[Dj]at this;lia
 obtain⟨h1,tk,rfl,hk⟩:=x.done;have g:∀b:Sa,b∉(TK CX P w K mg base N qual scope f cd A outer s H E).ex:=λb z=>absurd (show b∈([]:List Sa) from z) (by simp);refine⟨⟨d.mod,S.kind,rfl,rfl,Ax _,λy z c h1 h2=>?_,λy j=>?_,λy c _ h=>?_,λ_=>hd,Around.frames_deeper d.frames,.inr ⟨rfl,rfl⟩,λb z=>absurd z (g b),d.bs,d.bsz,λb _ _=>g b,λb z=>absurd z (g b),d.funs,d.frf⟩,rfl,d.bare,Un.kept hk,⟨_,x.toInCall.ns,λi y v h1 h2 D=>?_⟩,λy c h=>⟨_,x.cell y c h⟩,d.hok.fresh (Ax _),λy c h=>?_,λp m=>absurd (show p∈([]:List (Sa×Sk)) from m) (by simp),d.hok.kept hk,?_⟩
 ·exact name_of_addr x.apart (Cr h1) (Cr h2)
 ·have j:scope.names.lookup y=b3 .cell∨scope.names.lookup y=b3 .free:=j
  rcases j with j|j
  ·exact EY j
  ·exact absurd rfl (S.nofree _ (Cr j))
 ·exact Oz (x.above y c (Cr h))
 ·have hi:i<vs.length:=by
   unfold start at h2;by_cases hi:i<vs.length
   ·exact hi
   ·rw [Am (by simpa using hi)]at h2
    rw[Dk]at h2;split at h2<;>cases h2
  have C:vs[i]?=b3 v:=by
   unfold start at h2;rw[Ah (by simpa using hi),Ef]at h2;cases e:vs[i]? with
   |none=>rw[e]at h2;cases h2
   |some a=>rw[e]at h2;cases h2;rfl
  obtain⟨u,o,t⟩:=r.get C;have m:ps[i]?=b3 y:=by rw[<-S.pre,Dd (by lia)];exact h1
  have l:ps.Nodup:=by rw[<-S.pre];exact S.nd.sublist (List.take_sublist _ _)
  refine⟨u,t,?_⟩;rcases S.par y (Cm m)with k|k
  ·exact .inl ⟨k,IZ l m o k⟩
  ·obtain⟨c,e⟩:=EY (n:=s.heap.objs.size+1) k
   refine .inr ⟨.inl k,c,e,?_⟩;have q:=x.cell y c e;rw[IV l m o (by show scope.names.lookup y≠_;rw[k];decide)]at q;exact q
 ·exact d.hok.fresh (Oz (x.above y c (Cr h)))
 ·unfold start
  show _=N.length;rw[Ao,Ba,Bp];lia
def Th{CX:CS}{P:Az}{w:Sg}{K:Ag}{mg:Sb->Option Rz}{base:Si}{k:Nat}{f:Sa}{name qual:Sb}{c:Arguments}{body:List Sj}{scope:Sq}{dV kV doc B a ct F:Rz}{C od:Option Sa}{l:Array (Option Rz)}{N ps:List Sb}{sp:Sp}(G:K.lookup f=b3 ⟨F,od,.func (Hh name qual c body scope dV kV doc B C a ct),l⟩)(z:Jw K a qual=ba)(S:aA N ps scope)(len:∀vs H Q E,sp vs H Q E->vs.length=ps.length)(X:∀(A:Cb) (outer:List Env) (s:Ad) (H:Hp) (vs:List V) (Q:VK) (E:XK),Z4 k (A.deeper (envOfC qual scope s.heap.objs.size f a))->sp vs H Q E->∃t,W1 (TK CX P w K mg base N qual scope f a A outer s H E) body t/\t {nx:=λ_ H'=>Q .non H',rt:=Q} (start N vs) H):YV P w K mg base CX (k+1) f (Hh name qual c body scope dV kV doc B C a ct) ps sp:=by
 refine⟨len,λA outer s H args us vs Q E p i T r h=>?_⟩;have hl:=len _ _ _ _ h;have D:K.In s.heap:=i.mod.kin.keeps λb o e=>(i.bs b o e).1;have m:s.heap.NoLimit:=i.mod.nolimit.keeps λb o e=>(i.bs b o e).1;have U:∀y∈ps.zip us,scope.names.lookup y.1=b3 .local∨(scope.names.lookup y.1=b3 .cell/\((Sm (s.heap.objs.size+1) scope.names []).lookup y.1).isSome=ba):=λ⟨n,v⟩ L=>by
  rcases S.par n (Iz L).1 with q|q
  ·exact .inl q
  ·exact .inr ⟨q,Ky _ _ _ (.inl q)⟩
 refine Ln p.depth (D _ _ G) rfl S.co S.gen rfl (W.codeRec_of D z) (T _ _ _ _ ?_);refine Jo S.kind U λenv R s1 x=>?_;subst R;refine⟨m.keeps x.toInCall.keep,codeAny_func ?_⟩;obtain⟨t,M,O⟩:=X A outer s H vs Q E (p.deeper _) h;have I:b9 (TK CX P w K mg base N qual scope f a A outer s H E) [] (start N vs) H s1:=JQ S p.hd i hl r x;refine Co (M [] s1 (start N vs) H _ I O) (λfl s' g=>?_) λe s' g=>g;have fin:∀{d:St}{H':Hp}{v:V}{u:Rz},b9 (TK CX P w K mg base N qual scope f a A outer s H E) [] d H' s'->bA v u->Q v H'->CE outer P w H s Q u s':=
  λ{d H' v u} J j q=>⟨v,H',J.os,J.bare,J.base,J.hok,j,q⟩
 cases fl with
 |ret u=>
  obtain⟨v,d,H',J,j,q⟩:=g;exact fin J j q
 |next=>
  obtain⟨d,H',J,q⟩:=g;exact fin (v:=V.non) (u:=Value.none) J rfl q
 |brk=>
  obtain⟨_,_,_,q⟩:=g;exact Fd q
 |cont=>
  obtain⟨_,_,_,q⟩:=g;exact Fd q
section
variable{X:Cx}{x:Sb}{p pos:Pos}{e:Sf}{es:List Sf}{t:TA}{id T:String}{r:List V->Hp->VK->Prop}
def tCB(r:List V->Hp->VK->Prop)(t:TA):TE:=λσ H Q=>t σ H λvs H1=>r vs H1 Q
def PR(hc:aF X (.builtin id) r)(i:Gl X x)(g:X.mg x=b5)(d:Bm x=b3 (.builtin id))(k:PA X (e::es) t)(f:x≠ "__name__":=by decide)(b:(x==("__debug__":Sb))=bb:=by decide)(j:Ap (e::es) X.env=(bb,eval e X.env)::Ap es X.env:=by rfl)(a:(Ct pos (Ap es X.env)).any (·.1)=bb:=by rfl):PE X (.Call (.Name x p) (e::es) [] pos) (tCB r t):=by intro aa s σ H Q I h;refine Dq (OK I i g d ?_ f b);exact PyProof.Rows.callWith_builtin1 (ZP (k pos aa s σ H _ I h) λus s1 ⟨vs,H1,l,c,q1⟩=>hc aa s1 σ H1 vs us Q l c q1) j a
def OQ(hc:aF X (.type T) r)(i:Gl X x)(g:X.mg x=b5)(d:Bm x=b3 (.type T))(k:PA X (e::es) t)(f:x≠ "__name__":=by decide)(b:(x==("__debug__":Sb))=bb:=by decide)(j:Ap (e::es) X.env=(bb,eval e X.env)::Ap es X.env:=by rfl)(a:(Ct pos (Ap es X.env)).any (·.1)=bb:=by rfl):PE X (.Call (.Name x p) (e::es) [] pos) (tCB r t):=by intro aa s σ H Q I h;refine Dq (OK I i g d ?_ f b);exact Ew (ZP (k pos aa s σ H _ I h) λus s1 ⟨vs,H1,l,c,q1⟩=>hc aa s1 σ H1 vs us Q l c q1) j a
end
end L2
namespace HT
open PySem PyProof.Rows
section
variable{prog:Az}{w:Sg}{A:Cb}{E:Rz->Ad->Prop}{s:Ad}
def zHW{t b:Sa}{vs ws:List Rz}{Q:Rz->Ad->Prop}(l:IsTup s.heap t vs.toArray)(m:IsTup s.heap b ws.toArray)(k:vs≠[])(h1:ws=[]->Q (.ref t) s)(h2:ws≠[]->Q (.ref s.heap.objs.size) {s with heap:=s.heap.push {cls:=.type "tuple",data:=.seq (vs++ws).toArray}})(hsz:vs.length+ws.length<=sizeLine):Sd (Se prog w) A (Fh .Add (.ref t) (.ref b)) Q E s:=by
 obtain⟨⟨cls,dd,data,i⟩,h,hc,n,hd⟩:=id l;obtain⟨⟨o,g,data2,c⟩,a,f,j,d⟩:=id m;simp only at hc hd f d;subst hc hd f d;have e:vs.toArray++ws.toArray=(vs++ws).toArray:=by simp
 by_cases hw:ws=[]
 ·exact Lo ⟨_,h,rfl⟩ ⟨_,a,rfl⟩ Kz Ng Hx Hq (Hi _ _)
   (tuple_addW1 t b vs.toArray ws.toArray n j dd g i c (by simpa using k) (by simp[hw])) ⟨h,a,h1 hw⟩
 ·refine Lo ⟨_,h,rfl⟩ ⟨_,a,rfl⟩ Kz Ng Hx Hq (Hi _ _)
   (tuple_addW2 t b vs.toArray ws.toArray n j dd g i c (by simpa using k) (by simpa using hw) (by rw[Ak,Ak];exact hsz)) ⟨h,a,?_⟩
  rw[e];exact h2 hw
noncomputable def sIx(n d:Nat):Option Int->Nat
 |none=>d
 |some v=>if v<0 then(v+(n:Int)).toNat else min v.toNat n
def zCP(n d:Nat):sIx n d b5=d:=rfl
def zG7(n d k:Nat):sIx n d (b3 (k:Int))=min k n:=by show(if(k:Int)<0 then((k:Int)+(n:Int)).toNat else min (k:Int).toNat n)=min k n;rw[if_neg (by lia),Kh]
def cU(n d:Nat)(hd:d<=n)(o:Option Int):sIx n d o<=n:=by
 cases o with
 |none=>exact hd
 |some v=>
  show(if v<0 then(v+(n:Int)).toNat else min v.toNat n)<=n;by_cases a:v<0
  ·rw[if_pos a];lia
  ·rw[if_neg a];exact Nat.min_le_right _ _
def AU(v:Int)(n d:Nat):(if v<0 then max (v+(n:Int)) 0 else min v (n:Int))=((sIx n d (b3 v):Nat):Int):=by
 show(if v<0 then max (v+(n:Int)) 0 else min v (n:Int))=(((if v<0 then(v+(n:Int)).toNat else min v.toNat n):Nat):Int);by_cases a:v<0
 ·simp only[if_pos a];lia
 ·simp only[if_neg a];lia
def CW(lo hi:Option Int)(n:Nat):Gx lo hi 1 (n:Int)=(((sIx n 0 lo:Nat):Int),((sIx n n hi:Nat):Int)):=by
 have h1:¬((1:Int)<0):=by lia
 unfold Gx;simp only[h1,if_false];refine Prod.ext ?_ ?_
 ·cases lo with
  |none=>rfl
  |some v=>exact AU v n 0
 ·cases hi with
  |none=>rfl
  |some v=>exact AU v n n
def DX(i j:Nat):Fm (i:Int) (j:Int) 1=j-i:=by
 unfold Fm;have h1:(1:Int)>0:=by lia
 simp only[h1,if_true,Int.ediv_one];split<;>lia
def MN{v:Rz}{o:Option Int}{Q:Option Int->Ad->Prop}(p:IsPart v o)(h:Q o s):Sd (Se prog w) A (Px v) Q E s:=by
 cases p with
 |none=>exact slicePart_none h
 |int i t=>exact slicePart_int h
def UY{e:Sa}{d c:Rz}{lo hi:Option Int}{n:Nat}{Q:Int×Int×Nat->Ad->Prop}(f:s.heap.IsSliceOf e d c .none)(pl:IsPart d lo)(pu:IsPart c hi)(h:Q (((sIx n 0 lo:Nat):Int),1,sIx n n hi-sIx n 0 lo) s):Sd (Se prog w) A (Jp (.ref e) (pure (n:Int))) Q E s:=by obtain⟨os,a,g,b⟩:=id f;unfold Jp Qn;refine Ac (Ac (Eb a b (x:=d) rfl (Ac (Eb a b (x:=c) rfl (Ac (Eb a b (x:=.none) rfl (Aq ?_)))))));refine Ac (slicePart_none ?_);show Sd _ _ (if((1:Int)==0)=ba then _ else _) _ _ s;rw[if_neg (by decide)];refine Ac (MN pl (Ac (MN pu (Ac (Aq ?_)))));show Sd _ _ (match Gx lo hi 1 (n:Int)with|(lo,hi)=>pure (lo,(1:Int),Fm lo hi 1)) _ _ s;rw[CW lo hi n];show Sd _ _ (pure (((sIx n 0 lo:Nat):Int),(1:Int),Fm ((sIx n 0 lo:Nat):Int) ((sIx n n hi:Nat):Int) 1)) _ _ s;rw[DX];exact Aq h
def mB(xs:Array Rz)(i k:Nat):((Cq k).filterMap λ(m:Nat)=>xs[((i:Int)+(m:Int)*1).toNat]?).toArray=((xs.toList.drop i).take k).toArray:=by
 have e:(λ(m:Nat)=>xs[((i:Int)+(m:Int)*1).toNat]?)=λm=>xs[i+m]? :=by
  funext m;have:((i:Int)+(m:Int)*1).toNat=i+m:=by lia
  rw[this]
 rw[e];have:=pick_run xs i k
 rw[List.filterMap_map]at this;have a:((λx=>xs[x]?)∘λx=>i+x)=λm=>xs[i+m]? :=rfl;rw[a]at this;rw[this]
def PF{t c:Sa}{items:Array Rz}{j i:Rz}{lo hi:Option Int}{Q:Rz->Ad->Prop}(a:IsTup s.heap t items)(k:s.heap.IsSliceOf c j i .none)(pl:IsPart j lo)(pu:IsPart i hi)(hw:¬(sIx items.size 0 lo=0/\sIx items.size items.size hi=items.size))(h:Q (.ref s.heap.objs.size) {s with heap:=s.heap.push {cls:=.type "tuple",data:=.seq ((items.toList.drop (sIx items.size 0 lo)).take (sIx items.size items.size hi-sIx items.size 0 lo)).toArray}})(hsz:items.size<=sizeLine):Sd (Se prog w) A (Kn (.ref t) (.ref c)) Q E s:=by
 have b:sizeOk (.seq ((items.toList.drop (sIx items.size 0 lo)).take (sIx items.size items.size hi-sIx items.size 0 lo)).toArray):=by show((items.toList.drop (sIx items.size 0 lo)).take (sIx items.size items.size hi-sIx items.size 0 lo)).toArray.size<=sizeLine;rw[Ak,Dj,Pm,Ga];lia
 have n:sIx items.size items.size hi<=items.size:=cU _ _ (Ax _) hi;obtain⟨os,d,f,l⟩:=id k;have g:s.TypeIs (.ref c) "slice":=⟨os,d,f⟩;unfold Kn;try with_reducible refine Cc ?_
 first|refine Ac (Aq ?_)|skip
 refine Ac (Ia a.typeIs (by decide) ?_);refine Ac (Cs (name:=Bq "__getitem__") a.typeIs Eg
  (Eo Eg a.typeIs entry_tuple_getitem ?_ (args_tuple_getitem _ _)))
 show Sd _ _ (Jq (.ref t)>>=_) _ _ s;refine Ac (tupleItemsOf_ a ?_);refine Ac (Pd g ?_);rw[if_pos (by decide)];refine Ac (UY k pl pu ?_);have e:¬((((sIx items.size 0 lo:Nat):Int)==0&&(1:Int)==1&&(sIx items.size items.size hi-sIx items.size 0 lo)==items.size)=ba):=by intro q;rw[Af,Af]at q;have q1:((sIx items.size 0 lo:Nat):Int)=0:=eq_of_beq q.1.1;have q2:sIx items.size items.size hi-sIx items.size 0 lo=items.size:=eq_of_beq q.2;exact hw ⟨by lia,by lia⟩
 show Sd _ _ (if(((sIx items.size 0 lo:Nat):Int)==0&&(1:Int)==1&&(sIx items.size items.size hi-sIx items.size 0 lo)==items.size)=ba then _ else _) _ _ s;rw[if_neg e,mB]
 first
  |exact Ac (m:=Fw _) (Dv (Aq ⟨_,rfl,Aq h⟩) b)
  |exact Ac (m:=Fw _) (Dv (Ac (Aq (Aq ⟨_,rfl,Aq h⟩))) b)
  |exact Ac (Ac (m:=Fw _) (Dv (Aq (Aq ⟨_,rfl,Aq h⟩)) b))
  |exact Ac (Ac (m:=Fw _) (Dv (Aq ⟨_,rfl,Aq h⟩) b))
end
end HT
namespace L2
open PySem PySem.Spec PyProof.Rows
abbrev TO:=St->Hp->(Option Int->Hp->Prop)->Prop
def PO(X:Cx)(e:Option Sf)(t:TO):Prop:=
 ∀(aa:List (Sa×Sk)) (s:Ad) (σ:St) (H:Hp) (Q:Option Int->Hp->Prop),b9 X aa σ H s->t σ H Q->
  Sd (Se X.prog X.w) X.A (evalPart e X.env) (λu s'=>∃o H',b9 X aa σ H' s'/\IsPart u o/\Q o H') X.xe s
def jQ:TO:=λ_ H Q=>Q b5 H
def kE(t:TE):TO:=λσ H Q=>t σ H λx H1=>∃i,x=.int i/\Q (b3 i) H1
section
variable{X:Cx}{e:Sf}{te:TE}{lo hi:Option Sf}{tl th:TO}{pos p2:Pos}
def zGI:PO X b5 jQ:=by intro aa s σ H Q I h;rw[Nh];exact Aq ⟨b5,H,I,.none,h⟩
def jB(h:PE X e te):PO X (b3 e) (kE te):=by intro aa s σ H Q I hw;rw[evalPart_some];refine ZP (h aa s σ H _ I hw) λu s1 ⟨x,H1,b,a,q1⟩=>?_;obtain⟨i,rfl,q⟩:=q1;obtain⟨t,rfl⟩:=a;exact⟨b3 i,H1,b,.int i t,q⟩
def SlR(X:Cx)(r:V->Option Int->Option Int->Hp->VK->Prop):Prop:=
 ∀(aa:List (Sa×Sk)) (s:Ad) (σ:St) (H:Hp) (x:V) (v b a:Rz) (lo hi:Option Int) (c:Sa) (Q:VK),b9 X aa σ H s->bA x v->s.heap.IsSliceOf c b a .none->IsPart b lo->IsPart a hi->r x lo hi H Q->
  ∃T id,typeLookup (.type T) "__getitem__"=pure (b3 (.builtin id))/\s.TypeIs v T/\Sd (Se X.prog X.w) X.A (Kn v (.ref c)) (EP X aa σ Q) X.xe s
def SlR.or{r r':V->Option Int->Option Int->Hp->VK->Prop}(h:SlR X r)(h':SlR X r'):SlR X (λx lo hi H Q=>r x lo hi H Q∨r' x lo hi H Q):=by
 intro aa s σ H x v b a lo hi c Q I d e pl pu q;rcases q with q|q
 ·exact h aa s σ H x v b a lo hi c Q I d e pl pu q
 ·exact h' aa s σ H x v b a lo hi c Q I d e pl pu q
def tSl(r:V->Option Int->Option Int->Hp->VK->Prop)(te:TE)(tl th:TO):TE:=λσ H Q=>te σ H λx H1=>tl σ H1 λl H2=>th σ H2 λu a=>r x l u a Q
def fY{r:V->Option Int->Option Int->Hp->VK->Prop}(k:SlR X r)(n:PE X e te)(hl:PO X lo tl)(i:PO X hi th):PE X (.Subscript e (.Slice lo hi b5 p2) pos) (tSl r te tl th):=by intro aa s σ H Q I h;refine Subscript_ (ZP (n aa s σ H _ I h) λv s1 ⟨x,H1,z,g,q1⟩=>?_);refine wpAny_Slice (ZP (hl aa s1 σ H1 _ z q1) λd s2 ⟨l,H2,y,pl,q2⟩=>ZP (i aa s2 σ H2 _ y q2) λc a ⟨u,f,t,pu,q3⟩=>?_);rw[Nh];refine Aq ?_;have p:b9 X aa σ f {a with heap:=a.heap.push {cls:=.type "slice",data:=.fields #[d,c,.none]}}:=t.kept (t':=a.toks) λb B q=>Ae _ q;obtain⟨T,id,o,j,m⟩:=k aa {a with heap:=a.heap.push {cls:=.type "slice",data:=.fields #[d,c,.none]}} σ f x v d c l u a.heap.objs.size Q p g (Rx ..) pl pu q3;show Sd (Se X.prog X.w) X.A (subscriptTail e (.Slice lo hi b5 p2) v (.ref a.heap.objs.size)) (EP X aa σ Q) X.xe {a with heap:=a.heap.push {cls:=.type "slice",data:=.fields #[d,c,.none]}};exact Rb (ops:=[.ref a.heap.objs.size,v]) j o m (by with_unfolding_all rfl)
def EZ(xs:List V)(lo hi:Option Int):List V:=(xs.drop (HT.sIx xs.length 0 lo)).take (HT.sIx xs.length xs.length hi-HT.sIx xs.length 0 lo)
def NM(xs:List V)(lo hi:Option Int):(EZ xs lo hi).length<=xs.length:=by unfold EZ;rw[Dj,Pm];lia
def rSlT(K:Ag):V->Option Int->Option Int->Hp->VK->Prop:=λx lo hi H Q=>∃a xs,x=.ref a/\UO K H a xs∧
 ¬(HT.sIx xs.length 0 lo=0/\HT.sIx xs.length xs.length hi=xs.length)/\∀p,H p=b5->Q (.ref p) (upd H p (.tup (EZ xs lo hi)))
def zK5:SlR X (rSlT X.K):=by
 intro aa s σ H x v j i lo hi k Q I e g pl pu h;obtain⟨a,xs,rfl,f,hw,q⟩:=h;cases e;obtain⟨its,r,d,hz⟩:=I.tuple f;have c:its.toArray.size=xs.length:=by rw[Ak];exact r.length.symm
 refine⟨"tuple",_,PyProof.Rows.slot_tuple_getitem.lookup,d.typeIs,?_⟩;refine HT.PF d g pl pu (by rw[c];exact hw) ?_ (by rw[c];exact hz);rw[c];refine⟨.ref s.heap.objs.size,_,I.laid (t':=s.toks) (o:=.tup (EZ xs lo hi)) (λb l q=>Ae _ q) (Ax _) ?_,rfl,q _ (I.hok.fresh (Ax _))⟩;exact⟨Ei (NM xs lo hi) hz,_,(r.drop (HT.sIx xs.length 0 lo)).take (HT.sIx xs.length xs.length hi-HT.sIx xs.length 0 lo),Kg _ _⟩
def bI.nil_iff{xs:List V}{us:List Rz}(r:bI xs us):us=[]↔xs=[]:=by
 cases r with
 |nil=>simp
 |cons _ _=>simp
end
noncomputable def KQ(n:Nat)(i:Int):Option Nat:=if 0<=i then(if i<n then b3 i.toNat else b5)else if -(n:Int)<=i then b3 (i+n).toNat else b5
def UR{α:Type}(xs:List α)(i:Int):Option α:=(KQ xs.length i).bind λj=>xs[j]?
def HN{n:Nat}{i:Int}{j:Nat}(h:KQ n i=b3 j):seqIndex? i n=b3 j/\j<n/\ -(n:Int)<=i/\i<n:=by
 unfold KQ at h;by_cases a:0<=i
 ·rw[if_pos a]at h
  by_cases h1:i<n
  ·rw[if_pos h1]at h
   have e:i.toNat=j:=Bx h;exact⟨by rw[Mr a h1,e],by lia,by lia,h1⟩
  ·rw[if_neg h1]at h;cases h
 ·rw[if_neg a]at h
  by_cases h1: -(n:Int)<=i
  ·rw[if_pos h1]at h
   have e:(i+n).toNat=j:=Bx h;exact⟨by rw[Lp (by lia) h1,e],by lia,h1,by lia⟩
  ·rw[if_neg h1]at h;cases h
def GW{α:Type}{xs:List α}{i:Int}{v:α}(h:UR xs i=b3 v):∃j,seqIndex? i xs.length=b3 j/\xs[j]?=b3 v/\j<xs.length/\ -(xs.length:Int)<=i/\i<xs.length:=by
 unfold UR at h;cases e:KQ xs.length i with
 |none=>rw[e]at h;cases h
 |some j=>
  rw[e]at h;obtain⟨h1,h2,b,a⟩:=HN e;exact⟨j,h1,h,h2,b,a⟩
def WS(b:Sf):Prop:=∀o i,subscripted b bb o i=operate [o,i] (Kn o i)
def AN(X:Cx)(r:R2):Prop:=
 ∀(value a:Sf) (aa:List (Sa×Sk)) (s:Ad) (σ:St) (H:Hp) (x y:V) (v u:Rz) (Q:VK),b9 X aa σ H s->bA x v->bA y u->r x y H Q->
  subscripted a bb v u=operate [v,u] (Kn v u)->Sd (Se X.prog X.w) X.A (subscriptTail value a v u) (EP X aa σ Q) X.xe s
def MtR(X:Cx)(id:String)(r:V->List V->Hp->VK->Prop):Prop:=
 ∀(aa:List (Sa×Sk)) (s:Ad) (σ:St) (H:Hp) (x:V) (xs:List V) (v:Rz) (us:List Rz) (Q:VK),b9 X aa σ H s->bA x v->bI xs us->r x xs H Q->
  Sd (Se X.prog X.w) X.A (call (.builtin id) (v::us)) (EP X aa σ Q) X.xe s
section
variable{X:Cx}{a b:Sf}{ta tb:TE}{pos:Pos}
def AN.or{r r':R2}(h:AN X r)(h':AN X r'):AN X (λx y H Q=>r x y H Q∨r' x y H Q):=by
 intro value a aa s σ H x y v u Q I c b q d;rcases q with q|q
 ·exact h value a aa s σ H x y v u Q I c b q d
 ·exact h' value a aa s σ H x y v u Q I c b q d
def MA{r:R2}(f:AN X r)(i:PE X a ta)(g:PE X b tb)(e:WS b):PE X (.Subscript a b pos) (tOp r ta tb):=by intro aa s σ H Q I h;exact Subscript_ (binT i g I h λv u s2 x y H2 j d c q=>f a b aa s2 σ H2 x y v u Q j d c q (e _ _))
def rIxL(K:Ag):R2:=λx y H Q=>∃p xs i v,x=.ref p/\y=.int i/\XV K H p xs/\UR xs i=b3 v/\Q v H
def rIxT(K:Ag):R2:=λx y H Q=>∃p xs i v,x=.ref p/\y=.int i/\UO K H p xs/\UR xs i=b3 v/\Q v H
def rIxS:R2:=λx y H Q=>∃z i c,x=.str z/\y=.int i/\z.length<=sizeLine/\UR z.cps.toList i=b3 c/\Q (.str ⟨#[c]⟩) H
def BI:AN X (rIxL X.K):=by
 intro value a aa s σ H x y v u Q I k g h d;obtain⟨p,xs,i,z,rfl,rfl,l,m,q⟩:=h;cases k;obtain⟨t,rfl⟩:=g;obtain⟨its,r,pl,hz⟩:=I.list l;obtain⟨j,h1,h2,B,o,n⟩:=GW m;obtain⟨w,f,b⟩:=r.get h2;have hl:=r.length;have A:=QN;have fin:EP X aa σ Q w s:=⟨z,H,I,b,q⟩;by_cases e:0<=i
 ·have c:i.toNat=j:=by rw[Mr e n]at h1;exact Bx h1
  exact item_listR pl.isList e (by lia) (by rw[c];simpa using f) fin d
 ·have c:(i+(its.toArray.size:Int)).toNat=j:=by rw[Lp (by lia) o]at h1;rw[Ak,<- hl];exact Bx h1
  exact Le (x:=w) pl.isList.typeIs slot_list_getitem.lookup
   (wpAny_getItem_list_neg (Q:=λr s'=>r=w/\EP X aa σ Q r s') pl.isList (by lia) (by rw[Ak]<;>lia) (by lia) (by rw[c];simpa using f) ⟨rfl,fin⟩) d
def zLF:AN X (rIxT X.K):=by
 intro value a aa s σ H x y v u Q I d c h e;obtain⟨p,xs,i,z,rfl,rfl,f,g,q⟩:=h;cases d;obtain⟨t,rfl⟩:=c;obtain⟨its,r,pl,hz⟩:=I.tuple f;obtain⟨j,h1,h2,o,n,m⟩:=GW g;obtain⟨w,k,b⟩:=r.get h2;have hl:=r.length;have l:=QN;have fin:EP X aa σ Q w s:=⟨z,H,I,b,q⟩;exact Le (x:=w) pl.typeIs slot_tuple_getitem.lookup
  (getItem_tuple (j:=j) (Q:=λr s'=>r=w/\EP X aa σ Q r s') pl (by lia) (by lia) (by rw[Ak,<-hl];exact h1) (by simpa using k) ⟨rfl,fin⟩) e
def eY:AN X rIxS:=by
 intro value a aa s σ H x y v u Q I d b h e;obtain⟨z,i,c,rfl,rfl,hz,f,q⟩:=h;obtain⟨t,rfl⟩:=d;obtain⟨t',rfl⟩:=b;obtain⟨j,h1,h2,o,k,g⟩:=GW f;have hl:z.cps.toList.length=z.length:=by simp[Str.length]
 rw[hl]at h1 k g;have n:=QN;exact Rb (typeIs_str s z t) slot_str_getitem.lookup (getItem_str (c:=c) (by have m:decide (i< -(2 ^ 63:Int))=bb:=decide_eq_false (by lia);have l:decide (i≥2 ^ 63)=bb:=decide_eq_false (by lia);rw[m,l,Rc]) (by rw[h1];simpa using h2) ⟨.str ⟨#[c]⟩,H,I.tok _,⟨_,rfl⟩,q⟩) e
def rIx(K:Ag):R2:=λx y H Q=>rIxL K x y H Q∨rIxT K x y H Q∨rIxS x y H Q
def zLH:AN X (rIx X.K):=BI.or (zLF.or eY)
def LZ(its:List Rz)(n j:Nat)(u:Rz):Fx (·.setIfInBounds j u) {cls:=.type "list",data:=.seq its.toArray n}={cls:=.type "list",data:=.seq (its.set j u).toArray n}:=by simp[Fx]
def b9.lst{aa:List (Sa×Sk)}{σ:St}{H:Hp}{s:Ad}{p:Sa}{xs:List V}(I:b9 X aa σ H s)(h:H p=b3 (.lst xs)):∃(its:List Rz) (n:Nat),bI xs its/\s.heap.get? p=b3 {cls:=.type "list",data:=.seq its.toArray n}/\xs.length<=sizeLine:=by obtain⟨z,its,n,r,e⟩:=I.hok p _ h;exact⟨its,n,r,e,z⟩
def b9.lstUpd{aa:List (Sa×Sk)}{σ:St}{H:Hp}{s:Ad}{p:Sa}{xs ys:List V}{its its':List Rz}{n n':Nat}{f:Sk->Sk}(I:b9 X aa σ H s)(h:H p=b3 (.lst xs))(c:s.heap.get? p=b3 {cls:=.type "list",data:=.seq its.toArray n})(a:f {cls:=.type "list",data:=.seq its.toArray n}={cls:=.type "list",data:=.seq its'.toArray n'})(r:bI ys its')(hz:ys.length<=sizeLine)(t:Nat):b9 X aa σ (upd H p (.lst ys)) {s with heap:=s.heap.update p f,toks:=t}:=by
 have e:(s.heap.update p f).get? p=b3 {cls:=.type "list",data:=.seq its'.toArray n'}:=by rw[Go f c (by rw[a]<;>rfl),a]
 refine I.write (x:=p) (e:=p) (by rw[h];trivial) (.inl rfl) (λb u d q=>(Bv _ _ (Dl d)).trans q) ⟨_,e⟩ ?_;exact⟨hz,its',n',r,e⟩
def j3:V->V->V->Hp->(Hp->Prop)->Prop:=λo i v H Q=>∃p xs k j,o=.ref p/\i=.int k/\H p=b3 (.lst xs)/\KQ xs.length k=b3 j/\Q (upd H p (.lst (xs.set j v)))
def Xz:PSet X j3:=by
 intro aa s σ H o i v x y u Q I l m g h;obtain⟨p,xs,k,j,rfl,rfl,b,w,q⟩:=h;cases l;obtain⟨t,rfl⟩:=m;obtain⟨its,n,r,a,hz⟩:=I.lst b;obtain⟨h1,h2,d,c⟩:=HN w;have hl:=r.length;have z:=QN;have f:b9 X aa σ (upd H p (.lst (xs.set j v))) {s with heap:=s.heap.update p (Fx (·.setIfInBounds j u))}:=
  I.lstUpd b a (LZ its n j u) (r.set g j) (by rw[Dg];exact hz) s.toks
 by_cases e:0<=k
 ·have hk:k.toNat=j:=by rw[Mr e c]at h1;exact Bx h1
  exact W.ki_setAt a e (by lia) (by rw[Ak,<-hl];exact c) (by rw[hk];exact⟨_,f,q⟩)
 ·have hk:(k+(its.toArray.size:Int)).toNat=j:=by rw[Lp (by lia) d]at h1;rw[Ak,<- hl];exact Bx h1
  exact W.ki_setBack a (by lia) (by rw[Ak,<-hl];exact d) (by lia) (by rw[hk];exact⟨_,f,q⟩)
def IJ(lo hi:Option Int)(n:Nat):(He lo hi b5 n).1=((HT.sIx n 0 lo:Nat):Int)/\(He lo hi b5 n).2.1=((HT.sIx n n hi:Nat):Int)/\(He lo hi b5 n).2.2=1:=by
 refine⟨?_,?_,rfl⟩
 ·cases lo with
  |none=>simp[He,HT.sIx]
  |some i=>
   simp only[He,HT.sIx,Pn,show(1:Int)>0 by decide,if_true];by_cases h:i<0
   ·simp only[h,if_true]<;>lia
   ·simp only[h,if_false]<;>lia
 ·cases hi with
  |none=>simp[He,HT.sIx]
  |some i=>
   simp only[He,HT.sIx,Pn,show(1:Int)>0 by decide,if_true];by_cases h:i<0
   ·simp only[h,if_true]<;>lia
   ·simp only[h,if_false]<;>lia
def KW(its:List Rz)(lo hi:Option Int):slicePick its.toArray lo hi b5=((its.drop (HT.sIx its.length 0 lo)).take (HT.sIx its.length its.length hi-HT.sIx its.length 0 lo)).toArray:=by obtain⟨h1,h2,a⟩:=IJ lo hi its.toArray.size;unfold slicePick;rw[h1,h2,a];simp only[sliceRange_one,pick_run,Ak]<;>rfl
def rSlL(K:Ag):V->Option Int->Option Int->Hp->VK->Prop:=λx lo hi H Q=>∃a xs,x=.ref a/\XV K H a xs/\∀p,H p=b5->Q (.ref p) (upd H p (.lst (EZ xs lo hi)))
def Ym:SlR X (rSlL X.K):=by intro aa s σ H x v j i lo hi k Q I d f pl pu h;obtain⟨a,xs,rfl,e,q⟩:=h;cases d;obtain⟨its,r,c,hz⟩:=I.list e;have g:=r.length;refine⟨"list",_,slot_list_getitem.lookup,c.isList.typeIs,?_⟩;refine wpAny_getItem_list_slice c.isList f pl pu .none (by simp) ?_ (by rw[Ak]<;>lia);rw[KW,<-g];refine⟨.ref s.heap.objs.size,_,I.laid (t':=s.toks) (o:=.lst (EZ xs lo hi)) (λb l q=>Ae _ q) (Ax _) ?_,rfl,q _ (I.hok.fresh (Ax _))⟩;exact⟨Ei (NM xs lo hi) hz,_,0,(r.drop (HT.sIx xs.length 0 lo)).take (HT.sIx xs.length xs.length hi-HT.sIx xs.length 0 lo),Aw _ rfl⟩
def G5:aF X (.builtin "len") (λxs H Q=>∃p ys,xs=[.ref p]/\(XV X.K H p ys∨UO X.K H p ys)/\Q (.int ys.length) H):=by
 intro aa s σ H xs us Q I r h;obtain⟨p,ys,rfl,a,q⟩:=h;obtain⟨u,rfl,c⟩:=Q7 r;cases c;have d:=QN;rcases a with a|a
 ·obtain⟨its,r',pl,hz⟩:=I.list a
  have b:=r'.length;exact Calls.call_len_list pl.isList (by simp only[Ak]<;>lia) ⟨.int ys.length,H,I.tok _,⟨s.toks+1,by rw[Ak,b]⟩,q⟩
 ·obtain⟨its,r',pl,hz⟩:=I.tuple a
  have b:=r'.length;exact len_tuple pl (by simp only[Ak]<;>lia) ⟨.int ys.length,H,I.tok _,⟨s.toks+1,by rw[Ak,b]⟩,q⟩
def G6:aF X (.builtin "len") (λxs H Q=>∃z,xs=[.str z]/\z.length<=sizeLine/\Q (.int z.length) H):=by intro aa s σ H xs us Q I r h;obtain⟨z,rfl,hz,q⟩:=h;obtain⟨u,rfl,t,rfl⟩:=Q7 r;have a:=QN;exact len_str (by lia) ⟨.int z.length,H,I.tok _,⟨_,rfl⟩,q⟩
def aF.or{f:Rz}{r r':List V->Hp->VK->Prop}(h:aF X f r)(h':aF X f r'):aF X f (λxs H Q=>r xs H Q∨r' xs H Q):=by
 intro aa s σ H xs us Q I rs q;rcases q with q|q
 ·exact h aa s σ H xs us Q I rs q
 ·exact h' aa s σ H xs us Q I rs q
def G7:aF X (.type "list") (λxs H Q=>∃p ys,xs=[.ref p]/\(XV X.K H p ys∨UO X.K H p ys)/\∀l,H l=b5->Q (.ref l) (upd H l (.lst ys))):=by
 intro aa s σ H xs us Q I r h;obtain⟨p,ys,rfl,c,q⟩:=h;obtain⟨u,rfl,f⟩:=Q7 r;cases f;have fin:∀(its:List Rz),bI ys its->ys.length<=sizeLine->∀(h':Si) (a:Nat),(∀b o',s.heap.get? b=b3 o'->h'.get? b=b3 o')->
   h'.get? s.heap.objs.size=b3 {cls:=.type "list",dict:=b5,data:=.seq its.toArray a,slots:= #[]}->EP X aa σ Q (.ref s.heap.objs.size) {s with heap:=h'}:=λits r' hz h' a kp e=>
  ⟨.ref s.heap.objs.size,_,I.laid (t':=s.toks) kp (Ax _) (show aG X.prog X.w _ h' _ (.lst ys) from⟨hz,its,a,r',e⟩),rfl,q _ (I.hok.fresh (Ax _))⟩
 rcases c with c|c
 ·obtain⟨its,r',pl,hz⟩:=I.list c
  have g:=r'.length;obtain⟨o,d,hc,n,hd⟩:=pl.isList;exact call_list_seq p (.inl rfl) d hc hd (λh' a kp e=>fin its r' hz h' a kp e) (by simp only[Ak]<;>lia)
 ·obtain⟨its,r',pl,hz⟩:=I.tuple c
  have g:=r'.length;obtain⟨o,d,hc,n,hd⟩:=pl;exact call_list_seq p (.inr rfl) d hc hd (λh' a kp e=>fin its r' hz h' a kp e) (by simp only[Ak]<;>lia)
def KP:aF X (.type "tuple") (λxs H Q=>∃p ys,xs=[.ref p]/\((XV X.K H p ys/\∀l,H l=b5->Q (.ref l) (upd H l (.tup ys)))∨(UO X.K H p ys/\Q (.ref p) H))):=by
 intro aa s σ H xs us Q I r h;obtain⟨p,ys,rfl,h⟩:=h;obtain⟨u,rfl,d⟩:=Q7 r;cases d;rcases h with⟨a,q⟩|⟨a,q⟩
 ·obtain⟨its,r',pl,hz⟩:=I.list a
  have g:=r'.length;refine call_tuple_list pl.isList (λh' kp=>?_) (by simp only[Ak]<;>lia);have c:b9 X aa σ H {s with heap:=h'}:=I.kept (t':=s.toks) kp;have f:b9 X aa σ (upd H h'.objs.size (.tup ys)) {s with heap:=h'.push {cls:=.type "tuple",data:=.seq its.toArray}}:=
   c.laid (t':=s.toks) (λb o e=>Ae _ e) (Ax _) (show aG X.prog X.w _ _ _ (.tup ys) from⟨hz,its,r',Kg _ _⟩)
  exact⟨.ref h'.objs.size,_,f,rfl,q _ (c.hok.fresh (Ax _))⟩
 ·obtain⟨its,r',pl,hz⟩:=I.tuple a
  exact call_tuple_same pl ⟨.ref p,H,I,rfl,q⟩
def tyV(K:Ag)(T:String)(x:V)(H:Hp):Prop:=match x with
 |.str _=>T= "str"
 |.int _=>T= "int"
 | .ref p => (T = "list" /\ ∃ xs,XV K H p xs) ∨ (T = "tuple" /\ ∃ o,K.lookup p = b3 o /\ o.cls = .type "tuple" /\ o.dict = b5) ∨
   (T= "dict" /\((∃kvs,H p=b3 (.dK kvs))∨∃kvs,H p=b3 (.dT kvs)))∨(T= "set" /\∃S n,H p=b3 (.set S n))
 |_=>False
def eC{aa:List (Sa×Sk)}{σ:St}{H:Hp}{s:Ad}{T:String}{x:V}{v:Rz}(I:b9 X aa σ H s)(r:bA x v)(ty:tyV X.K T x H):s.TypeIs v T/\∀a,v=.ref a->∃d,s.heap.get? a=b3 d/\d.dict=b5:=by
 cases x with
 |str z=>
  obtain⟨t,rfl⟩:=r;cases (show T= "str" from ty);exact⟨typeIs_str s z t,λ_ e=>nomatch e⟩
 |int i=>
  obtain⟨t,rfl⟩:=r;cases (show T= "int" from ty);exact⟨Md s i t,λ_ e=>nomatch e⟩
 |ref p=>
  cases r;rcases ty with⟨rfl,xs,f⟩|⟨rfl,o,hk,hc,hd⟩|⟨rfl,hk⟩|⟨rfl,S,n,hk⟩
  ·obtain⟨its,_,pl,_⟩:=I.list f
   refine⟨pl.isList.typeIs,λa e=>?_⟩;cases e;obtain⟨o,n,e,c,hd,_⟩:=pl;exact⟨o,e,hd⟩
  ·refine ⟨⟨o,I.kIn p o hk,hc⟩,λa e => ?_⟩
   cases e;exact⟨o,I.kIn _ o hk,hd⟩
  ·have z: ∃o,s.heap.get? p=b3 o/\o.ExactDict:=by
    rcases hk with⟨kvs,hk⟩|⟨kvs,hk⟩
    ·obtain⟨_,_,_,_,o,_,_,e,ex,_⟩:=I.hok p _ hk
     exact⟨o,e,ex⟩
    ·obtain⟨_,_,_,_,o,_,_,e,ex,_⟩:=I.hok p _ hk
     exact⟨o,e,ex⟩
   obtain⟨o,e,ex⟩:=z;refine⟨⟨o,e,ex.1⟩,λa b=>?_⟩;cases b;exact⟨o,e,ex.2.1⟩
  ·obtain⟨o,_,_,_,e,ex,_⟩:=I.hok p _ hk
   refine⟨⟨o,e,ex.1⟩,λa b=>?_⟩;cases b;exact⟨o,e,ex.2.1⟩
 |_=>exact Fd ty
def tBM(K:Ag)(T:String)(r:V->List V->Hp->VK->Prop)(to:TE)(t:TA):TE:=λσ H Q=>to σ H λx H1=>tyV K T x H1/\t σ H1 λxs H2=>r x xs H2 Q
variable{o e:Sf}{es:List Sf}{to:TE}{t:TA}{name:Sb}{af ae:Pos}{T id:String}{r:V->List V->Hp->VK->Prop}
def jH(pa:PlainAttrs T)(slot:Slot T name id)(a:Pe (.builtin id)=pure (.type "method_descriptor"))(j:MtR X id r)(i:PE X o to)(k:PA X (e::es) t)(m:Cd o name X.env (eval o X.env)=eval o X.env:=by rfl)(l:((Ct ae (Ap (e::es) X.env)).all (λx=> !x.1)&&(Gu ae (Eh [] X.env)).all (λx=>x.1.isSome)&&decide ((e::es).length+([]:List Fo).length+(if([]:List Fo).isEmpty then 0 else 1)<30))=ba:=by rfl)(n:(af.endLine==ae.line)=ba:=by rfl)(g:Ap (e::es) X.env=(bb,eval e X.env)::Ap es X.env:=by rfl)(p:(Ct ae (Ap es X.env)).any (·.1)=bb:=by rfl):PE X (.Call (.Attribute o name af) (e::es) [] ae) (tBM X.K T r to t):=by intro aa s σ H Q I h;refine wpAny_Call_method_late m l n rfl (ZP (i aa s σ H _ I h) λv s1 ⟨x,H1,d,b,ty,q1⟩=>?_);obtain⟨h1,h2⟩:=eC d b ty;refine⟨T,id,pa,slot,a,h1,h2,?_⟩;have c:=k ae aa s1 σ H1 _ d q1;rw[g]at c⊢;refine Gh (by show(bb || (Ct ae (Ap es X.env)).any (·.1))=bb;rw[p]<;>rfl) (Ft ?_);exact ZP c λus s2 ⟨vs,H2,q,f,q2⟩=>j aa s2 σ H2 x vs v us Q q b f q2
end
def MtM(X:Cx)(id:String)(r:V->List V->Hp->VK->Prop):Prop:=
 ∀(aa:List (Sa×Sk)) (s:Ad) (σ:St) (H:Hp) (x:V) (xs:List V) (v:Rz) (us:List Rz) (Q:VK),b9 X aa σ H s->bA x v->bI xs us->r x xs H Q->
  Sd (Se X.prog X.w) X.A (call (.builtin id) (v::us)) (EP X aa σ Q) X.xe s
theorem bI.one:∀{x:V}{us:List Rz},bI [x] us->∃u,us=[u]/\bA x u
 |_,_,.cons r .nil=>⟨_,rfl,r⟩
section
variable{X:Cx}{aa:List (Sa×Sk)}{σ:St}{H:Hp}{s:Ad}{l b:Sa}{xs ys zs:List V}
def b9.lset{its its':List Rz}{n:Nat}{f:Array Rz->Array Rz}{t':Nat}(I:b9 X aa σ H s)(g:H l=b3 (.lst xs))(e:s.heap.get? l=b3 {cls:=.type "list",data:=.seq its.toArray n})(c:f its.toArray=its'.toArray)(a:bI ys its')(hz:ys.length<=sizeLine):b9 X aa σ (upd H l (.lst ys)) {s with heap:=s.heap.update l (Fx f),toks:=t'}:=by have q:=La e f;rw[c]at q;refine I.write (x:=l) (e:=l) (by rw[g];exact trivial) (.inl rfl) (λh u d b=>(Bv s.heap (Fx f) (Dl d)).trans b) ⟨_,q⟩ ?_;exact⟨hz,its',_,a,q⟩
def b9.lnew{its:List Rz}{t':Nat}(I:b9 X aa σ H s)(a:bI ys its)(hz:ys.length<=sizeLine):b9 X aa σ (upd H s.heap.objs.size (.lst ys)) {s with heap:=s.heap.push {cls:=.type "list",data:=.seq its.toArray},toks:=t'}:=
 I.laid (λ_ _ q=>Ae _ q) (Ax _) ⟨hz,its,0,a,Aw _ rfl⟩
def b9.fresh(I:b9 X aa σ H s):H s.heap.objs.size=b5:=I.hok.fresh (Ax _)
def b9.lstM(I:b9 X aa σ H s)(a:H l=b3 (.lst xs)):xs.length<=sizeLine/\∃(its:List Rz) (n:Nat),bI xs its/\xs.length=its.length/\s.heap.get? l=b3 {cls:=.type "list",data:=.seq its.toArray n}:=by obtain⟨z,its,n,r,e⟩:=I.hok l _ a;exact⟨z,its,n,r,r.length,e⟩
def nM{n:Nat}(h:n<=sizeLine):Dw n=bb:=by unfold Dw;exact decide_eq_false (by lia)
end
section
variable{X:Cx}
def B0:V->List V->Hp->VK->Prop:=λx vs H Q=>∃l xs y,x=.ref l/\vs=[y]/\H l=b3 (.lst xs)/\xs.length<sizeLine/\Q .non (upd H l (.lst (xs++[y])))
def WP:MtM X "list.append" B0:=by intro aa s σ H x vs v us Q I b c h;obtain⟨l,xs,y,rfl,rfl,a,hz,q⟩:=h;cases b;obtain⟨u,rfl,d⟩:=c.one;obtain⟨z,its,n,r,hl,e⟩:=I.lstM a;refine Eu Hr ⟨_,e,rfl⟩ Hf (Gw _ _) (Ib l its.toArray n u (by rw[Ak];lia)) ⟨e,?_⟩;refine⟨.non,_,I.lset (its':=its++[u]) a e (by simp) (r.append (.cons d .nil)) ?_,rfl,q⟩;rw[Ao,Cn];lia
end
section
variable{prog:Az}{w:Sg}{A:Cb}{E:Rz->Ad->Prop}{s:Ad}
set_option maxRecDepth 100000 in
end
section
variable{κ:Type}[DecidableEq κ]
noncomputable def RA(kvs:List (κ×V))(k:κ):Option V:=(kvs.find? λa=>decide (a.1=k)).map (·.2)
noncomputable def XR(kvs:List (κ×V))(k:κ)(v:V):List (κ×V):=
 if(kvs.any λa=>decide (a.1=k))=ba then kvs.map (λa=>if a.1=k then(a.1,v)else a)else kvs++[(k,v)]
def P5{p:κ×V}{r:List (κ×V)}{k:κ}(e:p.1=k):RA (p::r) k=b3 p.2:=by simp[RA,Gp,e]
def SX{p:κ×V}{r:List (κ×V)}{k:κ}(e:¬p.1=k):RA (p::r) k=RA r k:=by simp[RA,Gp,e]
theorem MQ(k:κ):∀kvs:List (κ×V),(kvs.any λa=>decide (a.1=k))=(RA kvs k).isSome
 |[]=>rfl
 |p::r=>by
  rw[Hs];by_cases e:p.1=k
  ·simp only[P5 e,decide_eq_true e,Bool.true_or,Ni]
  ·rw[SX e,decide_eq_false e,Rf];exact MQ k r
def SN(kvs:List (κ×V))(k:κ)(v:V):(XR kvs k v).length<=kvs.length+1:=by
 unfold XR;split
 ·rw[Ba];lia
 ·rw[Ao,Cg,Ja];lia
def lJ{kvs:List (κ×V)}{k:κ}(v:V)(h:RA kvs k=b5):XR kvs k v=kvs++[(k,v)]:=by unfold XR;rw[MQ,h];exact if_neg (by decide)
def UQ.isSome_eq{o:Option V}{u:Option Rz}(r:UQ o u):o.isSome=u.isSome:=by
 cases o with
 |none=>cases u with
  |none=>rfl
  |some _=>exact(show False from r).elim
 |some _=>cases u with
  |none=>exact(show False from r).elim
  |some _=>rfl
def UQ.getD{o:Option V}{u:Option Rz}{d:V}{d':Rz}(r:UQ o u)(a:bA d d'):bA (o.getD d) (u.getD d'):=by
 cases o with
 |none=>cases u with
  |none=>exact a
  |some _=>exact(show False from r).elim
 |some _=>cases u with
  |none=>exact(show False from r).elim
  |some _=>exact r
def KV.val{kvs:List (κ×V)}{vs:List (κ×Rz)}(r:KV kvs vs)(k:κ):UQ (RA kvs k) (Oe vs k):=by
 unfold KV at r;induction r with
 |nil=>exact True.intro
 | @cons p q ps qs h t c=>
  obtain⟨h1,h2⟩:=h;by_cases e:p.1=k
  ·have a:q.1=k:=h1.symm.trans e
   have b:Oe (q::qs) k=b3 q.2:=by simp[Oe,Gp,a]
   rw[P5 e,b];exact h2
  ·have a : ¬ q.1 = k := λz => e (h1.trans z)
   have b:Oe (q::qs) k=Oe qs k:=by simp[Oe,Gp,a]
   rw[SX e,b];exact c
def KV.any{kvs:List (κ×V)}{vs:List (κ×Rz)}(r:KV kvs vs)(k:κ):(kvs.any λa=>decide (a.1=k))=vs.any λa=>decide (a.1=k):=by
 unfold KV at r;induction r with
 |nil=>rfl
 |cons h t b=>rw[Hs,Hs,b,h.1]
def KV.repl{kvs:List (κ×V)}{vs:List (κ×Rz)}(r:KV kvs vs)(k:κ){y:V}{u:Rz}(b:bA y u):KV (kvs.map λa=>if a.1=k then(a.1,y)else a) (vs.map λa=>if a.1=k then(a.1,u)else a):=by
 unfold KV at r⊢;induction r with
 |nil=>exact .nil
 | @cons p q ps qs h t c=>
  rw[Be,Be];refine .cons ?_ c;obtain⟨h1,h2⟩:=h;by_cases e:p.1=k
  ·rw[if_pos e,if_pos (h1.symm.trans e)];exact⟨h1,b⟩
  ·rw[if_neg e,if_neg (λz=>e (h1.trans z))];exact⟨h1,h2⟩
def KV.put{kvs:List (κ×V)}{vs:List (κ×Rz)}(r:KV kvs vs)(k:κ){y:V}{u:Rz}(a:bA y u):KV (XR kvs k y) (stored vs k u):=by
 unfold XR stored;rw[r.any k];by_cases e:(vs.any λb=>decide (b.1=k))=ba
 ·rw[if_pos e,if_pos e];exact r.repl k a
 ·rw[if_neg e,if_neg e];exact Rv r ⟨rfl,a⟩
def KV.length{kvs:List (κ×V)}{vs:List (κ×Rz)}(r:KV kvs vs):kvs.length=vs.length:=Na r
end
def JT{P:Az}{w:Sg}{k:aQ}{u:Rz}(r:bA (kV k) u):(Z0 P w).is k u=ba:=by
 cases k with
 |inl i=>obtain⟨t,e⟩:=(show∃t,u=Mz i t from r);subst e;exact FP P w i t
 |inr x=>obtain⟨t,e⟩:=(show∃t,u=Kc x t from r);subst e;exact FQ P w x t
theorem JS{P:Az}{w:Sg}:∀{ks:List aQ}{us:List Rz},bI (ks.map kV) us->ItemsAre (Z0 P w) ks us
 |[],_,r=>by rw[Cf]at r;cases r;exact .nil
 |k::ks,_,r=>by
  rw[Be]at r;cases r with
  |cons h t=>exact .cons (JT h) (JS t)
abbrev KT(H:Hp):List (List aQ×V)->List (List aQ×Sa×Rz)->Prop:=Paired λp q=>p.1=q.1/\H q.2.1=b3 (.tup (p.1.map kV))/\bA p.2 q.2.2
def KT.val{H:Hp}{kvs:List (List aQ×V)}{xs:List (List aQ×Sa×Rz)}(r:KT H kvs xs)(k:List aQ):UQ (RA kvs k) ((atKey xs k).map (·.2)):=by
 induction r with
 |nil=>exact True.intro
 | @cons p q ps qs h t c=>
  obtain⟨h1,_,h2⟩:=h;by_cases e:p.1=k
  ·have a:q.1=k:=h1.symm.trans e
   have b:atKey (q::qs) k=b3 q.2:=by simp[atKey,Gp,a]
   rw[P5 e,b];exact h2
  ·have a : ¬ q.1 = k := λz => e (h1.trans z)
   have b:atKey (q::qs) k=atKey qs k:=by simp[atKey,Gp,a]
   rw[SX e,b];exact c
def KT.repl{H:Hp}{kvs:List (List aQ×V)}{xs:List (List aQ×Sa×Rz)}(r:KT H kvs xs)(k:List aQ){y:V}{u:Rz}(b:bA y u):KT H (kvs.map λa=>if a.1=k then(a.1,y)else a) (xs.map (putAt k u)):=by
 induction r with
 |nil=>exact .nil
 | @cons p q ps qs h t c=>
  rw[Be,Be];refine .cons ?_ c;obtain⟨h1,h2,d⟩:=h;unfold putAt;by_cases e:p.1=k
  ·rw[if_pos e,if_pos (h1.symm.trans e)];exact⟨h1,h2,b⟩
  ·rw[if_neg e,if_neg (λz=>e (h1.trans z))];exact⟨h1,h2,d⟩
def KT.put{H:Hp}{kvs:List (List aQ×V)}{xs:List (List aQ×Sa×Rz)}(r:KT H kvs xs)(k:List aQ){b:Sa}{y:V}{u:Rz}(d:H b=b3 (.tup (k.map kV)))(a:bA y u):KT H (XR kvs k y) (storedH xs k b u):=by
 have e:(kvs.any λc=>decide (c.1=k))=(atKey xs k).isSome:=by rw[MQ,(r.val k).isSome_eq,Option.isSome_map]
 unfold XR storedH;rw[e];by_cases q:(atKey xs k).isSome=ba
 ·rw[if_pos q,if_pos q];exact r.repl k a
 ·rw[if_neg q,if_neg q];exact Rv r ⟨rfl,d,a⟩
def KT.keeps{H H':Hp}{kvs:List (List aQ×V)}{xs:List (List aQ×Sa×Rz)}(r:KT H kvs xs)(a:∀b ys,H b=b3 (.tup ys)->H' b=b3 (.tup ys)):KT H' kvs xs:=
 Paired.mapP r λ_ _ z=>⟨z.1,a _ _ z.2.1,z.2.2⟩
section
variable{P:Az}{w:Sg}{H:Hp}{h:Si}{a:Sa}
def Wj{u:HO}(ok:UN P w H h)(e:Rd H a u):aG P w H h a u:=e.ok ok
def JI{kvs:List (aQ×V)}(ok:UN P w H h)(e:Rd H a (.dK kvs)):kvs.length<=sizeLine/\(a==Gf)=bb/\∃vs,KV kvs vs/\h.DictOf (Z0 P w) a vs:=
 show aG P w H h a (.dK kvs) from Wj ok e
def Wc{kvs:List (aQ×V)}(ok:UN P w H h)(e:H a=b3 (.dK kvs)):kvs.length<=sizeLine/\(a==Gf)=bb/\∃vs,KV kvs vs/\h.DictOf (Z0 P w) a vs:=JI ok (Rd.of e)
def LX{ks:List aQ}(ok:UN P w H h)(e:H a=b3 (.tup (ks.map kV))):(tupleKind (Z0 P w)).is h ks a:=by obtain⟨_,its,r,o,h1,h2,n,b⟩:=(show aG P w H h a (.tup (ks.map kV)) from ok a _ e);exact⟨o,its.toArray,n,h1,h2,b,by simpa using JS r⟩
def JM{kvs:List (List aQ×V)}(ok:UN P w H h)(e:Rd H a (.dT kvs)):kvs.length<=sizeLine/\(a==Gf)=bb∧ ∃xs,KT H kvs xs/\h.DictOfH (tupleKind (Z0 P w)) a xs:=by
 obtain⟨z,y,xs,r,o,es,j,h1,h2,i,g,f⟩:=(show aG P w H h a (.dT kvs) from Wj ok e);refine⟨z,y,xs,r,o,es,j,h1,h2,i,g,λx b=>?_,f⟩;have all:∀{l:List (List aQ×V)}{m:List (List aQ×Sa×Rz)},KT H l m->∀x∈m,(tupleKind (Z0 P w)).is h x.1 x.2.1:=by
  intro l m q;induction q with
  |nil=>intro x b;exact nomatch b
  | @cons p q ps qs c t d=>
   intro x b;rcases Ar.mp b with e|b
   ·subst e
    exact LX ok (by rw[<-c.1];exact c.2.1)
   ·exact d x b
 exact all r x b
def kF{kvs:List (List aQ×V)}(ok:UN P w H h)(e:H a=b3 (.dT kvs)):kvs.length<=sizeLine/\(a==Gf)=bb∧ ∃xs,KT H kvs xs/\h.DictOfH (tupleKind (Z0 P w)) a xs:=JM ok (Rd.of e)
end
def NY(H:Hp)(a:Sa)(y:V)(r:Option V):Prop:=
 (∃kvs k,Rd H a (.dK kvs)/\y=kV k/\r=RA kvs k)∨∃kvs k b,Rd H a (.dT kvs)/\y=.ref b/\H b=b3 (.tup (k.map kV))/\r=RA kvs k
def DPut(H:Hp)(a:Sa)(y v:V)(H':Hp):Prop:=
 (∃kvs k,H a=b3 (.dK kvs)/\y=kV k/\kvs.length<sizeLine/\H'=upd H a (.dK (XR kvs k v)))∨
 ∃kvs k b,H a=b3 (.dT kvs)/\y=.ref b/\H b=b3 (.tup (k.map kV))/\kvs.length<sizeLine/\H'=upd H a (.dT (XR kvs k v))
def NY.k{H:Hp}{a:Sa}{kvs:List (aQ×V)}{k:aQ}(e:H a=b3 (.dK kvs)):NY H a (kV k) (RA kvs k):=.inl ⟨kvs,k,Rd.of e,rfl,rfl⟩
def DPut.k{H:Hp}{a:Sa}{kvs:List (aQ×V)}{k:aQ}{v:V}(e:H a=b3 (.dK kvs))(hl:kvs.length<sizeLine):DPut H a (kV k) v (upd H a (.dK (XR kvs k v))):=.inl ⟨kvs,k,e,rfl,hl,rfl⟩
section
variable{X:Cx}{aa:List (Sa×Sk)}{σ:St}{H:Hp}{s:Ad}{a:Sa}{y v:V}{u r:Rz}{o:Option V}{A:Cb}{E:Rz->Ad->Prop}
def b9.big(I:b9 X aa σ H s):Gf<s.heap.objs.size:=by have h:Sc<s.heap.objs.size:=(I.mod.glob.keeps I.bk).lt;exact Nat.lt_trans (by decide) h
def gF{Q:Rz->Ad->Prop}(m:A.units+1<cLine)(I:b9 X aa σ H s)(g:NY H a y (b3 v))(j:bA y u)(h:∀w' s',b9 X aa σ H s'->bA v w'->Q w' s'):Sd (Se X.prog X.w) A (Kn (.ref a) u) Q E s:=by
 rcases g with⟨kvs,k,e,i,l⟩|⟨kvs,k,b,e,i,q,l⟩
 ·subst i
  obtain⟨z,hd,vs,d,dd⟩:=JI I.hok e;obtain⟨w',hw,c⟩:=UQ.some_of (v:=v) (o:=Oe vs k) (by rw[l];exact d.val k);exact wpAny_getItem_of (JT j) dd.mapOf hw (h w' _ (I.tok _) c)
 ·subst i
  cases (show u=Bk b from j);obtain⟨z,hd,xs,d,dd⟩:=JM I.hok e;obtain⟨w',hw,c⟩:=UQ.some_of (v:=v) (o:=(atKey xs k).map (·.2)) (by rw[l];exact d.val k);obtain⟨p,n,f⟩:=An.mp hw;refine wpAny_getItem_heap (Ht m) (LX I.hok q) dd n ?_;rw[f];exact h w' _ (I.tok _) c
def HB{h':Si}{t':Nat}{c:HO}(I:b9 X aa σ H s)(d:Mut (H a))(f:Er a s.heap h')(g:∃q,h'.get? a=b3 q)(new:aG X.prog X.w (upd H a c) h' a c):b9 X aa σ (upd H a c) {s with heap:=h',toks:=t'}:=
 I.write (x:=a) (e:=a) d (.inl rfl) (λb q h z=>(f.2 b h).trans z) g new
def Wx{P:Az}{w:Sg}{H':Hp}{h':Si}{kvs:List (aQ×V)}{vs:List (aQ×Rz)}(z:kvs.length<=sizeLine)(hd:(a==Gf)=bb)(b:KV kvs vs)(dd:h'.DictOf (Z0 P w) a vs):aG P w H' h' a (.dK kvs):=⟨z,hd,vs,b,dd⟩
def mQ{H':Hp}{Q:Unit->Ad->Prop}(B:A.units+1<cLine)(I:b9 X aa σ H s)(g:DPut H a y v H')(o:bA y u)(p:bA v r)(h:∀s',b9 X aa σ H' s'->Q () s'):Sd (Se X.prog X.w) A (Mp (.ref a) u r) Q E s:=by
 rcases g with⟨kvs,k,e,m,l,n⟩|⟨kvs,k,b,e,m,x,l,n⟩
 ·subst m n
  obtain⟨z,hd,vs,d,dd⟩:=Wc I.hok e;have hz:vs.length<=sizeLine:=by rw[<-d.length];exact z
  have hl:(XR kvs k v).length<=sizeLine:=by have:=SN kvs k v;lia
  refine wpAny_setItem_pairs (hsz:=hz) (JT o) dd λh' f j=>h _ ?_;have C:∃q,h'.get? a=b3 q:=let ⟨q,_,_,i,_⟩:=f;⟨q,i⟩
  exact HB I (by rw[e];exact True.intro) j C (Wx hl hd (d.put k p) f)
 ·subst m n
  cases (show u=Bk b from o);obtain⟨z,hd,xs,d,dd⟩:=kF I.hok e;have hz:xs.length<=sizeLine:=by rw[<-Na d];exact z
  have hl:(XR kvs k v).length<=sizeLine:=by have:=SN kvs k v;lia
  refine wpAny_setItem_heap (hsz:=hz) (Ht B) (LX I.hok x) dd λh' f j=>h _ ?_;obtain⟨q,es,J,i,h2,G,F,_,D⟩:=f;refine HB I (by rw[e];exact True.intro) j ⟨q,i⟩ ⟨hl,hd,_,(d.put k x p).keeps λc ys t=>?_,q,es,J,i,h2,G,F,D⟩;rw[cH (Y3 t e (λz=>nomatch z))];exact t
end
def E4{X:Cx}{aa:List (Sa×Sk)}{σ:St}{H:Hp}{s:Ad}{a:Sa}{y:V}{o:Option V}(I:b9 X aa σ H s)(g:NY H a y o):s.TypeIs (.ref a) "dict":=by
 rcases g with⟨kvs,k,e,_,_⟩|⟨kvs,k,b,e,_,_,_⟩
 ·obtain⟨_,_,vs,_,dd⟩:=JI I.hok e
  exact dd.typeIs
 ·obtain⟨_,_,xs,_,dd⟩:=JM I.hok e
  exact dd.typeIs
def cZ(td ty tv:TE):TS:=λD σ H=>tv σ H λv H1=>td σ H1 λx H2=>ty σ H2 λy c=>∃a b,x=.ref a/\DPut c a y v b/\D.nx σ b
section
variable{X:Cx}{o i e value:Sf}{pos ag c7:Pos}{td ty tv:TE}
def gS(f:X.A.units+1<cLine)(k:PE X o td)(hi:PE X i ty)(e:PE X value tv)(j:Fu value (b3 (.Subscript o i ag)) pos.line X.env=pure bb):PS X (.Assign [.Subscript o i ag] value pos) (cZ td ty tv):=by intro aa s σ H D I h;refine wpAny_Assign_Subscript (ZP (e aa s σ H _ I h) λr s1 ⟨v,H1,p,d,q1⟩=>ZP (k aa s1 σ H1 _ p q1) λu s2 ⟨x,H2,n,c,q2⟩=>ZP (hi aa s2 σ H2 _ n q2) λz w ⟨y,B,m,b,a,q,ex,g,q3⟩=>?_) j;subst ex;obtain rfl:u=Bk a:=c;exact mQ f m g b d λt l=>⟨σ,q,l,q3⟩
end
def E5{P:Az}{w:Sg}{H:Hp}(h:Si)(a:Gf<h.objs.size):aG P w H (h.push {cls:=.type "dict",data:=.dict #[]}) h.objs.size (.dK []):=
 ⟨Ee _,beq_eq_false_iff_ne.mpr (Dl (Bl a)),[],.nil,Heap.DictOf.new h⟩
def Zx:TE:=λ_ H Q=>∀p,H p=b5->Q (.ref p) (upd H p (.dK []))
section
variable{X:Cx}{pos:Pos}
def FZ:PE X (.Dict [] [] pos) Zx:=λaa s σ H Q I h=>
 wpAny_Dict_empty ⟨.ref s.heap.objs.size,_,I.laid (a:=s.heap.objs.size) (o:=.dK []) (t':=s.toks) (λ_ _ q=>Ae _ q) (Ax _) (E5 s.heap I.big),rfl,h _ (I.hok.fresh (Ax _))⟩
end
def IK:List (TE×TE)->St->Hp->(List (V×V)->Hp->Prop)->Prop
 |[],_,H,Q=>Q [] H
 |(tk,tv)::r,σ,H,Q=>tk σ H λx H1=>tv σ H1 λy H2=>IK r σ H2 λps a=>Q ((x,y)::ps) a
abbrev VV:List (V×V)->List (Rz×Rz)->Prop:=Paired λp q=>bA p.1 q.1/\bA p.2 q.2
def PPs(X:Cx)(pos:Pos)(b:List (Option Sf))(c:List Sf)(a:List (TE×TE)):Prop:=
 ∀(aa:List (Sa×Sk)) (s:Ad) (σ:St) (H:Hp) (Q:List (V×V)->Hp->Prop),b9 X aa σ H s->IK a σ H Q->
  Sd (Se X.prog X.w) X.A (evalPairs (pairTrees b c X.env pos)) (λvs s'=>∃ps H',b9 X aa σ H' s'/\VV ps vs/\Q ps H') X.xe s
def dC{X:Cx}{pos:Pos}:PPs X pos [] [] []:=λaa s σ H Q I h=>pairTrees_nil_walk ⟨[],H,I,.nil,h⟩
def lP{X:Cx}{pos:Pos}{k v:Sf}{ks:List (Option Sf)}{vs:List Sf}{tk tv:TE}{a:List (TE×TE)}(hk:PE X k tk)(e:PE X v tv)(f:PPs X pos ks vs a):PPs X pos (b3 k::ks) (v::vs) ((tk,tv)::a):=λaa s σ H Q I h=>
 pairTrees_cons_walk (ZP (hk aa s σ H _ I h) λu s1 ⟨x,H1,j,d,q1⟩=>ZP (e aa s1 σ H1 _ j q1) λm s2 ⟨y,H2,i,c,q2⟩=>
  ZP (f aa s2 σ H2 _ i q2) λws n ⟨ps,l,g,b,q3⟩=>⟨(x,y)::ps,l,g,.cons ⟨d,c⟩ b,q3⟩)
def UF(kvs more:List (aQ×V)):List (aQ×V):=more.foldl (λacc a=>XR acc a.1 a.2) kvs
def KV.merge:∀{more:List (aQ×V)}{rs:List (aQ×Rz)}{kvs:List (aQ×V)}{vs:List (aQ×Rz)},KV more rs->KV kvs vs->KV (UF kvs more) (merged vs rs):=by
 intro more rs kvs vs r;unfold KV at r;induction r generalizing kvs vs with
 |nil=>intro q;exact q
 | @cons p q ps qs h t b=>
  intro a;have e:KV (XR kvs p.1 p.2) (stored vs q.1 q.2):=by
   have:=a.put p.1 h.2
   rw[<-h.1];exact this
  exact b e
theorem QZ:∀(more kvs:List (aQ×V)),(UF kvs more).length<=kvs.length+more.length
 |[],kvs=>by show kvs.length<=kvs.length+0;lia
 |p::r,kvs=>by have h1:=QZ r (XR kvs p.1 p.2);have h2:=SN kvs p.1 p.2;show(UF (XR kvs p.1 p.2) r).length<=_;rw[Cg];lia
theorem LC{P:Az}{w:Sg}:∀{kvs:List (aQ×V)}{ws:List (Rz×Rz)},VV (kvs.map λd=>(kV d.1,d.2)) ws->∃rs,Carries (Z0 P w) ws rs/\KV kvs rs
 |[],_,r=>by rw[Cf]at r;cases r;exact⟨[],True.intro,.nil⟩
 | p :: kvs,_,r => by
  rw[Be]at r;cases r with
  | @cons a b as bs h t=>
   obtain⟨rs,c,q⟩:=LC (P:=P) (w:=w) t;obtain⟨f,e⟩:=b;exact⟨(p.1,e)::rs,⟨JT h.1,rfl,c⟩,.cons ⟨rfl,h.2⟩ q⟩
def dM(a:List (TE×TE)):TE:=λσ H Q=>∀p,H p=b5->IK a σ (upd H p (.dK [])) λps H2=>H2 p=b3 (.dK [])/\∃kvs:List (aQ×V),ps=kvs.map (λb=>(kV b.1,b.2))/\kvs.length<=15/\Q (.ref p) (upd H2 p (.dK (UF [] kvs)))
def kO{X:Cx}{pos:Pos}{b:List (Option Sf)}{j:List Sf}{d:List (TE×TE)}(h:PPs X pos b j d)(y:b.all (·.isSome)=ba)(hl:b.length=j.length)(v:b≠[])(i:b.length<=15):PE X (.Dict b j pos) (dM d):=by
 intro aa s σ H Q I q;have t:=I.hok.fresh (Ax s.heap.objs.size);have A:=I.laid (a:=s.heap.objs.size) (o:=.dK []) (h':=s.heap.push {cls:=.type "dict",data:=.dict #[]}) (t':=s.toks) (λ_ _ q=>Ae _ q) (Ax _) (E5 s.heap I.big);refine wpAny_Dict_walk (knd:=Z0 X.prog X.w) y hl v i (ZP (h aa _ σ _ _ A (q _ t)) λws s2 ⟨ps,H2,k,g,e,kvs,x,B,q2⟩=>?_);subst x;obtain⟨rs,c,m⟩:=LC (P:=X.prog) (w:=X.w) g;obtain⟨z,hd,l,n,dd⟩:=Wc k.hok e;cases n;refine⟨rs,c,dd,λh' f p=>⟨.ref s.heap.objs.size,_,?_,rfl,q2⟩⟩;have hz:(UF [] kvs).length<=sizeLine:=by have h1:=QZ kvs [];rw[Ja]at h1;rw[Ce];lia
 have u:∃q,h'.get? s.heap.objs.size=b3 q:=let ⟨q,_,_,r,_⟩:=f;⟨q,r⟩
 exact HB k (by rw[e];exact True.intro) p u (Wx hz hd (m.merge .nil) f)
structure M1(X:Cx)(o:Sf)(m:Sb)(af:Pos)(e:Sf)(ae:Pos):Prop where
 base:Cd o m X.env (eval o X.env)=eval o X.env
 few:((Ct ae (Ap [e] X.env)).all (λx=> !x.1)&&(Gu ae (Eh [] X.env)).all (λx=>x.1.isSome)
  && decide (([e]:List Sf).length+([]:List Fo).length+(if([]:List Fo).isEmpty then 0 else 1)<30))=ba
 line:(af.endLine==ae.line)=ba
 trees:Ct ae (Ap [e] X.env)=[(bb,eval e X.env)]
structure M2(X:Cx)(o:Sf)(m:Sb)(af:Pos)(e f:Sf)(ae:Pos):Prop where
 base:Cd o m X.env (eval o X.env)=eval o X.env
 few:((Ct ae (Ap [e,f] X.env)).all (λx=> !x.1)&&(Gu ae (Eh [] X.env)).all (λx=>x.1.isSome)
  && decide (([e,f]:List Sf).length+([]:List Fo).length+(if([]:List Fo).isEmpty then 0 else 1)<30))=ba
 line:(af.endLine==ae.line)=ba
 trees:Ct ae (Ap [e,f] X.env)=[(bb,eval e X.env),(bb,eval f X.env)]
def IsD(H:Hp)(a:Sa):Prop:=(∃kvs,Rd H a (.dK kvs))∨∃kvs,Rd H a (.dT kvs)
def Uj{X:Cx}{aa:List (Sa×Sk)}{σ:St}{H:Hp}{s:Ad}{a:Sa}(I:b9 X aa σ H s)(d:IsD H a):s.TypeIs (.ref a) "dict" /\(∀b,Bk a=.ref b->∃c,s.heap.get? b=b3 c/\c.dict=b5)/\(a==Gf)=bb:=by
 rcases d with⟨kvs,e⟩|⟨kvs,e⟩
 ·obtain⟨_,hd,vs,_,dd⟩:=JI I.hok e
  refine⟨dd.typeIs,λb q=>?_,hd⟩;cases q;obtain⟨c,_,_,h1,h2,_⟩:=dd;exact⟨c,h1,h2.2.1⟩
 ·obtain⟨_,hd,xs,_,dd⟩:=JM I.hok e
  refine⟨dd.typeIs,λb q=>?_,hd⟩;cases q;obtain⟨c,_,_,h1,h2,_⟩:=dd;exact⟨c,h1,h2.2.1⟩
section
variable{X:Cx}{aa:List (Sa×Sk)}{σ:St}{H:Hp}{s:Ad}{a:Sa}{y d:V}{u r:Rz}{o:Option V}{A:Cb}{E:Rz->Ad->Prop}
def kD{Q:Rz->Ad->Prop}(i:A.units+1<cLine)(I:b9 X aa σ H s)(g:NY H a y o)(f:bA y u)(h:∀w' s',b9 X aa σ H s'->bA (o.getD .non) w'->Q w' s'):Sd (Se X.prog X.w) A (call (.builtin "dict.get") [.ref a,u]) Q E s:=by
 rcases g with⟨kvs,k,e,d,l⟩|⟨kvs,k,b,e,d,j,l⟩
 ·subst d
  obtain⟨z,hd,vs,c,dd⟩:=JI I.hok e;refine Lq Dx dd.typeIs Fa (Hu _ _) (meets_dict_get (Z0 X.prog X.w) a (JT f) hd) ⟨_,dd.mapOf,h _ _ (I.tok _) ?_⟩;rw[l];exact(c.val k).getD rfl
 ·subst d
  cases (show u=Bk b from f);obtain⟨z,hd,xs,c,dd⟩:=JM I.hok e;refine Lq Dx dd.typeIs Fa (Hu _ _) (meetsH_dict_get (tupleKind (Z0 X.prog X.w)) a b hd) ⟨Ht i,k,xs,LX I.hok j,dd,h _ _ (I.tok _) ?_⟩;rw[l];exact(c.val k).getD rfl
def mT{Q:Rz->Ad->Prop}(m:A.units+1<cLine)(I:b9 X aa σ H s)(g:NY H a y o)(i:bA y u)(j:bA d r)(h:∀w' s',b9 X aa σ H s'->bA (o.getD d) w'->Q w' s'):Sd (Se X.prog X.w) A (call (.builtin "dict.get") [.ref a,u,r]) Q E s:=by
 rcases g with⟨kvs,k,e,f,l⟩|⟨kvs,k,b,e,f,n,l⟩
 ·subst f
  obtain⟨z,hd,vs,c,dd⟩:=JI I.hok e;refine Lq Dx dd.typeIs Fa (Ko _ _ _) (meets_dict_get_default (Z0 X.prog X.w) a (JT i) hd r) ⟨_,dd.mapOf,h _ _ (I.tok _) ?_⟩;rw[l];exact(c.val k).getD j
 ·subst f
  cases (show u=Bk b from i);obtain⟨z,hd,xs,c,dd⟩:=JM I.hok e;refine Lq Dx dd.typeIs Fa (Ko _ _ _) (meetsH_dict_get_default (tupleKind (Z0 X.prog X.w)) a b hd r) ⟨Ht m,k,xs,LX I.hok n,dd,h _ _ (I.tok _) ?_⟩;rw[l];exact(c.val k).getD j
end
def Zl(td ty tx:TE):TE:=λσ H Q=>td σ H λx H1=>∃a,x=.ref a/\IsD H1 a/\ty σ H1 λy H2=>tx σ H2 λz b=>∃o,NY b a y o/\Q (o.getD z) b
section
variable{X:Cx}{o e f:Sf}{af ae:Pos}{td ty tx:TE}
def nJ(n:X.A.units+1<cLine)(p:PE X o td)(r:PE X e ty)(q:PE X f tx)(m:M2 X o "get" af e f ae):PE X (.Call (.Attribute o "get" af) [e,f] [] ae) (Zl td ty tx):=by
 intro aa s σ H Q I h;refine Of m.base m.few m.line Kp Dx Lr (ZP (p aa s σ H _ I h) λu s1 ⟨x,H1,c,l,a,ex,d,q1⟩=>?_);subst ex;obtain rfl:u=Bk a:=l;obtain⟨j,i,_⟩:=Uj c d;refine⟨j,i,?_⟩;rw[m.trees];refine Gh rfl (Ft (Gj (ZP (r aa s1 σ H1 _ c q1) λF s2 ⟨y,H2,w,k,q2⟩=>
  Gj (ZP (q aa s2 σ H2 _ w q2) λfv D ⟨z,B,v,rz,E,g,q3⟩=>Hz ?_))))
 exact mT n v g k rz λw' C t b=>⟨_,B,t,b,q3⟩
end
end L2
namespace Att
open PySem PySem.W PySem.Calls PyProof.Rows
def NF{P:Mj}{h:Si}:∀(ns:List Int) (vs:List Rz),WellAll P h vs (ns.map WData.int)->Og vs ns:=by
 intro ns;induction ns with
 |nil=>
  intro vs w;rw[Cf]at w;cases w;exact .nil
 |cons n ns c=>
  intro vs w;rw[Be]at w;cases w with
  |cons a b=>
   cases a;exact .cons _ _ (c _ b)
def nu{l:OpenLaw}{n:Nat}(p:l.most=b3 n){P:Mj}{h:Si}{args:List WData}{b:List Rz}(c:l.row.toRowW.claim.pre args=ba)(g:WellAll P h b args):∃a vs ns,b=[Bk a]/\args=[WData.list (ns.map WData.int)]/\h.get? a=b3 {cls:=.type "list",data:=.seq vs.toArray}/\Og vs ns/\ns.length<=n:=by
 have i:WShape.hasAll [] args [.list .int]=ba:=(pre_splitW c).1;have hc:l.pre.holds [] {args:=args}=ba:=(pre_splitW c).2;obtain⟨d,r,rfl,h1,h2⟩:=hasAllW_cons i;obtain rfl:=hasAllW_nil h2;obtain⟨xs,rfl,s⟩:=hasW_list h1;obtain⟨ns,rfl⟩:=items_int s;have u:ns.length<=n:=by
  unfold OpenLaw.pre at hc;have f:(WTm.not (.lt (.lit (.int (n:Int))) (.len (.arg 0)))).holds [] {args:=[.list (ns.map .int)]}=ba:=by have f:=(holds_andW hc).1;rw[p]at f;exact f
  have e:=condW_of f (w_not (w_lt w_lit (w_len_list (w_arg rfl))));rw[Ba]at e;refine Nat.le_of_not_lt λq=>?_;have m:(n:Int)<((ns.length:Nat):Int):=by lia
  first
   |(rw[decide_eq_true m]at e;exact absurd e (by decide))
   |(simp at e;lia)
 cases g with
 |cons k j=>
  cases j;cases k with
  |list o t=>exact⟨_,_,ns,rfl,rfl,o,NF ns _ t,u⟩
def jY(l:OpenLaw)(args:List WData):l.row.toRowW.claim.post args (.bool ba) args=ba:=
 postW_of (r:=l.row.toRowW) (X:=(ba==ba))
  (show Ry [] (.bool ba) .bool=ba by first|rfl|decide|simp[Ry,WShape.arms,WShape.armsAll])
  (show(WTm.eq .res (.lit (.bool ba))).value [] {args:=args,res:=b3 (.bool ba),after:=args}=b3 (.bool (ba==ba)) from w_eq_bool (w_res rfl) w_lit) rfl
def ET{l:OpenLaw}{n:Nat}{q:Az}{loose:List Sb}{XP:(Sb->Option Rz)->Si->Prop}{YP:Sg->Si->Prop}{d:DefRec}(z:l.most=b3 n)(m:d.params.defaults=[])(call:∀(w:Sg) (s₀ b:Ad) (mg i:Sb->Option Rz) (fa:Sa) (o:Sk) (h cd doc:Rz) (a:Sa) (vs:List Rz) (ns:List Int),Ground q loose [] XP w s₀ mg i b.heap->YP w b.heap->b.heap.get? fa=b3 o->o.data=.func (docDef d.name d.params d.body d.scope h cd doc)->b.heap.CodeRec cd d.name->mg d.name=b3 (.ref fa)->b.heap.get? a=b3 {cls:=.type "list",data:=.seq vs.toArray}->Og vs ns->ns.length<=n->b.gens= #[]->Ij (Se l.prog w) Ms (.call (.ref fa) ⟨[.ref a],[]⟩) (λr s'=>r=.ok (.ret (.bool ba))/\OldK b.heap s'.heap/\s'.os=b.os/\Kl s'.gens) b):WalkO q loose XP YP l.row.toRowW d [] (λf vs=>Qt f vs):=by intro w s₀ b mg i G Y fa o h cd doc dV kV y hd p u k C args s as e t v j B;obtain rfl:dV=.none:=Dflts.none u m;obtain rfl:kV=.none:=Dflts.noKw u;obtain⟨a,vs,ns,rfl,rfl,g,c,F⟩:=nu z e j;refine enter_call (Ih (call w s₀ b mg i fa o h cd doc a vs ns G Y y (fd_plain hd) p k g c F C) λr s' x=>?_);obtain⟨rfl,h2,E,D⟩:=x;exact⟨.inl ⟨.bool ba,.bool ba,[],rfl,λ_=>rfl,.bool ba,jY l _,λ_=>⟨Oh,λ_ A=>(nomatch A)⟩⟩,h2,E,D⟩
end Att
namespace L2
open PySem PySem.Spec PyProof.Rows
theorem KA:∀{vs:List Rz}{ns:List Int},Og vs ns->bI (ns.map V.int) vs
 |_,_,.nil=>.nil
 |_,_,.cons n t h=>.cons ⟨t,rfl⟩ (KA h)
def Only(H:Hp):Prop:=∀b,H b=b5∨∃o xs,H b=b3 (.frz o (.lst xs))
def iN{P:Az}{w:Sg}{K:Ag}{mg B:Sb->Option Rz}{CX:CS}{k:Nat}{fa a:Sa}{fd:Ch}{x:Sb}{sp:Sp}{c:Ad}{vs:List Rz}{ns:List Int}(Q:K.In c.heap)(j:c.heap.Ns Sc mg)(f:c.heap.Ns builtinsNs B)(D:∀x:Sb,x≠ "__name__" ->B x=Bm x)(gw:c.heap.NoLimit)(X:c.gens= #[])(y:c.heap.get? a=b3 {cls:=.type "list",data:=.seq vs.toArray})(hi:Og vs ns)(hl:ns.length<=sizeLine)(W:Z4 k Ms)(F:∀base:Si,K.In base->base.Ns Sc mg->YV P w K mg base CX k fa fd [x] sp)(fm:∀(s:Ad) (u:Rz),Ob s fd ⟨[u],[]⟩ [(x,u)])(C:∀H:Hp,Only H->XV K H a (ns.map V.int)->sp [.ref a] H (λv _=>v=.bl ba) λ_ _ _=>False)(E:∀H e s',CX [] H c (λ_ _ _=>False) e s'->False):Ij (Se P w) Ms (.call (.ref fa) ⟨[.ref a],[]⟩) (λr s'=>r=.ok (.ret (.bool ba))/\OldK c.heap s'.heap/\s'.os=c.os/\Kl s'.gens) c:=by
 have I:=KA hi;have g9:=hi.length;have M: ∀H:Hp,Only H->XV K H a (ns.map V.int)->UN P w H c.heap->(∀b,H b≠b5->b=a)->(H a≠b5->K.lookup a=b5)->
   Ij (Se P w) Ms (.call (.ref fa) ⟨[.ref a],[]⟩) (λr s'=>r=.ok (.ret (.bool ba))/\OldK c.heap s'.heap/\s'.os=c.os/\Kl s'.gens) c:=by
  intro H J Y i L hK;have O:∀{b:Sa}{o:Sk},c.heap.get? b=b3 o->H b=b5->(HJ c.heap H).get? b=b3 o:=λe n=>Zi e n;have A:∀{b:Sa}{o:Sk}{es:Array Lj}{p:Nat},c.heap.get? b=b3 o->o.data=.dict es p->H b=b5:=λ{b o es p} e d=>by
   cases q:H b with
   |none=>rfl
   |some u=>
    have G:b=a:=L b (by rw[q];simp);subst G;rw[y]at e;cases e;have d':Data.seq vs.toArray _=Data.dict es p:=d;cases d'
  have g:∀{b:Sa}{m:Sb->Option Rz},c.heap.Ns b m->(HJ c.heap H).Ns b m:=λ{b m} ⟨o,es,p,e,d,r⟩=>⟨o,es,p,O e (A e d),d,r⟩;have l:K.In (HJ c.heap H):=λb o e=>O (Q b o e) (by
   cases q:H b with
   |none=>rfl
   |some u=>
    have G:b=a:=L b (by rw[q];simp);subst G;rw[hK (by rw[q];simp)]at e;cases e)
  have Z:Mod K mg (HJ c.heap H):=⟨l,g j,⟨B,g f,D⟩,let ⟨U,h1,h2⟩:=gw;⟨U,g h1,h2⟩⟩;have e0:GN P w K mg (HJ c.heap H) Ms [] c H:=⟨rfl,Z,λb o e=>jl e,Nat.le_of_eq (nT _ _),trivial,λb f=>absurd (show b∈([]:List Sa) from f) (by simp),i,.of_eq X⟩;refine Ih ((F _ l (g j)).run Ms [] c H ⟨[.ref a],[]⟩ [.ref a] [.ref a] _ _ W e0 (fm c (.ref a)) (.cons rfl .nil) (C H J Y)) λr s' h=>?_;cases r with
  |error e=>exact(E H e s' h).elim
  |ok fl=>
   cases fl with
   |next=>exact Fd h
   |brk=>exact Fd h
   |cont=>exact Fd h
   |ret u=>
    obtain⟨v,H',os,t,un,gk,r',q⟩:=h;have S:v=.bl ba:=q;subst S;obtain rfl:u=Ge ba:=r';refine⟨rfl,OldK.of_keep λb o e=>?_,os,t⟩;cases q:H b with
    |none=>exact un.keep b o e q (by intro z;exact absurd (show b∈([]:List Sa) from z) (by simp)) (by simp)
    |some u=>
     rcases J b with z|⟨T,xs,z⟩
     ·rw[q]at z;cases z
     ·have R:=un.frzs b T _ z
      obtain⟨N,_⟩:=i b _ z;obtain⟨e2,_⟩:=gk b _ R;rw[e]at N;cases N;exact e2
 cases hk:K.lookup a with
 |some o=>
  have e:=Q a o hk;rw[y]at e;cases e;refine M (λ_=>b5) (λ_=>.inl rfl) (.inr ⟨_,vs.toArray,_,hk,rfl,rfl,rfl,by rw[Ak,g9];exact hl,by simpa using I⟩) (λb u z=>by have z':(b5:Option HO)=b3 u:=z;cases z') (λb z=>absurd rfl z) λz=>absurd rfl z
 |none=>
  refine M (λb=>if b=a then b3 (.frz {cls:=.type "list",data:=.seq vs.toArray} (.lst (ns.map V.int)))else b5) (λb=>?_) (.inl (.inr ⟨{cls:=.type "list",data:=.seq vs.toArray},if_pos rfl⟩)) (λb u z=>?_) (λb z=>?_) λ_=>hk
  ·by_cases f:b=a
   ·exact .inr ⟨_,_,if_pos f⟩
   ·exact .inl (if_neg f)
  ·by_cases f:b=a
   ·have z':=(if_pos f).symm.trans z
    cases z';subst f;exact⟨y,by rw[Ba];exact hl,vs,_,I,y⟩
   ·have z':=(if_neg f).symm.trans z
    cases z'
  ·by_cases f:b=a
   ·exact f
   ·exact absurd (if_neg f) z
def Zg{l:Ro}{n k:Nat}{q:Az}{loose:List Sb}{XP:(Sb->Option Rz)->Si->Prop}{YP:Sg->Si->Prop}{d:DefRec}{K:Mj->Ag}{CX:Sg->CS}{sp:Sg->Sp}{x:Sb}(C:l.most=b3 n)(p:n<=sizeLine)(t:d.params.defaults=[])(B:Z4 k Ms)(J:∀(w:Sg) (h:Si),YP w h->(K w.params).In h)(F:∀(w:Sg) (mg:Sb->Option Rz) (fa:Sa) (h:Si),(K w.params).In h->h.Ns Sc mg->mg d.name=b3 (.ref fa)->∃fd:Ch,(∀(s:Ad) (u:Rz),Ob s fd ⟨[u],[]⟩ [(x,u)])∧ ∀base:Si,(K w.params).In base->base.Ns Sc mg->YV l.prog w (K w.params) mg base (CX w) k fa fd [x] (sp w))(m:∀(w:Sg) (H:Hp) (a:Sa) (ns:List Int),ns.length<=n->Only H->XV (K w.params) H a (ns.map V.int)->sp w [.ref a] H (λv _=>v=.bl ba) λ_ _ _=>False)(y:∀(w:Sg) (H:Hp) (s:Ad) (e:Rz) (s':Ad),CX w [] H s (λ_ _ _=>False) e s'->False):W.WalkO q loose XP YP l.row.toRowW d [] (λf vs=>Qt f vs):=by refine Att.ET C t λw s₀ i mg P fa o O cd doc a vs ns G Y Q hd E r j c z D=>?_;have A:=J w _ Y;obtain⟨fd,I,N⟩:=F w mg fa _ A G.T.g r;exact iN A G.T.g G.T.b G.T.builtins G.T.nolimit D j c (Ei z p) B N I (λH M L=>m w H a ns z M L) λH e s'=>y w H i e s'
def zBM{l:Ro}{n k:Nat}{q:Az}{loose:List Sb}{XP:(Sb->Option Rz)->Si->Prop}{YP:Sg->Si->Prop}{d:DefRec}{K:Mj->Ag}{CX:CS}{sp:Ag->Sp}{x:Sb}(m:l.most=b3 n)(c:n<=sizeLine)(g:d.params.defaults=[])(j:Z4 k Ms)(o:∀(w:Sg) (h:Si),YP w h->(K w.params).In h)(F:∀(w:Sg) (mg:Sb->Option Rz) (fa:Sa) (h:Si),(K w.params).In h->h.Ns Sc mg->mg d.name=b3 (.ref fa)->∃fd:Ch,(∀(s:Ad) (u:Rz),Ob s fd ⟨[u],[]⟩ [(x,u)])∧ ∀base:Si,(K w.params).In base->base.Ns Sc mg->YV l.prog w (K w.params) mg base CX k fa fd [x] (sp (K w.params)))(b:∀(K:Ag) (H:Hp) (a:Sa) (ns:List Int),ns.length<=n->Only H->XV K H a (ns.map V.int)->sp K [.ref a] H (λv _=>v=.bl ba) λ_ _ _=>False)(i:∀(H:Hp) (s:Ad) (e:Rz) (s':Ad),CX [] H s (λ_ _ _=>False) e s'->False):W.WalkO q loose XP YP l.row.toRowW d [] (λf vs=>Qt f vs):=
 Zg (K:=K) (CX:=λ_=>CX) (sp:=λw=>sp (K w.params)) m c g j o F (λw H a ns h1 h2 p=>b (K w.params) H a ns h1 h2 p) λ_ H s e s'=>i H s e s'
def aB(s:Sj):Arguments:=match s with
 |.FunctionDef _ a _ _ _ _ _ _ _ _=>a
 |_=>{posonlyargs:=[],args:=[],vararg:=b5,kwonlyargs:=[],kw_defaults:=[],kwarg:=b5,defaults:=[]}
def bH(s:Sj):List Sj:=match s with
 |.FunctionDef _ _ b _ _ _ _ _ _ _=>b
 |_=>[]
def cJ(s:Sj):Sq:=match s with
 |.FunctionDef _ _ _ _ _ _ a _ _ _=>a
 |_=>{kind:=.function,names:=[],isGenerator:=bb,isCoroutine:=bb}
abbrev CX0:CS:=λ_ _ _ _ _ _=>False
abbrev E0:XK:=λ_ _ _=>False
def FX{X:Cx}:N2 CX0 X E0:=λ_ _ _ _ _ _ _ h=>h.elim
structure OY(K:Ag)(x qual:Sb)(st:Sj)(f:Sa)(fd:Ch):Prop where
 ex:∃(oc:Rz) (od:Option Sa) (kV doc pm:Rz) (an:Option Sa) (cdv ct:Rz) (osl:Array (Option Rz)),
  fd=Hh x qual (aB st) (bH st) (cJ st) .none kV doc pm an cdv ct/\K.lookup f=b3 ⟨oc,od,.func fd,osl⟩/\Jw K cdv qual=ba
 kp:Em K (.ref f)=ba
section
variable{P:Az}{w:Sg}{K:Ag}{mg:Sb->Option Rz}{base:Si}
def OY.ok{x qual:Sb}{st:Sj}{f:Sa}{fd:Ch}{N ps:List Sb}{k:Nat}{sp:Sp}(F:OY K x qual st f fd)(S:aA N ps (cJ st))(len:∀vs H Q E,sp vs H Q E->vs.length=ps.length)(i:∀(a:Rz) (A:Cb) (outer:List Env) (s:Ad) (H:Hp) (vs:List V) (Q:VK) (E:XK),Z4 k (A.deeper (envOfC qual (cJ st) s.heap.objs.size f a))->sp vs H Q E->∃t,W1 (TK CX0 P w K mg base N qual (cJ st) f a A outer s H E).nox (bH st) t/\t {nx:=λ_ H'=>Q .non H',rt:=Q} (start N vs) H):YV P w K mg base CX0 (k+1) f fd ps sp:=by obtain⟨l,od,kV,doc,j,m,a,ct,d,rfl,e,c⟩:=F.ex;refine Th e c S len λA outer s H vs Q E g b=>?_;obtain⟨t,h,q⟩:=i a A outer s H vs Q E g b;exact⟨t,h.nox,q⟩
def OY.binds{x qual:Sb}{st:Sj}{f:Sa}{fd:Ch}{ps:List Sb}(F:OY K x qual st f fd)(h:∀(kV doc b:Rz) (c:Option Sa) (a ct:Rz) (us:List Rz),us.length=ps.length->bindArgs (Hh x qual (aB st) (bH st) (cJ st) .none kV doc b c a ct) ⟨us,[]⟩=pure (ps.zip us)):XX K fd ps []:=by obtain⟨g,od,kV,doc,b,c,a,ct,d,rfl,i,e⟩:=F.ex;exact .all (h kV doc b c a ct)
def OD{x qual:Sb}{st:Sj}{f:Sa}{g:Rz}{od e:Option Sa}{b:Array (Option Rz)}{kV doc d a ct:Rz}(l:K.lookup f=b3 ⟨g,od,.func (Hh x qual (aB st) (bH st) (cJ st) .none kV doc d e a ct),b⟩)(c:Jw K a qual=ba)(k:Em K (.ref f)=ba):OY K x qual st f (Hh x qual (aB st) (bH st) (cJ st) .none kV doc d e a ct):=⟨⟨g,od,kV,doc,d,e,a,ct,b,rfl,l,c⟩,k⟩
end
def To{A:Cb}{k:Nat}(a:Z4 k A):A.units+1<cLine:=Nat.lt_of_le_of_lt (Nat.add_le_add_left (by decide:1<=64) _) a.units
section
variable{X:Cx}
def pv(i:Nat){x:Sb}{pos:Pos}(c:X.N[i]?=b3 x:=by rfl)(b:Vis X.env.scope x:=by first|exact Nj rfl|exact Pf (Nj rfl)|exact Pf (Pf rfl))(hd:(x==("__debug__":Sb))=bb:=by decide)(a:(x==("__classdict__":Sb))=bb:=by decide):PE X (.Name x pos) (ZH i):=DU c b hd a
end
def HL{A B:Prop}(h:B):if bb=ba then A else B:=by rw[if_neg Ea];exact h
def HM{A B:Prop}(h:A):if ba=ba then A else B:=by rw[if_pos rfl];exact h
def aM(H H':Hp):Prop:=∀b o,H b=b3 o->H' b=b3 o
def aM.refl(H:Hp):aM H H:=λ_ _ h=>h
def aM.trans{H H1 H2:Hp}(a:aM H H1)(b:aM H1 H2):aM H H2:=λc o h=>b c o (a c o h)
theorem HA{env:Env}{f:Sb×So->List (Sb×Sa)->Sr (ForInStep (List (Sb×Sa)))}(g:∀n k r,f (n,k) r=if(k==Bu)=ba then(cellOf env n>>=λc=>pure (Ey ((n,c)::r)))else pure (Ey r)):∀(names:List (Sb×So)) (cs:List (Sb×Sa)),(∀y∈names,y.2=.free->∃c,env.cells.lookup y.1=b3 c)->∃cl,forIn names cs f=(pure cl:Sr (List (Sb×Sa)))/\(∀x c,cl.lookup x=b3 c->cs.lookup x=b3 c∨env.cells.lookup x=b3 c)∧(∀x c,cs.lookup x=b3 c->∃d,cl.lookup x=b3 d)/\∀x,(x,Bu)∈names->∃c,cl.lookup x=b3 c
 |[],cs,_=>⟨cs,rfl,λ_ _ e=>.inl e,λ_ c e=>⟨c,e⟩,λ_ h=>nomatch h⟩
 | (n,k) :: r,cs,h => by
  have m:∀y∈r,y.2=.free->∃c,env.cells.lookup y.1=b3 c:=λy o=>h y (At _ o);by_cases hk:k=.free
  ·subst hk
   obtain⟨c,hc⟩:=h (n,.free) Bj rfl;have hc:env.cells.lookup n=b3 c:=hc;obtain⟨cl,l,j,b,i⟩:=HA g r ((n,c)::cs) m;refine⟨cl,?_,λx d e=>?_,λx d e=>?_,λx a=>?_⟩
   ·rw [Jb,g,if_pos (show (Bu == Bu) = ba by decide)]
    have s:cellOf env n=pure c:=by unfold cellOf;rw[hc]
    rw[s,pure_bind,pure_bind];exact l
   ·rcases j x d e with q|q
    ·by_cases a:x=n
     ·subst a
      rw[Dy]at q;cases q;exact .inr hc
     ·rw[Bw,beq_eq_false_iff_ne.mpr a]at q
      exact .inl q
    ·exact .inr q
   ·by_cases a:x=n
    ·subst a
     exact b x c (Dy ..)
    ·refine b x d ?_
     rw[Bw,beq_eq_false_iff_ne.mpr a];exact e
   ·rcases Ar.mp a with q|q
    ·cases q
     exact b n c (Dy ..)
    ·exact i x q
  ·obtain⟨cl,l,j,b,i⟩:=HA g r cs m
   refine⟨cl,?_,j,b,λx a=>?_⟩
   ·have p : ¬ (k == Bu) = ba := by simpa using hk
    rw[Jb,g,if_neg p,pure_bind];exact l
   ·rcases Ar.mp a with q|q
    ·cases q
     exact absurd rfl hk
    ·exact i x q
def fU{env:Env}{scope:Sq}(h:∀y∈scope.names,y.2=.free->∃c,env.cells.lookup y.1=b3 c):∃cl,closureFor scope env=pure cl/\(∀x c,cl.lookup x=b3 c->env.cells.lookup x=b3 c)/\∀x,(x,Bu)∈scope.names->∃c,cl.lookup x=b3 c:=by
 simp only[closureFor];obtain⟨cl,a,d,_,b⟩:=HA (env:=env) (f:=λx r=>match x with
  |(name,kind)=>if(kind==Bu)=ba then(cellOf env name>>=λc=>pure (Ey ((name,c)::r)))else pure (Ey r)) (λ_ _ _=>rfl) scope.names [] h
 refine⟨cl,?_,λx c e=>?_,b⟩
 ·first
   |exact a
   |(refine Eq.trans (congrArg (λm=>m>>=pure) a) ?_;exact pure_bind _ _)
 ·rcases d x c e with q|q
  ·cases q
  ·exact q
def YB(ix:List Nat)(σ:St):St:=ix.map λi=>(σ[i]?).join
def PTs(Y:Cx)(a:List Sf)(b:TT):Prop:=
 ∀(aa:List (Sa×Sk)) (s:Ad) (σ:St) (H:Hp) (Q:Bool->Hp->Prop),b9 Y aa σ H s->b σ H Q->
  Sd (Se Y.prog Y.w) Y.A (forIn a ba λc r=>if r=ba then do let ok<-isTrue c Y.env (eval c Y.env);pure (Ey ok)else pure (Ey r)) (TP Y aa σ Q) Y.xe s
def tYes:TT:=λ_ H Q=>Q ba H
def gQ{Y:Cx}:PTs Y [] tYes:=λ_ _ _ H _ I h=>wpAny_tests_nil ⟨H,I,h⟩
def mI{Y:Cx}{c:Sf}{a:TT}(h:PT Y c a):PTs Y [c] a:=λaa s σ H Q I hw=>wpAny_tests_one (h aa s σ H Q I hw)
structure Blk(Y:Cx)(tg:Sf)(ifs:List Sf)(elt:Sf)(g:TG)(tt:TT)(te:TE):Prop where
 tg:PG Y tg g
 ts:PTs Y ifs tt
 el:PE Y elt te
def iG{prog:Az}{w:Sg}{A:Cb}{s:Ad}{l t iter:Sf}{j:List Sf}{scope:Sq}{pos:Pos}{it acc:Rz}{env:Env}{R:Result->Ad->Prop}(I:Nat->Ad->Prop)(turn:∀n s,I n s->Sd (Se prog w) A (pyNext it) (λr b=>match r with
   |none=>R (.ok .next) b
   | some v => Sd (Se prog w) A (Iy t it v) (λ_ s₀ => Sd (Se prog w) A (assign t env v) (λ_ f =>
     Sd (Se prog w) A (forIn j ba λc r=>if r=ba then do let ok<-isTrue c env (eval c env);pure (Ey ok)else pure (Ey r)) (λok a=>if ok=ba then Sd (Se prog w) A (eval l env) (λx e=>
      Sd (Se prog w) A (call (.builtin "list.append") [acc,x]) (λ_ d=>∃m,m<n/\I m d) (λ_ _=>False) e) (λ_ _=>False) a
      else∃m,m<n/\I m a) (λ_ _=>False) f)
     (λ_ _=>False) s₀) (λ_ _=>False) b) (λ_ _=>False) s)
  (n:Nat) (h:I n s):Ij (Se prog w) A (.compLoop (.ListComp l [⟨t,iter,j,0⟩] scope pos) 0 it acc env) R s:=by
 refine codeAny_loop rfl I (λn s y=>?_) n h;show Sd _ A ((compTurn (.ListComp l [⟨t,iter,j,0⟩] scope pos) 0 it acc env).onRaise (λx=>do noteFrame x env;theTreesLotGoes x)) _ _ s;refine wpAny_noted ?_;rw[compTurn_list];refine Ac (Hm (Ac (Co (turn n s y) (λr b i=>?_) λ_ _ h'=>h'.elim)));cases r with
 |none=>exact Aq i
 |some v=>
  refine Ac (Co i (λ_ s₀ k=>?_) λ_ _ h'=>h'.elim);refine Ac (Co k (λ_ f q=>?_) λ_ _ h'=>h'.elim);refine Ac (Co q (λu a g=>?_) λ_ _ h'=>h'.elim);cases u with
  |false=>exact Aq ⟨rfl,g⟩
  |true=>exact Ac (Ac (Co g (λx e p=>Ac (Co p (λ_ d o=>Aq (Aq ⟨rfl,o⟩)) λ_ _ h'=>h'.elim)) λ_ _ h'=>h'.elim))
section
variable{X:Cx}{aa:List (Sa×Sk)}{σ:St}{H H':Hp}{s s1 s':Ad}{h'':Si}
def b9.offNew{a:St}{H1:Hp}(d:b9 X aa σ H1 s1)(i:b9 X aa a H' s')(h:H' s1.heap.objs.size=b5)(f:∀b o,b≠s1.heap.objs.size->s'.heap.get? b=b3 o->h''.get? b=b3 o):b9 X aa a H' {s' with heap:=h''}:=
 i.turned (t':=s'.toks) (it:=s1.heap.objs.size) f h (Hg d.lt) (.inr d.sz)
  (λx c e z => by
   obtain⟨v,q⟩:=d.cell x c e;have:=q.lt
   rw[z]at this;exact Db _ this)
  λp g z=>by
   have:=As (d.pin p g).1
   rw[z]at this;exact Db _ this
end
def Vu(D:Sa)(ix:List Nat)(nl:Nat)(J:It)(g:TG)(h:TT)(te:TE)(σ:St)(H0:Hp)(Q:Hp->Prop):Prop:=
 ∃W:Nat->Nat->List V->Hp->Prop,(∃m,W 0 m [] (upd H0 D (.lst [])))/\∀i m acc H1,W i m acc H1->
  (J.stop i H1/\Q H1)∨
  (J.go i H1/\ ∃N:List V->Hp->Prop,(∀d H',N d H'-> ∃c,c<m/\W (i+1) c d H')∧
   ∀x H2,J.yld i H1 x H2->g x (YB ix σ++Aj nl b5) H2 λa j=>a.take ix.length=YB ix σ∧
    h a j λb f=>if b=ba then te a f λv e=>e D=b3 (.lst acc)/\acc.length<sizeLine/\N (acc++[v]) (upd e D (.lst (acc++[v])))else N acc f)
theorem PZ{env:Env}{x:Sb}:∀{l:List (Sb×So)},l.lookup x=b3 .free->(l.map λ(n,k)=>if(k==Bu&&env.scope.kind== .function&&env.kindOf n==b3 .cell)then(n,Ck)else(n,k)).lookup x=b3 .cell∨(l.map λ(n,k)=>if(k==Bu&&env.scope.kind== .function&&env.kindOf n==b3 .cell)then(n,Ck)else(n,k)).lookup x=b3 .free
 |[],h=>by cases h
 | (n,k) :: r,h => by
  show Fk x ((if(k==Bu&&env.scope.kind== .function&&env.kindOf n==b3 .cell)=ba then(n,Ck)else(n,k))::_)=b3 .cell∨Fk x ((if(k==Bu&&env.scope.kind== .function&&env.kindOf n==b3 .cell)=ba then(n,Ck)else(n,k))::_)=b3 .free;by_cases c:x=n
  ·subst c
   rw[Dy]at h;cases h;by_cases hc:(Bu==Bu&&env.scope.kind== .function&&env.kindOf x==b3 .cell)=ba
   ·left
    rw[if_pos hc,Dy]
   ·right
    rw[if_neg hc,Dy]
  ·have a:(x==n)=bb:=beq_eq_false_iff_ne.mpr c
   simp only[Bw,a]at h;have b:=PZ (env:=env) h;by_cases hc:(k==Bu&&env.scope.kind== .function&&env.kindOf n==b3 .cell)=ba
   ·rw[if_pos hc]
    simp only[Bw,a];exact b
   ·rw[if_neg hc]
    simp only[Bw,a];exact b
def Ti(ix:List Nat)(nl:Nat)(a:TI)(g:TG)(b:TT)(te:TE):TE:=λσ H Q=>a σ H λJ H0=>∀D,H0 D=b5->Vu D ix nl J g b te σ H0 λH'=>Q (.ref D) H'
mutual
inductive Dp(K:Ag)(H:Hp):V->Mm->Prop
 |non:Dp K H .non .none
 |bl (b:Bool):Dp K H (.bl b) (.bool b)
 |int (i:Int):Dp K H (.int i) (.int i)
 |str (x:Sb):Dp K H (.str x) (.str x)
 |lst {a:Sa}{xs:List V}{ds:List Mm}:XV K H a xs->K7 K H xs ds->Dp K H (.ref a) (.list ds)
 |tup {a:Sa}{xs:List V}{ds:List Mm}:UO K H a xs->K7 K H xs ds->Dp K H (.ref a) (.tuple ds)
inductive K7(K:Ag)(H:Hp):List V->List Mm->Prop
 |nil:K7 K H [] []
 |cons {v:V}{vs:List V}{d:Mm}{ds:List Mm}:Dp K H v d->K7 K H vs ds->K7 K H (v::vs) (d::ds)
end
section
variable{X:Cx}{aa:List (Sa×Sk)}{σ:St}{H:Hp}{s:Ad}
mutual
theorem b9.reads(I:b9 X aa σ H s):∀{v:V}{d:Mm}{u:Rz},Dp X.K H v d->bA v u->∃as,Reads s.heap u d as
 |_,_,_,.non,r=>by cases r;exact⟨_,.none⟩
 |_,_,_,.bl b,r=>by cases r;exact⟨_,.bool b⟩
 |_,_,_,.int i,r=>by obtain⟨t,rfl⟩:=r;exact⟨_,.int i t⟩
 |_,_,_,.str x,r=>by obtain⟨t,rfl⟩:=r;exact⟨_,.str x t⟩
 |_,_,_,.lst q all,r=>by
  cases r;obtain⟨its,a,⟨o,n,e,c,_,d⟩,_⟩:=I.list q;obtain⟨as,h⟩:=b9.readsAll I all a;exact⟨_,.list e c d (by simpa using h)⟩
 |_,_,_,.tup q all,r=>by
  cases r;obtain⟨its,a,⟨o,e,c,n,d⟩,_⟩:=I.tuple q;obtain⟨as,h⟩:=b9.readsAll I all a;exact⟨_,.tuple e c d (by simpa using h)⟩
theorem b9.readsAll(I:b9 X aa σ H s):∀{vs:List V}{ds:List Mm}{us:List Rz},K7 X.K H vs ds->bI vs us->∃as,ReadsAll s.heap us ds as
 |_,_,_,.nil,r=>by cases r;exact⟨_,.nil⟩
 | _,_,_,.cons h t,r => by
  cases r with
  |cons b a=>
   obtain⟨as,h1⟩:=b9.reads I h b;obtain⟨bs,h2⟩:=b9.readsAll I t a;exact⟨_,.cons h1 h2⟩
end
end
def rEqD(K:Ag):R2:=λx y H Q=>∃d e,Dp K H x d/\Dp K H y e/\Ej d=ba/\Ej e=ba/\Q (.bl (Iq d e)) H
def rNeD(K:Ag):R2:=λx y H Q=>∃d e,Dp K H x d/\Dp K H y e/\Ej d=ba/\Ej e=ba/\Q (.bl (!PyData.eqv d e)) H
section
variable{X:Cx}
def gT(g:X.A.units+64<cLine):WV X (Cu .Eq) (rEqD X.K):=by intro aa s σ H x y v u Q I f c h;obtain⟨d,e,hd,i,b,a,q⟩:=h;obtain⟨as,h1⟩:=I.reads hd f;obtain⟨bs,h2⟩:=I.reads i c;exact eq_dataH h1 h2 b a g (HF I q rfl)
def fT(g:X.A.units+64<cLine):WV X (Cu .NotEq) (rNeD X.K):=by intro aa s σ H x y v u Q I f c h;obtain⟨d,e,hd,i,b,a,q⟩:=h;obtain⟨as,h1⟩:=I.reads hd f;obtain⟨bs,h2⟩:=I.reads i c;exact ne_dataH h1 h2 b a g (HF I q rfl)
theorem P6:∀{us:List Rz}{ns:List Int},Og us ns->bI (ns.map V.int) us
 |_,_,.nil=>.nil
 |_,_,.cons i t h=>.cons ⟨t,rfl⟩ (P6 h)
theorem UB:∀{ns:List Int}{us:List Rz},bI (ns.map V.int) us->Og us ns
 |[],_,.nil=>.nil
 |i::ns,_,.cons r t=>by obtain⟨k,rfl⟩:=r;exact .cons i k (UB t)
def N8:aF X (.builtin "sorted") (λxs H Q=>∃(p:Sa) (ns:List Int),xs=[.ref p]/\XV X.K H p (ns.map V.int)/\ns.length<64∧ ∀(l:Sa) (c:List Int),H l=b5->c.Perm ns->c.Pairwise (· <= ·)->Q (.ref l) (upd H l (.lst (c.map V.int)))):=by intro aa s σ H xs us Q I r h;obtain⟨p,ns,rfl,i,hl,q⟩:=h;obtain⟨u,rfl,g⟩:=Q7 r;cases g;obtain⟨its,d,pl,hz⟩:=I.list i;have n:=d.length;rw[Ba]at n;refine sorted_ints pl.isList (UB d) (by lia) λout c v f t=>?_;obtain⟨e,m⟩:=sortedAll_at s.heap its out;have k:c.length=ns.length:=f.length_eq;have j:H (s.heap.objs.size+1)=b5:=I.hok.fresh (Hd _);refine⟨.ref (s.heap.objs.size+1),_,I.laid (a:=s.heap.objs.size+1) (o:=.lst (c.map V.int)) (t':=s.toks) (λb o=>sortedAll_old) (Hd _) ?_,rfl,q _ c j f t⟩;refine⟨by rw[Ba,Ce];lia,out.toList,e,P6 v,?_⟩;rw[m]
def rngP(p:Sa)(a b c:Int):Si->Prop:=λh=>∃t u v,IsRange h p a b c t u v
def EW:aF X (.type "range") (λxs H Q=>∃a b c,xs=[.int a,.int b,.int c]/\0<c/\c<1073741824/\∀p,H p=b5->Q (.ref p) (upd H p (.ext (rngP p a b c)))):=by
 intro aa s σ H xs us Q I r h;obtain⟨a,b,c,rfl,hc,i,q⟩:=h;cases r with
 |cons f r=>
  cases r with
  |cons e r=>
   cases r with
   |cons d r=>
    cases r;obtain⟨t,rfl⟩:=f;obtain⟨u,rfl⟩:=e;obtain⟨v,rfl⟩:=d;refine call_range_3 (by lia) ?_ (.inl (Ld (by lia)));have g:=I.hok.fresh (Ax s.heap.objs.size);refine⟨.ref s.heap.objs.size,_,I.laid (a:=s.heap.objs.size) (o:=.ext (rngP s.heap.objs.size a b c)) (t':=s.toks) (λ_ _ z=>Ae _ z) (Ax _) ?_,rfl,q _ g⟩;refine⟨⟨t,u,v,Ru ..⟩,⟨_,Aw _ rfl⟩,λh1 h2 ⟨t,u,v,z⟩ k=>⟨t,u,v,k _ z⟩⟩
def G4:aF X (.builtin "len") (λxs H Q=>∃p a b c,∃n:Nat,xs=[.ref p]/\H p=b3 (.ext (rngP p a b c))/\Gb a b c=n/\(n:Int)<2 ^ 63/\Q (.int n) H):=by intro aa s σ H xs us Q I r h;obtain⟨p,a,b,c,n,rfl,e,f,hz,q⟩:=h;obtain⟨u,rfl,d⟩:=Q7 r;cases d;obtain⟨⟨t,u,v,z⟩,_⟩:=I.hok p _ e;exact call_len_range z f hz ⟨.int n,H,I.tok _,⟨_,rfl⟩,q⟩
inductive IQ:List Lj->List (Sb×V)->Prop
 |nil:IQ [] []
 |cons {e:Lj}{es:List Lj}{x:Sb}{t:Su}{v:V}{D:List (Sb×V)}:e.key=.str x t->bA v e.val->IQ es D->IQ (e::es) ((x,v)::D)
def KTab(K:Ag)(a:Sa)(D:List (Sb×V)):Prop:=
 (a==Gf)=bb/\∃o es b,K.lookup a=b3 o/\o.ExactDict/\o.data=.dict es b/\IQ es.toList D
def IQ.rows{es:List Lj}{D:List (Sb×V)}(h:IQ es D):KTD.Rows bA es D:=by
 induction h with
 |nil=>exact .nil
 |cons h1 h2 _ a=>exact .cons h1 h2 a
def FK{A:Cb}{E:Rz->Ad->Prop}{s:Ad}{K:Ag}{prog:Az}{w:Sg}{a:Sa}{D:List (Sb×V)}{k:Sb}{tk:Su}{Q:Option Rz->Ad->Prop}(n:K.In s.heap)(T:KTab K a D)(h1:∀d v,Fp k D=b3 d->bA d v->Q (b3 v) {s with toks:=s.toks+1})(h2:Fp k D=b5->Q b5 {s with toks:=s.toks+1}):Sd (Se prog w) A (dictGet a (.str k tk)) Q E s:=by
 obtain⟨_,o,es,p,g,hc,hd,c⟩:=T;have g:=n _ _ g;have c:=c.rows;unfold dictGet;try with_reducible refine Cc ?_
 refine Ac (wpAny_pyHash_str (Ac (KTD.kt_dictFind_strs (s:={s with toks:=s.toks+1}) g hd (by obtain⟨l⟩:=es;simpa using c.exact) ?_)));have f:Q (findBy (λk v=>v.isStr k) es k) {s with toks:=s.toks+1}:=by
  have m:findBy (λk v=>v.isStr k) es k=(es.toList.find? λe=>e.key.isStr k).map (·.val):=by obtain⟨l⟩:=es;simp[findBy]
  rw[m];cases b:Fp k D with
  |some d=>obtain⟨v,j,h⟩:=c.find_some b;rw[j];exact h1 d v b h
  |none=>rw[c.find_none b];exact h2 b
 rw[findBy_of_findIdx?]at f;cases hi:es.findIdx? λe=>e.key.isStr k with
 |none=>rw[hi]at f;exact Aq f
 |some i=>rw[hi]at f;exact Ac (wpAny_dictEntries (s:={s with toks:=s.toks+1}) g hd (Aq f))
def lC:AN X (λx y H Q=>∃a k D v,x=.ref a/\y=.str k/\KTab X.K a D/\Fp k D=b3 v/\Q v H):=by
 intro value c aa s σ H x y v u Q I j i h m;obtain⟨a,k,D,d,rfl,rfl,T,hk,q⟩:=h;cases j;obtain⟨t,rfl⟩:=i;have b:s.TypeIs (.ref a) "dict":=by obtain⟨_,o,es,p,n,hc,_⟩:=T;exact⟨o,I.kIn _ _ n,hc.1⟩
 have main:Sd (Se X.prog X.w) X.A (Kn (.ref a) (.str k t)) (EP X aa σ Q) X.xe s:=by
  unfold Kn;try with_reducible refine Cc ?_
  refine Ac (Ia b (by decide) ?_);refine Ac (Cs (name:=Bq "__getitem__") b Jz
   (Eo Jz b PySem.F.entry_dict_getitem ?_ (PySem.F.args_dict_getitem_2 _ _)))
  show Sd _ _ (dictGet a (.str k t)>>=_) _ _ s;exact Ac (FK I.kIn T (λd' g f l=>Aq ⟨g,rfl,Aq (by rw[hk]at f;cases f;exact⟨d,H,I.tok _,l,q⟩)⟩) λe=>by rw[hk]at e;cases e)
 exact Rb b PySem.F.slot_dict_getitem.lookup main m
end
section
variable{prog:Az}{w:Sg}{A:Cb}{E:Rz->Ad->Prop}{s:Ad}
theorem JJ{it t:Sa}{items:Array Rz}(g:t≠it):∀(n i:Nat) (s:Ad) (Q:List Rz->Ad->Prop),s.heap.IsListIter it t i->s.heap.IsList t items->i+n<=items.size->(∀h',h'.IsListIter it t (i+n)->Er it s.heap h'->Q ((items.toList.drop i).take n) {s with heap:=h'})->Sd (Se prog w) A (draw (.ref it) n) Q E s
 |0,i,s,Q,e,_,_,j=>by show Sd _ _ (pure []) Q E s;exact Aq (by simpa using j s.heap e (Heap.SameBut.refl ..))
 |n+1,i,s,Q,e,l,m,j=>by
  have h:i<items.size:=by lia
  show Sd _ _ (pyNext (.ref it)>>=_) Q E s;refine Ac (Lc e l (x:=items[i]) (by simp[h]) λk c a=>?_);refine Ac (Cc (JJ g n (i+1) _ _ c (l.extBut a.extBut g) (by lia) λf b d=>Aq ?_));have hd:items.toList.drop i=items[i]::items.toList.drop (i+1):=by simp[Gy,h]
  have:=j f (by rw[show i+(n+1)=i+1+n by lia];exact b) (a.trans d)
  rw[hd,List.take_succ_cons]at this;exact this
def OW{t:Sa}{items:Array Rz}{Q:List Rz->Ad->Prop}(n:A.handled=b5)(k:s.heap.IsList t items)(p:∀h',Jd s.heap.objs.size s.heap h'->Q items.toList {s with heap:=h'}):Sd (Se prog w) A (Km (.ref t) items.size b5) Q E s:=by
 have j:t≠s.heap.objs.size:=by obtain⟨o,l,_⟩:=k;exact Bl (As l)
 unfold Km;refine Ac ?_
 ·unfold notIterableAtAll
  refine Ac (wpAny_specialOf k.typeIs PySem.F.slot_list_iter.lookup ?_);refine Aq ?_;simp only[Ec,if_false];refine Ac (Cc (Gr k ?_));have i:(s.heap.push {cls:=.type "list_iterator",data:=.fields #[.ref t,.int 0 0]}).IsList t items:=by obtain⟨o,l,r⟩:=k;exact⟨o,Ae _ l,r⟩
  refine Ac (Cc (JJ j items.size 0 _ _ ⟨_,Aw _ rfl,rfl,rfl⟩ i (by lia) λh c a=>?_));have q:List.take items.size (List.drop 0 items.toList)=items.toList:=by rw[Qo];exact Cz (by simp)
  rw[q];rw[if_neg (by simp)];have d:h.IsList t items:=i.extBut a.extBut j;refine Ac (Cc (Ll n c d (by simp) λg f=>?_));simp only[Option.isSome_none,Ec,if_false];refine Aq (p g λb o m e=>f b o m (a.extBut b o m (Ae _ e)))
def O0{env:Env}{a:List Sf}{x1}{pos:Pos}{t:Sa}{items:Array Rz}{Q:Unit->Ad->Prop}(d:A.handled=b5)(b:s.heap.IsList t items)(c:(Sh a env).length=items.size)(e:(Sh a env).findIdx? (·.1)=b5)(h:∀h',Jd s.heap.objs.size s.heap h'->Sd (Se prog w) A (assignInOrder ((Sh a env).map (·.2)) items.toList) Q E {s with heap:=h'}):Sd (Se prog w) A (assign (.Tuple a x1 pos) env (.ref t)) Q E s:=by rw[assign_Tuple];refine Ac (Hm ?_);unfold unpack;rw[c,e];exact Ac (Cc (OW d b h))
end
section
variable{X:Cx}{pos:Pos}
def gLst(K:Ag)(n:Nat)(t:TGs):TG:=λv σ H Q=>∃a xs,v=.ref a/\XV K H a xs/\xs.length=n/\t xs σ H Q
def iS{es:List Sf}{k:Nat}{t:TGs}{n:Nat}(hc:X.calm=ba)(h:AO X es t)(j:(Sh es X.env).length=n:=by rfl)(c:(Sh es X.env).findIdx? (·.1)=b5:=by rfl):PG X (.Tuple es k pos) (gLst X.K n t):=by intro aa s σ H v u Q I r hw;obtain⟨a,xs,l,i,hl,hw⟩:=hw;subst l;cases r;obtain⟨its,d,g,hz⟩:=I.list i;refine O0 (I.ok.hd hc) g.isList (by simp[j,<-hl,d.length]) c λh' f=>?_;have m:b9 X aa σ H {s with heap:=h'}:=I.kept (t':=s.toks) λb o e=>f b o (Bl (As e)) e;exact h aa _ σ H xs _ Q m (by simpa using d) hw
def FnAt(X:Cx)(f:Sa)(sp:Sp):Prop:=∃(k:Nat) (fd:Ch) (ps:List Sb),YV X.prog X.w X.K X.mg X.base CX0 k f fd ps sp/\Z4 k X.A/\Em X.K (.ref f)=ba/\XX X.K fd ps []
def dY(X:Cx)(a:TE)(t:TA):TE:=λσ H Q=>a σ H λx H1=>∃f sp,x=.ref f/\FnAt X f sp/\t σ H1 λvs H2=>sp vs H2 Q E0
def Xv{x:Sb}{p pos:Pos}{e:Sf}{es:List Sf}{b:TE}{t:TA}(i:PE X (.Name x p) b)(m:PA X (e::es) t)(j:Ap (e::es) X.env=(bb,eval e X.env)::Ap es X.env:=by rfl)(a:(Ct pos (Ap es X.env)).any (·.1)=bb:=by rfl):PE X (.Call (.Name x p) (e::es) [] pos) (dY X b t):=by intro aa s σ H Q I h;refine Dq (ZP (i aa s σ H _ I h) λu s1 ⟨x,H1,n,d,f,sp,ex,F,q⟩=>?_);subst ex;obtain rfl:u=Bk f:=d;obtain⟨k,fd,ps,F,g,hk,l⟩:=F;refine Jv (h₀:=X.base) I.ok.mod.kin hk (ZP (m pos aa s1 σ H1 _ n q) λus s2 ⟨vs,H2,c,r,q2⟩=>⟨c.kIn,?_⟩) j a;refine D5 (dvs:=[]) (ds:=[]) F g l .nil FX c r ?_;rw[Bi];exact q2
end
section
variable{X:Cx}{K:Ag}
def lU(h:X.K=K:=by rfl):aF X (.type "list") (λxs H Q=>∃p ys,xs=[.ref p]/\(XV K H p ys∨UO K H p ys)/\∀l,H l=b5->Q (.ref l) (upd H l (.lst ys))):=by subst h;exact G7
def mX(h:X.K=K:=by rfl):aF X (.type "tuple") (λxs H Q=>∃p ys,xs=[.ref p]/\((XV K H p ys/\∀l,H l=b5->Q (.ref l) (upd H l (.tup ys)))∨(UO K H p ys/\Q (.ref p) H))):=by subst h;exact KP
def Yr(h:X.K=K:=by rfl):aF X (.builtin "sorted") (λxs H Q=>∃(p:Sa) (ns:List Int),xs=[.ref p]/\XV K H p (ns.map V.int)/\ns.length<64∧ ∀(l:Sa) (a:List Int),H l=b5->a.Perm ns->a.Pairwise (· <= ·)->Q (.ref l) (upd H l (.lst (a.map V.int)))):=by subst h;exact N8
def kIxL(h:X.K=K:=by rfl):AN X (rIxL K):=by subst h;exact BI
def kEqD(a:X.A.units+64<cLine)(h:X.K=K:=by rfl):WV X (Cu .Eq) (rEqD K):=by subst h;exact gT a
def LW(a:X.A.units+64<cLine)(h:X.K=K:=by rfl):WV X (Cu .NotEq) (rNeD K):=by subst h;exact fT a
def mH(h:X.K=K){es:List Sf}{k:Nat}{t:TGs}{n:Nat}{pos:Pos}(hc:X.calm=ba)(c:AO X es t)(b:(Sh es X.env).length=n:=by rfl)(a:(Sh es X.env).findIdx? (·.1)=b5:=by rfl):PG X (.Tuple es k pos) (gTup K n t):=by subst h;exact Uq hc c b a
def j5(h:X.K=K){es:List Sf}{k:Nat}{t:TGs}{n:Nat}{pos:Pos}(hc:X.calm=ba)(c:AO X es t)(b:(Sh es X.env).length=n:=by rfl)(a:(Sh es X.env).findIdx? (·.1)=b5:=by rfl):PG X (.Tuple es k pos) (gLst K n t):=by subst h;exact iS hc c b a
def nU(h:X.K=K){tg l:Sf}{tl:TE}(hl:PE X l tl):PI X tg l (Xe K tl):=by subst h;exact Zb hl
def mU(h:X.K=K){tg l:Sf}{tl:TE}(hl:PE X l tl):PI X tg l (iTup K tl):=by subst h;exact eD hl
def kBm(h:X.K=K:=by rfl){o e:Sf}{es:List Sf}{to:TE}{t:TA}{name:Sb}{af ae:Pos}{T id:String}{r:V->List V->Hp->VK->Prop}(pa:PlainAttrs T)(slot:Slot T name id)(a:Pe (.builtin id)=pure (.type "method_descriptor"))(d:MtR X id r)(c:PE X o to)(f:PA X (e::es) t)(i:Cd o name X.env (eval o X.env)=eval o X.env:=by rfl)(g:((Ct ae (Ap (e::es) X.env)).all (λx=> !x.1)&&(Gu ae (Eh [] X.env)).all (λx=>x.1.isSome)&&decide ((e::es).length+([]:List Fo).length+(if([]:List Fo).isEmpty then 0 else 1)<30))=ba:=by rfl)(j:(af.endLine==ae.line)=ba:=by rfl)(b:Ap (e::es) X.env=(bb,eval e X.env)::Ap es X.env:=by rfl)(k:(Ct ae (Ap es X.env)).any (·.1)=bb:=by rfl):PE X (.Call (.Attribute o name af) (e::es) [] ae) (tBM K T r to t):=by subst h;exact jH pa slot a d c f i g j b k
end
def Xh:Bm "len"=b3 (.builtin "len"):=by decide+kernel
def C0:Bm "min"=b3 (.builtin "min"):=by decide+kernel
def Xb:Bm "max"=b3 (.builtin "max"):=by decide+kernel
def fZ:Bm "sorted"=b3 (.builtin "sorted"):=by decide+kernel
def bM:Bm "isinstance"=b3 (.builtin "isinstance"):=by decide+kernel
def O6:Bm "list"=b3 (.type "list"):=by decide+kernel
def X3:Bm "tuple"=b3 (.type "tuple"):=by decide+kernel
def fJ:Bm "range"=b3 (.type "range"):=by decide+kernel
def mG:Bm "bool"=b3 (.type "bool"):=by decide+kernel
def eS:Bm "int"=b3 (.type "int"):=by decide+kernel
def Uo:Bm "str"=b3 (.type "str"):=by decide+kernel
structure Def(P:Az)(w:Sg)(K:Ag)(mg:Sb->Option Rz)(base:Si)(x:Sb)(k:Nat)(ps:List Sb)(sp:Sp)(f:Sa):Prop where
 at_:mg x=b3 (.ref f)
 ok:∃fd,YV P w K mg base CX0 k f fd ps sp/\XX K fd ps []
 kp:Em K (.ref f)=ba
section
variable{X:Cx}{x:Sb}{k j:Nat}{ps:List Sb}{sp:Sp}{f:Sa}{p pos:Pos}{e:Sf}{es:List Sf}{t:TA}
def PU(D:Def X.prog X.w X.K X.mg X.base x k ps sp f)(c:Z4 j X.A)(hk:k<=j)(d:Gl X x)(h:PA X (e::es) t)(b:(x==("__debug__":Sb))=bb:=by decide)(g:Ap (e::es) X.env=(bb,eval e X.env)::Ap es X.env:=by rfl)(a:(Ct pos (Ap es X.env)).any (·.1)=bb:=by rfl):PE X (.Call (.Name x p) (e::es) [] pos) (CG sp [] E0 t):=by obtain⟨fd,F,B⟩:=D.ok;exact BU F (c.mono hk) d D.at_ D.kp B .nil FX h b g a
def Def.fnAt(D:Def X.prog X.w X.K X.mg X.base x k ps sp f)(a:Z4 j X.A)(hk:k<=j):FnAt X f sp:=by obtain⟨fd,F,B⟩:=D.ok;exact⟨k,fd,ps,F,a.mono hk,D.kp,B⟩
end
def cK{H:Hp}{p:Sa}{o:HO}(a:H p=b5):aM H (upd H p o):=λb o' e=>by rw[cH (aX e a)];exact e
def F7(ns:List Int):Ej (.list (ns.map Oi))=ba:=by
 have h1:Gg (.list (ns.map Oi))=ba:=by simp only[Gg,canLayAll_ints]
 have h2:Ii (.list (ns.map Oi))<=64:=by simp only[Ii,depthAll_ints];decide
 unfold Ej;rw[h1,decide_eq_true h2];rfl
abbrev SE(X:Cx)(a:Sf)(es:List Sf):Prop:=Ap (a::es) X.env=(bb,eval a X.env)::Ap es X.env
abbrev ND(x:Sb):Prop:=(x==("__debug__":Sb))=bb
abbrev LO(X:Cx)(x:Sb):Prop:=X.fn x=ba∨X.env.scope.names.lookup x=b3 .local
inductive cT where
 |non|bl (b:Bool)|int (i:Int)|str (x:Sb)|ty (n:String)|fn (x:Sb)|tup (ds:List cT)|lst (ds:List cT)|dct (ks:List aQ) (ds:List cT)|exn (x:Sb)|exr (x n:Sb) (d:cT)|nst (sh:List (Option Nat)) (ds:List cT)|flt (x f g:Sb) (k:Nat) (ds:List cT)
def FzL(K:Ag)(H:Hp)(a:Sa)(xs:List V):Prop:=
 (∃o,H a=b3 (.frz o (.lst xs)))∨
  ∃(o:Sk) (its:Array Rz) (n:Nat),K.lookup a=b3 o/\o.cls=.type "list" /\o.dict=b5/\o.data=.seq its n/\its.size<=sizeLine/\bI xs its.toList
def FzL.sq{K:Ag}{H:Hp}{a:Sa}{xs:List V}(h:FzL K H a xs):XV K H a xs:=by
 rcases h with⟨o,h⟩|h
 ·exact .inl (.inr ⟨o,h⟩)
 ·exact .inr h
def FzM(K:Ag)(H:Hp)(M:Sa->Prop)(a:Sa)(xs:List V):Prop:=FzL K H a xs∨(∃x us sub,H a=b3 (.own x)/\H x=b3 (.nst us sub)/\¬M x/\sub a=b3 xs)∨∃x C dx f g p q us ws,H a=b3 (.own x)/\H x=b3 (.flt C dx f g p q us ws)/\¬M x/\((a=p/\xs=us)∨(a=q/\xs=ws))
def FzM.sq{K:Ag}{H:Hp}{M:Sa->Prop}{a:Sa}{xs:List V}(h:FzM K H M a xs):XV K H a xs:=by
 rcases h with h|⟨x,us,sub,h1,h2,_,z⟩|⟨x,C,dx,f,g,p,q,us,ws,h1,h2,_,z⟩
 ·exact h.sq
 ·exact .inl (.inl (.inr (.inl ⟨us,sub,xs,rfl,.inl ⟨x,h1,h2,z⟩⟩)))
 ·refine .inl (.inl (.inr (.inr ⟨x,C,dx,f,g,p,q,us,ws,h1,h2,?_⟩)))
  rcases z with⟨z,rfl⟩|⟨z,rfl⟩
  ·exact .inl ⟨z,rfl⟩
  ·exact .inr ⟨z,rfl⟩
inductive P9(sub:Sa->Option (List V)):List V->List (Option Nat)->List V->Prop
 |nil:P9 sub [] [] []
 |val {v:V}{xs vs:List V}{sh:List (Option Nat)}:(∀p,v=.ref p->sub p=b5)->P9 sub xs sh vs->P9 sub (v::xs) (b5::sh) (v::vs)
 |lst {p:Sa}{zs xs vs:List V}{sh:List (Option Nat)}:sub p=b3 zs->V.ref p∉xs->P9 sub xs sh vs->P9 sub (.ref p::xs) (b3 zs.length::sh) (zs++vs)
def R6(H:Hp)(a:Sa)(sh:List (Option Nat))(vs:List V):Prop:=∃xs sub,H a=b3 (.nst xs sub)/\(∀p zs,sub p=b3 zs->H p=b3 (.own a))/\P9 sub xs sh vs
def R0(K:Ag)(H:Hp)(a:Sa)(x f g:Sb)(xs ys:List V):Prop:=∃C dx p q,H a=b3 (.flt C dx f g p q xs ys)/\(H p=b3 (.own a)/\H q=b3 (.own a))/\Ds K Sc x=b3 (b3 (.ref C))
def AL(h:Si)(a C:Sa):Prop:=∃o vs,h.get? a=b3 o/\o.cls=.ref C/\o.data=.fields vs
def Vd(h:Si)(a C D:Sa):Prop:=∃o vs,h.get? a=b3 o/\o.cls=.ref C/\o.data=.fields vs/\o.dict=b3 D
mutual
inductive bB(K:Ag)(N:Sa->Prop)(H:Hp):(Sa->Prop)->V->cT->Prop
 |non {M:Sa->Prop}:bB K N H M .non .non
 |bl {M:Sa->Prop}(b:Bool):bB K N H M (.bl b) (.bl b)
 |int {M:Sa->Prop}(i:Int):bB K N H M (.int i) (.int i)
 |str {M:Sa->Prop}(x:Sb):bB K N H M (.str x) (.str x)
 |ty {M:Sa->Prop}(n:String):bB K N H M (.ty n) (.ty n)
 |fn {M:Sa->Prop}{a:Sa}{x:Sb}:Ds K Sc x=b3 (b3 (.ref a))->bB K N H M (.ref a) (.fn x)
 |tup {M:Sa->Prop}{a:Sa}{xs:List V}{ds:List cT}:UO K H a xs->b6 K N H xs ds->bB K N H M (.ref a) (.tup ds)
 |lst {M:Sa->Prop}{a:Sa}{xs:List V}{ds:List cT}:H a=b3 (.lst xs)->¬M a->b6 K N H xs ds->bB K N H M (.ref a) (.lst ds)
 |fzm {M:Sa->Prop}{a:Sa}{xs:List V}{ds:List cT}:FzM K H M a xs->b6 K N H xs ds->bB K N H M (.ref a) (.lst ds)
 |dct {M:Sa->Prop}{a:Sa}{kvs:List (aQ×V)}{ds:List cT}:H a=b3 (.dK kvs)->¬M a->b6 K N H (kvs.map Fb) ds->bB K N H M (.ref a) (.dct (kvs.map Ed) ds)
 |ktb {M:Sa->Prop}{a:Sa}{D:List (Sb×V)}{ds:List cT}:KTab K a D->b6 K N H (D.map Fb) ds->bB K N H M (.ref a) (.dct (D.map λp=>.inr p.1) ds)
 |exn {M:Sa->Prop}{a C:Sa}{x:Sb}{φ:Si->Prop}:Ds K Sc x=b3 (b3 (.ref C))->H a=b3 (.ext φ)->(∀h,φ h->AL h a C)->bB K N H M (.ref a) (.exn x)
 |exr {M:Sa->Prop}{a C D:Sa}{x n:Sb}{φ:Si->Prop}{v:V}{d:cT}:Ds K Sc x=b3 (b3 (.ref C))->H a=b3 (.ext φ)->(∀h,φ h->Vd h a C D)->H D=b3 (.xd [(n,v)])->bB K N H N v d->bB K N H M (.ref a) (.exr x n d)
 |nst {M:Sa->Prop}{a:Sa}{sh:List (Option Nat)}{vs:List V}{ds:List cT}:R6 H a sh vs->¬M a->b6 K N H vs ds->bB K N H M (.ref a) (.nst sh ds)
 |flt {M:Sa->Prop}{a:Sa}{x f g:Sb}{xs ys:List V}{ds:List cT}:R0 K H a x f g xs ys->¬M a->b6 K N H (xs++ys) ds->bB K N H M (.ref a) (.flt x f g xs.length ds)
inductive b6(K:Ag)(N:Sa->Prop)(H:Hp):List V->List cT->Prop
 |nil:b6 K N H [] []
 |cons {v:V}{vs:List V}{d:cT}{ds:List cT}:bB K N H N v d->b6 K N H vs ds->b6 K N H (v::vs) (d::ds)
end
inductive RepL(K:Ag)(N:Sa->Prop)(H:Hp)(M:Sa->Prop)(ds:List cT):V->Prop
 |lst {a:Sa}{xs:List V}:H a=b3 (.lst xs)->¬M a->b6 K N H xs ds->RepL K N H M ds (.ref a)
 |fzm {a:Sa}{xs:List V}:FzM K H M a xs->b6 K N H xs ds->RepL K N H M ds (.ref a)
inductive RepT(K:Ag)(N:Sa->Prop)(H:Hp)(ds:List cT):V->Prop
 |tup {a:Sa}{xs:List V}:UO K H a xs->b6 K N H xs ds->RepT K N H ds (.ref a)
inductive RepD(K:Ag)(N:Sa->Prop)(H:Hp)(M:Sa->Prop)(ks:List aQ)(ds:List cT):V->Prop
 |dct {a:Sa}{kvs:List (aQ×V)}:H a=b3 (.dK kvs)->¬M a->b6 K N H (kvs.map Fb) ds->ks=kvs.map Ed->RepD K N H M ks ds (.ref a)
 |ktb {a:Sa}{D:List (Sb×V)}:KTab K a D->b6 K N H (D.map Fb) ds->ks=D.map (λp=>.inr p.1)->RepD K N H M ks ds (.ref a)
def RepI(K:Ag)(N:Sa->Prop)(H:Hp)(M:Sa->Prop)(v:V):cT->Prop
 |.non=>v=.non
 |.bl b=>v=.bl b
 |.int i=>v=.int i
 |.str x=>v=.str x
 |.ty n=>v=.ty n
 |.fn x=>∃a,v=.ref a/\Ds K Sc x=b3 (b3 (.ref a))
 |.tup ds=>RepT K N H ds v
 |.lst ds=>RepL K N H M ds v
 |.dct ks ds=>RepD K N H M ks ds v
 |_=>True
section
variable{K:Ag}{N:Sa->Prop}{H:Hp}{M:Sa->Prop}{v:V}{d:cT}{ds:List cT}
def bB.inv(h:bB K N H M v d):RepI K N H M v d:=by
 cases h with
 |fn q=>exact⟨_,rfl,q⟩
 |tup q r=>exact .tup q r
 |lst q n r=>exact .lst q n r
 |fzm q r=>exact .fzm q r
 |dct q n r=>exact .dct q n r rfl
 |ktb q r=>exact .ktb q r rfl
 |nst _ _ _=>trivial
 |flt _ _ _=>trivial
 |exn _ _ _=>trivial
 |exr _ _ _ _ _=>trivial
 |_=>rfl
def bB.onI{i:Int}(h:bB K N H M v (.int i)):v=.int i:=h.inv
def bB.onB{i:Bool}(h:bB K N H M v (.bl i)):v=.bl i:=h.inv
def bB.onS{i:Sb}(h:bB K N H M v (.str i)):v=.str i:=h.inv
def bB.onN(h:bB K N H M v .non):v=.non:=h.inv
def bB.onL(h:bB K N H M v (.lst ds)):RepL K N H M ds v:=h.inv
def bB.onT(h:bB K N H M v (.tup ds)):RepT K N H ds v:=h.inv
def bB.onD{ks:List aQ}(h:bB K N H M v (.dct ks ds)):RepD K N H M ks ds v:=h.inv
def bB.onF{x:Sb}(h:bB K N H M v (.fn x)):∃a,v=.ref a/\Ds K Sc x=b3 (b3 (.ref a)):=h.inv
end
def bB.fzl{K:Ag}{N:Sa->Prop}{H:Hp}{M:Sa->Prop}{a:Sa}{xs:List V}{ds:List cT}(q:FzL K H a xs)(r:b6 K N H xs ds):bB K N H M (.ref a) (.lst ds):=.fzm (.inl q) r
def Hard:HO->Prop
 |.tup _=>True
 |.frz _ _=>True
 |.ext _=>True
 |.xd _=>True
 |.own _=>True
 |_=>False
structure Fr(P:Sa->Prop)(H H':Hp):Prop where
 kp:∀b o,H b=b3 o->(P b->Hard o)->H' b=b3 o
 ft:∀b C dx f g p q xs ys,H b=b3 (.flt C dx f g p q xs ys)->∃us ws,H' b=b3 (.flt C dx f g p q us ws)
instance frCoe {P:Sa->Prop}{H H':Hp}:CoeFun (Fr P H H') (λ_=>∀b o,H b=b3 o->(P b->Hard o)->H' b=b3 o):=⟨Fr.kp⟩
def NZ(H:Hp)(a:Sa)(o:HO):Prop:=∀C dx f g p q xs ys,H a=b3 (.flt C dx f g p q xs ys)->∃us ws,o=.flt C dx f g p q us ws
def NZ.upd{H:Hp}{a:Sa}{o:HO}(h:NZ H a o)(b:Sa)(C dx:Sa)(f g:Sb)(p q:Sa)(xs ys:List V)(e:H b=b3 (.flt C dx f g p q xs ys)):∃us ws,upd H a o b=b3 (.flt C dx f g p q us ws):=by
 by_cases c:b=a
 ·subst c
  obtain⟨us,ws,rfl⟩:=h _ _ _ _ _ _ _ _ e;exact⟨us,ws,cG⟩
 ·exact⟨xs,ys,by rw[cH c];exact e⟩
def NZ.of{H:Hp}{a:Sa}{o b:HO}(h:H a=b3 b)(n:∀C dx f g p q xs ys,b≠ .flt C dx f g p q xs ys:=by exact λ_ _ _ _ _ _ _ _ z=>nomatch z):NZ H a o:=λC dx f g p q xs ys e=>by rw[h]at e;exact absurd (Bx e) (n _ _ _ _ _ _ _ _)
def Fr.refl(P:Sa->Prop)(H:Hp):Fr P H H:=⟨λ_ _ h _=>h,λ_ _ _ _ _ _ _ xs ys h=>⟨xs,ys,h⟩⟩
def Fr.trans{P:Sa->Prop}{H H1 H2:Hp}(a:Fr P H H1)(b:Fr P H1 H2):Fr P H H2:=⟨λc o h n=>b c o (a c o h n) n,λ_ _ _ _ _ _ _ _ _ h=>let ⟨_,_,e⟩:=a.ft _ _ _ _ _ _ _ _ _ h;b.ft _ _ _ _ _ _ _ _ _ e⟩
def Fr.mono{P d:Sa->Prop}{H H':Hp}(a:Fr P H H')(h:∀b,P b->d b):Fr d H H':=⟨λc o e n=>a c o e λz=>n (h c z),a.ft⟩
def aM.fr{P:Sa->Prop}{H H':Hp}(a:aM H H'):Fr P H H':=⟨λc o h _=>a c o h,λ_ _ _ _ _ _ _ xs ys h=>⟨xs,ys,a _ _ h⟩⟩
section
variable{K:Ag}{N N' M M' P:Sa->Prop}{H H':Hp}
def Fr.tup(f:Fr P H H'){a:Sa}{xs:List V}(h:UO K H a xs):UO K H' a xs:=by
 rcases h with((h|⟨_,_,_,z,_⟩|⟨_,_,_,_,_,_,_,_,_,_,_,z⟩)|⟨o,h⟩)|h
 ·exact .inl (.inl (.inl (f _ _ h λ_=>trivial)))
 ·cases z
 ·rcases z with⟨_,z⟩|⟨_,z⟩<;>cases z
 ·exact .inl (.inr ⟨o,f _ _ h λ_=>trivial⟩)
 ·exact .inr h
def Fr.fzl(f:Fr P H H'){a:Sa}{xs:List V}(h:FzL K H a xs):FzL K H' a xs:=by
 rcases h with⟨o,h⟩|h
 ·exact .inl ⟨o,f _ _ h λ_=>trivial⟩
 ·exact .inr h
def Fr.fzm(f:Fr P H H'){M:Sa->Prop}{a:Sa}{xs:List V}(h:FzM K H M a xs)(b:∀a,P a->M a):FzM K H' M a xs:=by
 rcases h with h|⟨x,us,sub,h1,h2,n,z⟩|⟨x,C,dx,c,g,p,q,us,ws,h1,h2,n,z⟩
 ·exact .inl (f.fzl h)
 ·exact .inr (.inl ⟨x,us,sub,f _ _ h1 λ_=>trivial,f _ _ h2 λz=>absurd (b _ z) n,n,z⟩)
 ·exact .inr (.inr ⟨x,C,dx,c,g,p,q,us,ws,f _ _ h1 λ_=>trivial,f _ _ h2 λz=>absurd (b _ z) n,n,z⟩)
def R0.fr{a:Sa}{x n m:Sb}{xs ys:List V}(h:R0 K H a x n m xs ys)(f:Fr P H H')(d:¬P a):R0 K H' a x n m xs ys:=let ⟨C,dx,p,q,e,⟨c,b⟩,z⟩:=h;⟨C,dx,p,q,f _ _ e λw=>absurd w d,⟨f _ _ c λ_=>trivial,f _ _ b λ_=>trivial⟩,z⟩
def R0.same{a:Sa}{x n m:Sb}{xs ys:List V}(h:R0 K H a x n m xs ys)(f:aM H H'):R0 K H' a x n m xs ys:=let ⟨C,dx,p,q,e,⟨c,b⟩,z⟩:=h;⟨C,dx,p,q,f _ _ e,⟨f _ _ c,f _ _ b⟩,z⟩
def R0.there{a:Sa}{x n m:Sb}{xs ys:List V}(h:R0 K H a x n m xs ys):∃o,H a=b3 o/\¬Hard o:=let ⟨_,_,_,_,e,_⟩:=h;⟨_,e,λz=>z⟩
def R6.fr{a:Sa}{sh:List (Option Nat)}{vs:List V}(h:R6 H a sh vs)(f:Fr P H H')(c:¬P a):R6 H' a sh vs:=let ⟨xs,sub,e,o,z⟩:=h;⟨xs,sub,f _ _ e λw=>absurd w c,λp zs b=>f _ _ (o p zs b) λ_=>trivial,z⟩
def R6.same{a:Sa}{sh:List (Option Nat)}{vs:List V}(h:R6 H a sh vs)(f:aM H H'):R6 H' a sh vs:=let ⟨xs,sub,e,o,z⟩:=h;⟨xs,sub,f _ _ e,λp zs b=>f _ _ (o p zs b),z⟩
def R6.there{a:Sa}{sh:List (Option Nat)}{vs:List V}(h:R6 H a sh vs):∃o,H a=b3 o/\¬Hard o:=let ⟨_,_,e,_⟩:=h;⟨_,e,λz=>z⟩
def bB.fr(f:Fr P H H')(e:∀a,P a->N a){M:Sa->Prop}{v:V}{d:cT}(c:∀a,P a->M a)(h:bB K N H M v d):bB K N H' M v d:=
 bB.rec (motive_1:=λM v d _=>(∀a,P a->M a)->bB K N H' M v d) (motive_2:=λvs ds _=>b6 K N H' vs ds) (λ_=>.non) (λb _=>.bl b) (λi _=>.int i) (λx _=>.str x) (λn _=>.ty n) (λq _=>.fn q) (λq _ r _=>.tup (f.tup q) r)
  (λq n _ r c=>.lst (f _ _ q λz=>absurd (c _ z) n) n r) (λq _ r c=>.fzm (f.fzm q c) r) (λq n _ r c=>.dct (f _ _ q λz=>absurd (c _ z) n) n r) (λq _ r _=>.ktb q r) (λp q r _=>.exn p (f _ _ q λ_=>trivial) r)
  (λp q r s _ t _=>.exr p (f _ _ q λ_=>trivial) r (f _ _ s λ_=>trivial) (t e)) (λq n _ r c=>.nst (q.fr f λz=>n (c _ z)) n r) (λq n _ r c=>.flt (q.fr f λz=>n (c _ z)) n r) .nil (λ_ _ a b=>.cons (a e) b) h c
def b6.map{c:Ag}{N':Sa->Prop}{H':Hp}(g:∀{v d},bB K N H N v d->bB c N' H' N' v d):∀{vs:List V}{ds:List cT},b6 K N H vs ds->b6 c N' H' vs ds:=by
 intro vs;induction vs with
 |nil=>intro ds h;cases h;exact .nil
 |cons v vs e=>intro ds h;cases h with|cons a b=>exact .cons (g a) (e b)
def b6.fr(f:Fr P H H')(b:∀a,P a->N a){vs:List V}{ds:List cT}(h:b6 K N H vs ds):b6 K N H' vs ds:=h.map λr=>r.fr f b b
def bB.mono(e:∀a,N' a->N a){M M':Sa->Prop}{v:V}{d:cT}(c:∀a,M' a->M a)(h:bB K N H M v d):bB K N' H M' v d:=
 bB.rec (motive_1:=λM v d _=>∀M',(∀a,M' a->M a)->bB K N' H M' v d) (motive_2:=λvs ds _=>b6 K N' H vs ds) (λ_ _=>.non) (λb _ _=>.bl b) (λi _ _=>.int i) (λx _ _=>.str x) (λn _ _=>.ty n) (λq _ _=>.fn q) (λq _ r _ _=>.tup q r)
  (λq n _ r _ c=>.lst q (λz=>n (c _ z)) r) (λq _ r _ c=>.fzm (q.imp id (Or.imp (λ⟨x,us,sub,h1,h2,n,z⟩=>⟨x,us,sub,h1,h2,λw=>n (c _ w),z⟩) λ⟨x,C,dx,f,g,p,q,us,ws,h1,h2,n,z⟩=>⟨x,C,dx,f,g,p,q,us,ws,h1,h2,λw=>n (c _ w),z⟩)) r) (λq n _ r _ c=>.dct q (λz=>n (c _ z)) r) (λq _ r _ _=>.ktb q r) (λp q r _ _=>.exn p q r) (λp q r s _ t _ _=>.exr p q r s (t _ e)) (λq n _ r _ c=>.nst q (λz=>n (c _ z)) r) (λq n _ r _ c=>.flt q (λz=>n (c _ z)) r) .nil (λ_ _ a b=>.cons (a _ e) b) h M' c
def b6.mono(b:∀a,N' a->N a){vs:List V}{ds:List cT}(h:b6 K N H vs ds):b6 K N' H vs ds:=h.map λr=>r.mono b b
def bB.same(f:aM H H'){v:V}{d:cT}(h:bB K N H M v d):bB K N H' M v d:=h.fr f.fr (λ_ z=>z.elim) (P:=λ_=>False) λ_ z=>z.elim
def b6.same(f:aM H H'){vs:List V}{ds:List cT}(h:b6 K N H vs ds):b6 K N H' vs ds:=h.fr f.fr (P:=λ_=>False) λ_ z=>z.elim
theorem b6.length:∀{vs:List V}{ds:List cT},b6 K N H vs ds->vs.length=ds.length
 |_,_,.nil=>rfl
 |_,_,.cons _ t=>congrArg (· +1) (b6.length t)
theorem b6.append:∀{vs ws:List V}{ds es:List cT},b6 K N H vs ds->b6 K N H ws es->b6 K N H (vs++ws) (ds++es)
 |_,_,_,_,.nil,s=>s
 |_,_,_,_,.cons h t,s=>.cons h (b6.append t s)
theorem b6.get:∀{vs:List V}{ds:List cT}{i:Nat}{d:cT},b6 K N H vs ds->ds[i]?=b3 d->∃v,vs[i]?=b3 v/\bB K N H N v d
 |_,_,_,_,.nil,e=>by simp at e
 |_,_,0,_,.cons r _,e=>by simp at e;subst e;exact⟨_,rfl,r⟩
 |_,_,i+1,x,.cons _ t,e=>by obtain⟨u,h1,h2⟩:=b6.get (i:=i) (d:=x) t (by simpa using e);exact⟨u,by simpa using h1,h2⟩
theorem b6.take:∀{vs:List V}{ds:List cT}(n:Nat),b6 K N H vs ds->b6 K N H (vs.take n) (ds.take n)
 |_,_,0,_=>.nil
 |_,_,_+1,.nil=>.nil
 |_,_,n+1,.cons r t=>.cons r (b6.take n t)
theorem b6.drop:∀{vs:List V}{ds:List cT}(n:Nat),b6 K N H vs ds->b6 K N H (vs.drop n) (ds.drop n)
 |_,_,0,r=>r
 |_,_,_+1,.nil=>.nil
 |_,_,n+1,.cons _ t=>b6.drop n t
theorem b6.set{v:V}{d:cT}(h:bB K N H N v d):∀{vs:List V}{ds:List cT}(i:Nat),b6 K N H vs ds->b6 K N H (vs.set i v) (ds.set i d)
 |_,_,_,.nil=>.nil
 |_,_,0,.cons _ t=>.cons h t
 |_,_,i+1,.cons q t=>.cons q (b6.set h i t)
def b6.snoc{vs:List V}{ds:List cT}{v:V}{d:cT}(r:b6 K N H vs ds)(h:bB K N H N v d):b6 K N H (vs++[v]) (ds++[d]):=r.append (.cons h .nil)
end
mutual
def cT.isD:cT->Bool
 |.non=>ba
 |.bl _=>ba
 |.int _=>ba
 |.str _=>ba
 |.ty _=>bb
 |.fn _=>bb
 |.tup ds=>FG ds
 |.lst ds=>FG ds
 |.dct _ _=>bb
 |.exn _=>bb
 |.exr _ _ _=>bb
 |.nst _ _=>bb
 |.flt _ _ _ _ _=>bb
def FG:List cT->Bool
 |[]=>ba
 |d::ds=>d.isD&&FG ds
end
mutual
def cT.pd:cT->Mm
 |.non=>.none
 |.bl b=>.bool b
 |.int i=>.int i
 |.str x=>.str x
 |.ty _=>.none
 |.fn _=>.none
 |.tup ds=>.tuple (pds ds)
 |.lst ds=>.list (pds ds)
 |.dct _ _=>.none
 |.exn _=>.none
 |.exr _ _ _=>.none
 |.nst _ _=>.none
 |.flt _ _ _ _ _=>.none
def pds:List cT->List Mm
 |[]=>[]
 |d::ds=>d.pd::pds ds
end
mutual
def cT.hard:cT->Bool
 |.tup ds=>QX ds
 |.lst _=>bb
 |.dct _ _=>bb
 |.exr _ _ _=>bb
 |.nst _ _=>bb
 |.flt _ _ _ _ _=>bb
 |_=>ba
def QX:List cT->Bool
 |[]=>ba
 |d::ds=>d.hard&&QX ds
end
section
variable{K:Ag}{N:Sa->Prop}{H:Hp}
def bB.dp{M:Sa->Prop}{v:V}{d:cT}(h:bB K N H M v d)(e:d.isD=ba):Dp K H v d.pd:=
 bB.rec (motive_1:=λM v d _=>d.isD=ba->Dp K H v d.pd) (motive_2:=λvs ds _=>FG ds=ba->K7 K H vs (pds ds)) (λ_=>.non) (λb _=>.bl b) (λi _=>.int i) (λx _=>.str x) (λ_ h=>nomatch h) (λ_ h=>nomatch h) (λq _ r h=>.tup q (r h))
  (λq _ _ r h=>.lst (XV.of q) (r h)) (λq _ r h=>.lst q.sq (r h)) (λ_ _ _ _ h=>nomatch h) (λ_ _ _ h=>nomatch h) (λ_ _ _ h=>nomatch h) (λ_ _ _ _ _ _ h=>nomatch h) (λ_ _ _ _ h=>nomatch h) (λ_ _ _ _ h=>nomatch h) (λ_=>.nil) (λ_ _ a b e=>.cons (a (Dm.mp e).1) (b (Dm.mp e).2)) h e
def bB.hard{N':Sa->Prop}{M M':Sa->Prop}{v:V}{d:cT}(h:bB K N H M v d)(e:d.hard=ba):bB K N' H M' v d:=
 bB.rec (motive_1:=λM v d _=>∀M',d.hard=ba->bB K N' H M' v d) (motive_2:=λvs ds _=>QX ds=ba->b6 K N' H vs ds) (λ_ _=>.non) (λb _ _=>.bl b) (λi _ _=>.int i) (λx _ _=>.str x) (λn _ _=>.ty n) (λq _ _=>.fn q) (λq _ r _ h=>.tup q (r h))
  (λ_ _ _ _ _ h=>nomatch h) (λ_ _ _ _ h=>nomatch h) (λ_ _ _ _ _ h=>nomatch h) (λ_ _ _ _ h=>nomatch h) (λp q r _ _=>.exn p q r) (λ_ _ _ _ _ _ _ h=>nomatch h) (λ_ _ _ _ _ h=>nomatch h) (λ_ _ _ _ _ h=>nomatch h) (λ_=>.nil) (λ_ _ a b e=>.cons (a _ (Dm.mp e).1) (b (Dm.mp e).2)) h M' e
def b6.hard{N':Sa->Prop}:∀{vs:List V}{ds:List cT},b6 K N H vs ds->QX ds=ba->b6 K N' H vs ds:=by
 intro vs;induction vs with
 |nil=>intro ds h _;cases h;exact .nil
 |cons v vs c=>intro ds h e;cases h with|cons a b=>exact .cons (a.hard (Dm.mp e).1) (c b (Dm.mp e).2)
end
inductive Sl where
 |no|va (d:cT)|ow (d:cT)
abbrev Ev:=List Sl
structure Bs where
 Z:Sa->Prop
 P:Sa->Prop
 H0:Hp
 mu:Nat->Option Sa
 kp:List (V×cT)
def Nn(B:Bs)(O:Nat->Option Sa):Sa->Prop:=λa=>B.Z a∨∃i,O i=b3 a
def OA(O:Nat->Option Sa):Sa->Prop:=λa=>∃i,O i=b3 a
inductive R7(K:Ag)(N:Sa->Prop)(H:Hp)(a:Sa):cT->Prop
 |lst {xs:List V}{ds:List cT}:H a=b3 (.lst xs)->b6 K N H xs ds->R7 K N H a (.lst ds)
 |dct {kvs:List (aQ×V)}{ds:List cT}:H a=b3 (.dK kvs)->b6 K N H (kvs.map Fb) ds->R7 K N H a (.dct (kvs.map Ed) ds)
 |nst {sh:List (Option Nat)}{vs:List V}{ds:List cT}:R6 H a sh vs->b6 K N H vs ds->R7 K N H a (.nst sh ds)
 |flt {x f g:Sb}{xs ys:List V}{ds:List cT}:R0 K H a x f g xs ys->b6 K N H (xs++ys) ds->R7 K N H a (.flt x f g xs.length ds)
theorem R7.fr{K:Ag}{N P:Sa->Prop}{H H':Hp}{a:Sa}{d:cT}(f:Fr P H H')(c:∀a,P a->N a)(b:¬P a):R7 K N H a d->R7 K N H' a d
 |.lst q r=>.lst (f _ _ q λz=>absurd z b) (r.fr f c)
 |.dct q r=>.dct (f _ _ q λz=>absurd z b) (r.fr f c)
 |.nst q r=>.nst (q.fr f b) (r.fr f c)
 |.flt q r=>.flt (q.fr f b) (r.fr f c)
theorem R7.mono{K:Ag}{N N':Sa->Prop}{H:Hp}{a:Sa}{d:cT}(h:∀b,N' b->N b):R7 K N H a d->R7 K N' H a d
 |.lst q r=>.lst q (r.mono h)
 |.dct q r=>.dct q (r.mono h)
 |.nst q r=>.nst q (r.mono h)
 |.flt q r=>.flt q (r.mono h)
def R7.soft{K:Ag}{N:Sa->Prop}{H:Hp}{a:Sa}{d:cT}(h:R7 K N H a d):∃o,H a=b3 o/\¬Hard o:=by
 cases h with
 |lst q _=>exact⟨_,q,λz=>z⟩
 |dct q _=>exact⟨_,q,λz=>z⟩
 |nst q _=>exact q.there
 |flt q _=>exact q.there
def R7.rep{K:Ag}{N M:Sa->Prop}{H:Hp}{a:Sa}{d:cT}(h:R7 K N H a d)(b:¬M a):bB K N H M (.ref a) d:=by
 cases h with
 |lst q r=>exact .lst q b r
 |dct q r=>exact .dct q b r
 |nst q r=>exact .nst q b r
 |flt q r=>exact .flt q b r
structure aI(K:Ag)(ml:List Nat)(B:Bs)(O:Nat->Option Sa)(H:Hp)(σ:St)(δ:Ev):Prop where
 len:σ.length=δ.length
 va:∀(i:Nat) (d:cT),δ[i]?=b3 (Sl.va d)->∃v,σ[i]?=b3 (b3 v)/\bB K (Nn B O) H (Nn B O) v d
 ow:∀(i:Nat) (d:cT),δ[i]?=b3 (Sl.ow d)->∃a,O i=b3 a/\σ[i]?=b3 (b3 (.ref a))/\R7 K (Nn B O) H a d
 dom:∀(i:Nat) a,O i=b3 a->∃d,δ[i]?=b3 (Sl.ow d)
 inj:∀i j a,O i=b3 a->O j=b3 a->i=j
 old:∀i a,O i=b3 a->¬B.Z a/\(B.P a∨B.H0 a=b5)
 zin:∀a,B.Z a->∃o,H a=b3 o
 frm:Fr B.P B.H0 H
 par:(∀i a,B.mu i=b3 a->i∈ml)/\∀i∈ml,O i=B.mu i
 pin:∀a,B.P a->∃o,H a=b3 o
 kep:∀p∈B.kp,bB K (Nn B O) H (Nn B O) p.1 p.2
section
variable{K:Ag}{ml:List Nat}{B:Bs}{O:Nat->Option Sa}{H H':Hp}{σ:St}{δ δ':Ev}
def aI.nin(S:aI K ml B O H σ δ){a:Sa}(h:Nn B O a):∃o,H a=b3 o:=by
 rcases h with h|⟨i,h⟩
 ·exact S.zin a h
 ·obtain⟨d,e⟩:=S.dom i a h
  obtain⟨c,b,_,w⟩:=S.ow i d e;rw[h]at b;cases b;obtain⟨o,q,_⟩:=w.soft;exact⟨o,q⟩
def aI.new(S:aI K ml B O H σ δ){a:Sa}(h:H a=b5):¬Nn B O a:=λz=>by obtain⟨o,q⟩:=S.nin z;rw[h]at q;cases q
def aI.same(S:aI K ml B O H σ δ)(f:aM H H'):aI K ml B O H' σ δ where
 len:=S.len
 va:=λi d e=>let ⟨v,a,b⟩:=S.va i d e;⟨v,a,b.same f⟩
 ow:=λi d e=>let ⟨a,b,c,w⟩:=S.ow i d e;⟨a,b,c,w.fr (P:=λ_=>False) f.fr (λ_ z=>z.elim) λz=>z⟩
 dom:=S.dom
 inj:=S.inj
 old:=S.old
 zin:=λa h=>let ⟨o,q⟩:=S.zin a h;⟨o,f _ _ q⟩
 frm:=S.frm.trans f.fr
 par:=S.par
 pin:=λa h=>let ⟨o,q⟩:=S.pin a h;⟨o,f _ _ q⟩
 kep:=λp h=>(S.kep p h).same f
def aI.fresh(S:aI K ml B O H σ δ){a:Sa}(h:H a=b5):B.H0 a=b5:=by
 cases q:B.H0 a with
 |none=>rfl
 |some o=>
  by_cases b:B.P a
  ·obtain⟨o',e⟩:=S.pin a b
   rw[h]at e;cases e
  ·have := S.frm a o q λz => absurd z b
   rw[h]at this;cases this
def Bs.add(B:Bs)(p:Sa):Bs:={B with Z:=λa=>B.Z a∨a=p}
def OL{p:Sa}:∀a,Nn B O a->Nn (B.add p) O a:=λa h=>by
 rcases h with h|h
 ·exact .inl (.inl h)
 ·exact .inr h
def bB.away{p:Sa}(k:H p=b5)(N N':Sa->Prop)(j:∀a,N' a->N a∨a=p){M M':Sa->Prop}{v:V}{d:cT}(c:∀a,M' a->M a∨a=p)(h:bB K N H M v d):bB K N' H M' v d:=
 have no:∀{a:Sa}{o:HO}{M M':Sa->Prop},H a=b3 o->¬M a->(∀a,M' a->M a∨a=p)->¬M' a:=λq n c z=>(c _ z).elim n λe=>by rw[e,k]at q;cases q
 bB.rec (motive_1:=λM v d _=>∀M',(∀a,M' a->M a∨a=p)->bB K N' H M' v d) (motive_2:=λvs ds _=>b6 K N' H vs ds) (λ_ _=>.non) (λb _ _=>.bl b) (λi _ _=>.int i) (λx _ _=>.str x) (λn _ _=>.ty n) (λq _ _=>.fn q) (λq _ r _ _=>.tup q r)
  (λq n _ r _ c=>.lst q (no q n c) r) (λq _ r _ c=>.fzm (q.imp id (Or.imp (λ⟨x,us,sub,h1,h2,n,z⟩=>⟨x,us,sub,h1,h2,no h2 n c,z⟩) λ⟨x,C,dx,f,g,p,q,us,ws,h1,h2,n,z⟩=>⟨x,C,dx,f,g,p,q,us,ws,h1,h2,no h2 n c,z⟩)) r) (λq n _ r _ c=>.dct q (no q n c) r) (λq _ r _ _=>.ktb q r) (λp q r _ _=>.exn p q r) (λp q r s _ t _ _=>.exr p q r s (t _ j)) (λq n _ r _ c=>.nst q (let ⟨_,e,_⟩:=q.there;no e n c) r) (λq n _ r _ c=>.flt q (let ⟨_,e,_⟩:=q.there;no e n c) r) .nil (λ_ _ a b=>.cons (a _ j) b) h M' c
def b6.away{p:Sa}(c:H p=b5)(N N':Sa->Prop)(b:∀a,N' a->N a∨a=p){vs:List V}{ds:List cT}(h:b6 K N H vs ds):b6 K N' H vs ds:=h.map λr=>r.away c N N' b b
def WU{p:Sa}:∀a,Nn (B.add p) O a->Nn B O a∨a=p:=λa h=>by
 rcases h with(h|h)|h
 ·exact .inl (.inl h)
 ·exact .inr h
 ·exact .inl (.inr h)
def aI.laid(S:aI K ml B O H σ δ){p:Sa}{o:HO}(f:H p=b5):aI K ml (B.add p) O (upd H p o) σ δ where
 len:=S.len
 va:=λi d e=>let ⟨v,a,b⟩:=S.va i d e;⟨v,a,(b.away f _ _ WU WU).same (cK f)⟩
 ow:=λi d e=>by
  obtain⟨a,b,c,w⟩:=S.ow i d e;refine⟨a,b,c,?_⟩;have g:∀o,H a=b3 o->upd H p o=upd H p o:=λ_ _=>rfl;cases w with
  |lst q r=>exact .lst (cK f _ _ q) ((r.away f _ _ WU).same (cK f))
  |dct q r=>exact .dct (cK f _ _ q) ((r.away f _ _ WU).same (cK f))
  |nst q r=>exact .nst (q.same (cK f)) ((r.away f _ _ WU).same (cK f))
  |flt q r=>exact .flt (q.same (cK f)) ((r.away f _ _ WU).same (cK f))
 dom:=S.dom
 inj:=S.inj
 old:=λi a h=>by
  refine⟨λz=>?_,(S.old i a h).2⟩;rcases z with z|z
  ·exact(S.old i a h).1 z
  ·obtain⟨o,q⟩:=S.nin (.inr ⟨i,h⟩)
   rw[z,f]at q;cases q
 zin:=λa h=>by
  rcases h with h|h
  ·obtain⟨o,q⟩:=S.zin a h
   exact⟨o,cK f _ _ q⟩
  ·exact⟨_,by rw[h];exact cG⟩
 frm:=S.frm.trans (cK f).fr
 par:=S.par
 pin:=λa h=>let ⟨o,q⟩:=S.pin a h;⟨o,cK f _ _ q⟩
 kep:=λp h=>((S.kep p h).away f _ _ WU WU).same (cK f)
def NT{i:Nat}{o:Option Sa}:∀a,Nn B (λj=>if j=i then b5 else O j) a->Nn B O a:=λa h=>by
 rcases h with h|⟨j,h⟩
 ·exact .inl h
 ·refine .inr ⟨j,?_⟩
  by_cases b:j=i
  ·simp[b]at h
  ·simpa[b]using h
def RT{α:Type}{l:List α}{i j:Nat}{x y:α}(h:(l.set i x)[j]?=b3 y):(j=i/\y=x/\i<l.length)∨(j≠i/\l[j]?=b3 y):=by
 by_cases a:j=i
 ·subst a
  rw[List.getElem?_set_self']at h;obtain⟨z,q,h⟩:=An.mp h;cases h;exact .inl ⟨rfl,rfl,(Ai.mp q).1⟩
 ·rw[By (Dl a)]at h
  exact .inr ⟨a,h⟩
def aI.setVa(S:aI K ml B O H σ δ){i:Nat}{v:V}{d:cT}(m:i∉ml)(h:bB K (Nn B O) H (Nn B O) v d):aI K ml B (λj=>if j=i then b5 else O j) H (σ.set i (b3 v)) (δ.set i (.va d)) where
 len:=by rw[Dg,Dg,S.len]
 va:=λj e q=>by
  rcases RT q with⟨rfl,z,hl⟩|⟨b,q⟩
  ·cases z
   exact⟨v,by rw[Cw (by rw[S.len];exact hl)],h.mono (NT (o:=b5)) (NT (o:=b5))⟩
  ·obtain⟨u,c,r⟩:=S.va j e q
   exact⟨u,by rw[By (Dl b)];exact c,r.mono (NT (o:=b5)) (NT (o:=b5))⟩
 ow:=λj e q=>by
  rcases RT q with⟨rfl,z,hl⟩|⟨b,q⟩
  ·cases z
  ·obtain⟨a,c,f,w⟩:=S.ow j e q
   exact⟨a,by simpa[b]using c,by rw[By (Dl b)];exact f,w.mono (NT (o:=b5))⟩
 dom:=λj a e=>by
  by_cases b:j=i
  ·simp[b]at e
  ·obtain ⟨d,q⟩ := S.dom j a (by simpa [b]using e)
   exact⟨d,by rw[By (Dl b)];exact q⟩
 inj:=λj k a c f=>by
  by_cases b:j=i
  ·simp[b]at c
  ·by_cases hk:k=i
   ·simp[hk]at f
   ·exact S.inj j k a (by simpa[b]using c) (by simpa[hk]using f)
 old:=λj a e=>by
  by_cases b:j=i
  ·simp[b]at e
  ·exact S.old j a (by simpa[b]using e)
 zin:=S.zin
 frm:=S.frm
 par:=⟨S.par.1,λj b=>by have g:j≠i:=λz=>m (z▸b);have h2:O j=B.mu j:=S.par.2 j b;simpa[g]using h2⟩
 pin:=S.pin
 kep:=λp l=>(S.kep p l).mono (NT (o:=b5)) (NT (o:=b5))
def OM{i:Nat}{p:Sa}:∀a,Nn B (λj=>if j=i then b3 p else O j) a->Nn (B.add p) O a:=λa h=>by
 rcases h with h|⟨j,h⟩
 ·exact .inl (.inl h)
 ·by_cases b:j=i
  ·simp[b]at h
   exact .inl (.inr h.symm)
  ·exact .inr ⟨j,by simpa[b]using h⟩
def aI.setOw{p:Sa}(S:aI K ml (B.add p) O H σ δ){i:Nat}{d:cT}(m:i∉ml)(hl:i<δ.length)(hz:¬B.Z p)(n:B.H0 p=b5)(h:R7 K (Nn (B.add p) O) H p d):
  aI K ml B (λj=>if j=i then b3 p else O j) H (σ.set i (b3 (.ref p))) (δ.set i (.ow d)) where
 len:=by rw[Dg,Dg,S.len]
 va:=λj e q=>by
  rcases RT q with⟨rfl,z,_⟩|⟨b,q⟩
  ·cases z
  ·obtain⟨u,c,r⟩:=S.va j e q
   exact⟨u,by rw[By (Dl b)];exact c,r.mono OM OM⟩
 ow:=λj e q=>by
  rcases RT q with⟨rfl,z,hl⟩|⟨b,q⟩
  ·cases z
   exact⟨p,by simp,by rw[Cw (by rw[S.len];exact hl)],h.mono OM⟩
  ·obtain⟨a,c,f,w⟩:=S.ow j e q
   exact⟨a,by simpa[b]using c,by rw[By (Dl b)];exact f,w.mono OM⟩
 dom:=λj a e=>by
  by_cases b:j=i
  ·subst b
   exact⟨d,by rw[Cw hl]⟩
  ·obtain ⟨d,q⟩ := S.dom j a (by simpa [b]using e)
   exact⟨d,by rw[By (Dl b)];exact q⟩
 inj:=λj k a c f=>by
  by_cases b:j=i
  ·by_cases hk:k=i
   ·rw[b,hk]
   ·simp[b]at c
    simp[hk]at f;exact absurd (.inr c.symm) (S.old k a f).1
  ·by_cases hk:k=i
   ·simp[hk]at f
    simp[b]at c;exact absurd (.inr f.symm) (S.old j a c).1
   ·exact S.inj j k a (by simpa[b]using c) (by simpa[hk]using f)
 old:=λj a e=>by
  by_cases b:j=i
  ·simp[b]at e
   subst e;exact⟨hz,.inr n⟩
  ·have := S.old j a (by simpa [b]using e)
   exact⟨λz=>this.1 (.inl z),this.2⟩
 zin:=λa h=>S.zin a (.inl h)
 frm:=S.frm
 par:=⟨S.par.1,λj b=>by have g:j≠i:=λz=>m (z▸b);have h2:O j=B.mu j:=S.par.2 j b;simpa[g]using h2⟩
 pin:=S.pin
 kep:=λp l=>(S.kep p l).mono OM OM
def aI.wrote(S:aI K ml B O H σ δ){i:Nat}{a:Sa}{d:cT}{o:HO}(e:O i=b3 a)(E:¬Hard o)(l:NZ H a o)(h:R7 K (Nn B O) (upd H a o) a d):aI K ml B O (upd H a o) σ (δ.set i (.ow d)):=by
 have y:Fr (λb=>b=a) H (upd H a o):=⟨λb u q n=>by
  by_cases f:b=a
  ·subst f
   obtain⟨d',t⟩:=S.dom i b e;obtain⟨s,c,_,w⟩:=S.ow i d' t;rw[e]at c;cases c;obtain⟨C,q1,x⟩:=w.soft;rw[q]at q1;cases q1;exact absurd (n rfl) x
  ·rw[cH f]
   exact q,l.upd⟩
 have m:∀b,b=a->Nn B O b:=λb z=>.inr ⟨i,z▸e⟩;have k:∀b,(∃u,H b=b3 u)->∃u,upd H a o b=b3 u:=λb q0=>by
  obtain⟨u,q⟩:=q0;by_cases f:b=a
  ·exact⟨o,by rw[f];exact cG⟩
  ·exact⟨u,by rw[cH f];exact q⟩
 refine⟨by rw[Dg,S.len],λj d' q=>?_,λj d' q=>?_,λj b q=>?_,S.inj,S.old,λb h=>k b (S.zin b h),?_,S.par,λb h=>k b (S.pin b h),λp D=>(S.kep p D).fr y m m⟩
 ·rcases RT q with⟨_,z,_⟩|⟨g,q⟩
  ·cases z
  ·obtain⟨v,c,r⟩:=S.va j d' q
   exact⟨v,c,r.fr y m m⟩
 ·rcases RT q with⟨rfl,z,hl⟩|⟨g,q⟩
  ·cases z
   obtain⟨d0,q0⟩:=S.dom j a e;obtain⟨s,c,A,_⟩:=S.ow j d0 q0;rw[e]at c;cases c;exact⟨a,e,A,h⟩
  ·obtain⟨s,c,A,w⟩:=S.ow j d' q
   exact⟨s,c,A,w.fr y m λz=>g (S.inj j i a (z▸c) e)⟩
 ·by_cases g:j=i
  ·subst g
   obtain⟨d0,q0⟩:=S.dom j b q;exact⟨d,by rw[Cw (Ai.mp q0).1]⟩
  ·obtain⟨d0,q0⟩:=S.dom j b q
   exact⟨d0,by rw[By (Dl g)];exact q0⟩
 ·refine ⟨λb u q n => ?_,λb _ _ _ _ _ _ _ _ h => let ⟨_,_,e⟩ := S.frm.ft _ _ _ _ _ _ _ _ _ h;l.upd _ _ _ _ _ _ _ _ _ e⟩
  have h1:=S.frm b u q n;by_cases f:b=a
  ·subst f
   rcases(S.old i b e).2 with z|z
   ·obtain⟨d',t⟩:=S.dom i b e
    obtain⟨s,c,_,w⟩:=S.ow i d' t;rw[e]at c;cases c;obtain⟨C,q1,x⟩:=w.soft;rw[h1]at q1;cases q1;exact absurd (n z) x
   ·rw[q]at z
    cases z
  ·rw[cH f]
   exact h1
def aI.keepV(S:aI K ml B O H σ δ){ps:List (V×cT)}(h:∀p∈ps,bB K (Nn B O) H (Nn B O) p.1 p.2):aI K ml {B with kp:=ps++B.kp} O H σ δ:=
 ⟨S.len,S.va,S.ow,S.dom,S.inj,S.old,S.zin,S.frm,S.par,S.pin,λp a=>(Ci.mp a).elim (h p) (S.kep p)⟩
def aI.unkeep{ps:List (V×cT)}(S:aI K ml {B with kp:=ps++B.kp} O H σ δ):aI K ml B O H σ δ:=
 ⟨S.len,S.va,S.ow,S.dom,S.inj,S.old,S.zin,S.frm,S.par,S.pin,λp a=>S.kep p (Bt _ a)⟩
end
def rz(B:Bs):Sa->Prop:=λa=>B.Z a∨∃i,B.mu i=b3 a
def av(B:Bs)(O:Nat->Option Sa)(b:Bool):Sa->Prop:=if b then Nn B O else λa=>Nn B O a/\rz B a
def at_(B:Bs)(O:Nat->Option Sa)(b:Bool):Sa->Prop:=if b then Nn B O else λ_=>False
def Xj{B:Bs}{O:Nat->Option Sa}{b:Bool}:∀a,at_ B O b a->av B O b a:=λa h=>by
 cases b with
 |true=>exact h
 |false=>exact h.elim
def mr{B:Bs}{O:Nat->Option Sa}{b c:Bool}(h:b=ba->c=ba):∀a,at_ B O b a->at_ B O c a:=λa z=>by
 cases b with
 |true=>rw[h rfl];exact z
 |false=>exact z.elim
def aI.rzn{K:Ag}{ml:List Nat}{B:Bs}{O:Nat->Option Sa}{H:Hp}{σ:St}{δ:Ev}(S:aI K ml B O H σ δ):∀a,rz B a->Nn B O a:=λa h=>by
 rcases h with h|⟨i,h⟩
 ·exact .inl h
 ·exact .inr ⟨i,(S.par.2 i (S.par.1 i a h)).trans h⟩
def aI.rza{K:Ag}{ml:List Nat}{B:Bs}{O:Nat->Option Sa}{H:Hp}{σ:St}{δ:Ev}(S:aI K ml B O H σ δ){b:Bool}:∀a,rz B a->av B O b a:=λa h=>by
 cases b with
 |true=>exact S.rzn a h
 |false=>exact⟨S.rzn a h,h⟩
def T5{B:Bs}{O:Nat->Option Sa}{b c:Bool}(h:b=ba->c=ba):∀a,av B O b a->av B O c a:=λa z=>by
 cases b with
 |true=>rw[h rfl];exact z
 |false=>cases c with
  |true=>exact z.1
  |false=>exact z
structure AQ(K:Ag)(ml:List Nat)(B:Bs)(O:Nat->Option Sa)(H:Hp)(σ:St)(pu bt bi:Bool)(H':Hp)(δ':Ev)(v:V)(d:cT):Prop where
 sta:aI K ml B O H' σ δ'
 frm:Fr (OA O) H H'
 pur:pu=ba->aM H H'
 rep:bB K (av B O bi) H' (at_ B O bt) v d
abbrev VF:=Ev->Option (cT×Ev)
inductive TVi(K:Ag)(ml:List Nat)(pu bt bi:Bool)(f:VF)(σ:St)(H:Hp)(Q:VK):Prop
 |mk (B:_) (O:_) (δ:_) (d:_) (δ':_) (h0:aI K ml B O H σ δ) (h1:f δ=b3 (d,δ')) (h2:∀v H',AQ K ml B O H σ pu bt bi H' δ' v d->Q v H'):TVi K ml pu bt bi f σ H Q
def TV(K:Ag)(ml:List Nat)(pu bt bi:Bool)(f:VF):TE:=λσ H Q=>TVi K ml pu bt bi f σ H Q
def PE.imp{X:Cx}{e:Sf}{t u:TE}(h:PE X e t)(k:∀σ H Q,u σ H Q->t σ H Q):PE X e u:=λaa s σ H Q I w=>h aa s σ H Q I (k σ H Q w)
def PT.imp{X:Cx}{e:Sf}{t u:TT}(h:PT X e t)(k:∀σ H Q,u σ H Q->t σ H Q):PT X e u:=λaa s σ H Q I w=>h aa s σ H Q I (k σ H Q w)
def PW.imp{X:Cx}{e:Sf}{t u:TT}(h:PW X e t)(k:∀σ H Q,u σ H Q->t σ H Q):PW X e u:=λa aa s σ H Q I w=>h a aa s σ H Q I (k σ H Q w)
def PA.imp{X:Cx}{e:List Sf}{t u:TA}(h:PA X e t)(k:∀σ H Q,u σ H Q->t σ H Q):PA X e u:=λpos aa s σ H Q I w=>h pos aa s σ H Q I (k σ H Q w)
def PS.imp{X:Cx}{e:Sj}{t u:TS}(h:PS X e t)(k:∀D σ H,u D σ H->t D σ H):PS X e u:=λaa s σ H D I w=>h aa s σ H D I (k D σ H w)
def W1.imp{X:Cx}{e:List Sj}{t u:TS}(h:W1 X e t)(k:∀D σ H,u D σ H->t D σ H):W1 X e u:=λaa s σ H D I w=>h aa s σ H D I (k D σ H w)
section
variable{X:Cx}{K:Ag}{ml:List Nat}{e a b c:Sf}{pa ta ia pb tb ib pc tc ic:Bool}{fa fb fc:VF}{r:R2}{o:cT->cT->Option cT}{B:Bs}{O:Nat->Option Sa}{H H1 H':Hp}{σ:St}{δ δ':Ev}{v:V}{d:cT}
def fC(d:cT):VF:=λδ=>b3 (d,δ)
def AQ.refl{pu bt bi:Bool}(S:aI K ml B O H σ δ)(h:bB K (av B O bi) H (at_ B O bt) v d):AQ K ml B O H σ pu bt bi H δ v d:=⟨S,Fr.refl _ _,λ_=>aM.refl _,h⟩
def AF(h:PE X e (tC v))(b:∀N H M,bB K N H M v d):PE X e (TV K ml ba ba ba (fC d)):=h.imp λσ H Q a=>by obtain⟨B,O,δ,d',δ',S,q,k⟩:=a;cases q;exact k v H (AQ.refl S (b _ _ _))
def cQ{i j pos}:PE X (.Constant (.int i) j pos) (TV K ml ba ba ba (fC (.int i))):=AF XO λ_ _ _=>.int i
def X8{i j pos}:PE X (.Constant (.bool i) j pos) (TV K ml ba ba ba (fC (.bl i))):=AF lB λ_ _ _=>.bl i
def bP{j pos}:PE X (.Constant .none j pos) (TV K ml ba ba ba (fC .non)):=AF Za λ_ _ _=>.non
def cD{i j pos}:PE X (.Constant (.str i) j pos) (TV K ml ba ba ba (fC (.str i))):=AF Xl λ_ _ _=>.str i
noncomputable def fV(i:Nat):VF:=λδ=>match δ[i]? with
 |some (.va d)=>b3 (d,δ)
 |_=>b5
noncomputable def fO(i:Nat):VF:=λδ=>match δ[i]? with
 |some (.va d)=>b3 (d,δ)
 |some (.ow d)=>b3 (d,δ)
 |_=>b5
def m7{i:Nat}(h:PE X e (ZH i)):PE X e (TV K ml ba ba ba (fV i)):=h.imp λσ H Q a=>by
 obtain⟨B,O,δ,d',δ',S,q,k⟩:=a;unfold fV at q;split at q
 ·rename_i d hd
  cases q;obtain⟨v,b,r⟩:=S.va i _ hd;exact⟨v,b,k v H (AQ.refl S r)⟩
 ·cases q
def Xn{i:Nat}(h:PE X e (ZH i)):PE X e (TV K ml ba bb ba (fO i)):=h.imp λσ H Q b=>by
 obtain⟨B,O,δ,d',δ',S,q,k⟩:=b;unfold fO at q;split at q
 ·rename_i d hd
  cases q;obtain⟨v,c,r⟩:=S.va i _ hd;exact⟨v,c,k v H (AQ.refl S (r.mono (λ_ z=>z) λa z=>z.elim))⟩
 ·rename_i d hd
  cases q;obtain⟨a,c,f,w⟩:=S.ow i _ hd;exact⟨.ref a,f,k _ H (AQ.refl S (w.rep λz=>z))⟩
 ·cases q
def AQ.live{H2:Hp}{c:V}{e:cT}(R2:AQ K ml B O H1 σ pb tb ib H2 δ' c e)(b:(pb || (ta&&ia))=ba)(h:bB K (av B O ia) H1 (at_ B O ta) v d):bB K (av B O ia) H2 (at_ B O ta) v d:=by
 cases pb with
 |true=>exact h.same (R2.pur rfl)
 |false=>
  have b:(ta&&ia)=ba:=by simpa using b
  obtain⟨h1,h2⟩:=(Af _ _).mp b;subst h1 h2;exact h.fr R2.frm (λa z=>.inr z) λa z=>.inr z
noncomputable def f2(o:cT->cT->Option cT)(fa fb:VF):VF:=λδ=>(fa δ).bind λp=>(fb p.2).bind λq=>(o p.1 q.1).map λc=>(c,q.2)
def QC{a:Ev}(h:f2 o fa fb δ=b3 (d,a)):∃x δ1 y,fa δ=b3 (x,δ1)/\fb δ1=b3 (y,a)/\o x y=b3 d:=by
 unfold f2 at h;cases h1:fa δ with
 |none=>rw[h1]at h;cases h
 |some p=>
  rw[h1]at h;cases h2:fb p.2 with
  |none=>simp[h2]at h
  |some q=>
   simp only[Ay,h2]at h;obtain⟨c,b,h⟩:=An.mp h;cases h;exact⟨p.1,p.2,q.1,rfl,h2,b⟩
def N0(K:Ag)(r:R2)(o:cT->cT->Option cT):Prop:=∀(H:Hp) (N N' M M':Sa->Prop) (x y:V) (d e c:cT) (Q:VK),bB K N H M x d->bB K N' H M' y e->o d e=b3 c->(∀v,(∀H' N M,bB K N H' M v c)->Q v H)->r x y H Q
def OpC(K:Ag)(r:R2)(o:cT->cT->Option cT):Prop:=∀(H:Hp) (N M M':Sa->Prop) (x y:V) (d e c:cT) (Q:VK),bB K N H M x d->bB K N H M' y e->o d e=b3 c->
 (∀v H',aM H H'->(∀M,(∀a,M a->∃o,H a=b3 o)->bB K N H' M v c)->Q v H')->r x y H Q
def OpI(K:Ag)(r:R2)(o:cT->cT->Option cT):Prop:=∀(H:Hp) (N N' M M':Sa->Prop) (x y:V) (d e c:cT) (Q:VK),bB K N H M x d->bB K N' H M' y e->o d e=b3 c->(∀v,bB K N H N v c->Q v H)->r x y H Q
def EE(l:N0 K r o)(j:(pb || (ta&&ia))=ba){Q:VK}(h:TV K ml (pa&&pb) ba ba (f2 o fa fb) σ H Q):tOp r (TV K ml pa ta ia fa) (TV K ml pb tb ib fb) σ H Q:=by
 obtain⟨B,O,δ,d,b,S,q,k⟩:=h;obtain⟨x,δ1,y,h1,h2,m⟩:=QC q;refine⟨B,O,δ,x,δ1,S,h1,λg H1 a=>⟨B,O,δ1,y,b,a.sta,h2,λf H2 R2=>?_⟩⟩;exact l H2 _ _ _ _ g f x y d Q (R2.live j a.rep) R2.rep m λv i=>k v H2 ⟨R2.sta,a.frm.trans R2.frm,λz=>by obtain⟨e,c⟩:=(Af _ _).mp z;exact(a.pur e).trans (R2.pur c),i _ _ _⟩
def k9(n:OpC K r o)(m:(pb || (ta&&ia))=ba){Q:VK}(h:TV K ml (pa&&pb) ba (ia&&ib) (f2 o fa fb) σ H Q):tOp r (TV K ml pa ta ia fa) (TV K ml pb tb ib fb) σ H Q:=by obtain⟨B,O,δ,d,c,S,q,k⟩:=h;obtain⟨x,δ1,y,h1,h2,p⟩:=QC q;refine⟨B,O,δ,x,δ1,S,h1,λj H1 b=>⟨B,O,δ1,y,c,b.sta,h2,λi H2 R2=>?_⟩⟩;have t:∀a,av B O (ia&&ib) a->av B O ia a:=T5 λz=>((Af _ _).mp z).1;have s:∀a,av B O (ia&&ib) a->av B O ib a:=T5 λz=>((Af _ _).mp z).2;refine n H2 (av B O (ia&&ib)) _ _ j i x y d Q ((R2.live m b.rep).mono t λ_ z=>z) (R2.rep.mono s λ_ z=>z) p λv u e l=>k v u ⟨R2.sta.same e,(b.frm.trans R2.frm).trans e.fr,λz=>?_,l _ λa z=>R2.sta.nin z⟩;obtain⟨g,f⟩:=(Af _ _).mp z;exact((b.pur g).trans (R2.pur f)).trans e
def mJ(l:OpI K r o)(j:(pb || (ta&&ia))=ba){Q:VK}(h:TV K ml (pa&&pb) ia ia (f2 o fa fb) σ H Q):tOp r (TV K ml pa ta ia fa) (TV K ml pb tb ib fb) σ H Q:=by
 obtain⟨B,O,δ,d,b,S,q,k⟩:=h;obtain⟨x,δ1,y,h1,h2,m⟩:=QC q;refine⟨B,O,δ,x,δ1,S,h1,λg H1 a=>⟨B,O,δ1,y,b,a.sta,h2,λf H2 R2=>?_⟩⟩;exact l H2 _ _ _ _ g f x y d Q (R2.live j a.rep) R2.rep m λv i=>k v H2 ⟨R2.sta,a.frm.trans R2.frm,λz=>by obtain⟨e,c⟩:=(Af _ _).mp z;exact(a.pur e).trans (R2.pur c),i.mono (λ_ z=>z) Xj⟩
def ZU{op:Operator}{pos:Pos}(e:WV X (Fh op) r)(c:N0 K r o)(g:PE X a (TV K ml pa ta ia fa))(f:PE X b (TV K ml pb tb ib fb))(d:(pb || (ta&&ia))=ba:=by rfl):PE X (.BinOp a op b pos) (TV K ml (pa&&pb) ba ba (f2 o fa fb)):=
 (Vv e g f).imp λ_ _ _ h=>EE c d h
def bD{op:Operator}{pos:Pos}(e:WV X (Fh op) r)(c:OpC K r o)(g:PE X a (TV K ml pa ta ia fa))(f:PE X b (TV K ml pb tb ib fb))(d:(pb || (ta&&ia))=ba:=by rfl):PE X (.BinOp a op b pos) (TV K ml (pa&&pb) ba (ia&&ib) (f2 o fa fb)):=
 (Vv e g f).imp λ_ _ _ h=>k9 c d h
def OX{op:CmpOp}{pos:Pos}(e:WV X (Cu op) r)(c:N0 K r o)(i:PE X a (TV K ml pa ta ia fa))(g:PE X b (TV K ml pb tb ib fb))(f:Ho op b=bb:=by exact HV _)(d:(pb || (ta&&ia))=ba:=by rfl):PE X (.Compare a [op] [b] pos) (TV K ml (pa&&pb) ba ba (f2 o fa fb)):=
 (Yk e i g f).imp λ_ _ _ h=>EE c d h
def mw{pos:Pos}(f:AN X r)(d:OpI K r o)(i:PE X a (TV K ml pa ta ia fa))(g:PE X b (TV K ml pb tb ib fb))(c:WS b)(e:(pb || (ta&&ia))=ba:=by rfl):PE X (.Subscript a b pos) (TV K ml (pa&&pb) ia ia (f2 o fa fb)):=
 (MA f i g c).imp λ_ _ _ h=>mJ d e h
noncomputable def oI(C:Int->Int->Bool)(g:Int->Int->cT):cT->cT->Option cT
 |.int i,.int j=>if C i j=ba then b3 (g i j)else b5
 |_,_=>b5
def Vf{C:Int->Int->Bool}{g:Int->Int->cT}{d e c:cT}(h:oI C g d e=b3 c):∃i j,d=.int i/\e=.int j/\C i j=ba/\c=g i j:=by
 unfold oI at h;split at h
 ·split at h
  ·rename_i hc
   cases h;exact⟨_,_,rfl,rfl,hc,rfl⟩
  ·cases h
 ·cases h
def BR{C:Int->Int->Prop}{a:Int->Int->Bool}{g:Int->Int->V}{g':Int->Int->cT}(m:∀i j,a i j=ba->C i j)(l:∀i j N H M,bB K N H M (g i j) (g' i j)):N0 K (rI C g) (oI a g'):=by intro H N N' M M' x y d e c Q f b h k;obtain⟨i,j,rfl,rfl,hc,rfl⟩:=Vf h;cases f.onI;cases b.onI;exact⟨_,_,rfl,rfl,m _ _ hc,k _ λ_ _ _=>l ..⟩
def L9{g:Int->Int->V}{g':Int->Int->cT}(f:∀i j N H M,bB K N H M (g i j) (g' i j)):N0 K (DZ g) (oI (λ_ _=>ba) g'):=by intro H N N' M M' x y d e c Q b a h k;obtain⟨i,j,rfl,rfl,hc,rfl⟩:=Vf h;cases b.onI;cases a.onI;exact⟨_,_,rfl,rfl,k _ λ_ _ _=>f ..⟩
noncomputable def G0(i j:Int):Bool:=(decide (-18446744073709551616<i)&&decide (i<18446744073709551616)) || (decide (-18446744073709551616<j)&&decide (j<18446744073709551616))
noncomputable def KO(i j:Int):Bool:=decide (0<j)&&decide (j<1073741824)
def cPow(i j:Int):Bool:=decide (0<=j)&&decide (j<=1000000)&&decide (i.natAbs<18446744073709551616)
abbrev SR:=oI (λ_ _=>ba) λi j=>.int (i-j)
abbrev oMul:=oI G0 λi j=>.int (i*j)
abbrev L6:=oI KO λi j=>.int (i/j)
abbrev L8:=oI (λ_ j=>decide (0<j)) λi j=>.int (i % j)
abbrev oPow:=oI cPow λi j=>.int (i ^ j.toNat)
abbrev oLt:=oI (λ_ _=>ba) λi j=>.bl (decide (i<j))
abbrev oLe:=oI (λ_ _=>ba) λi j=>.bl (decide (i<=j))
abbrev BN:=oI (λ_ _=>ba) λi j=>.bl (decide (j<i))
abbrev oGe:=oI (λ_ _=>ba) λi j=>.bl (decide (j<=i))
def VR:N0 K (DZ λi j=>.int (i-j)) SR:=L9 λi j _ _ _=>.int _
def eV:N0 K (rI CMul λi j=>.int (i*j)) oMul:=BR (λi j h=>by
 have p:(2:Int) ^ 64=18446744073709551616:=by decide
 unfold CMul;rw[p];simpa[G0]using h) λi j _ _ _=>.int _
def MK:N0 K (rI CDiv λi j=>.int (i/j)) L6:=BR (λi j h=>by show 0<j/\j<1073741824;simpa[KO]using h) λi j _ _ _=>.int _
def Q6:N0 K (rI (λ_ j=>0<j) λi j=>.int (i % j)) L8:=BR (λi j h=>by simpa using h) λi j _ _ _=>.int _
def Ze:N0 K (rI CPow λi j=>.int (i ^ j.toNat)) oPow:=BR (λi j h=>by
 have p:(2:Nat) ^ 64=18446744073709551616:=by decide
 unfold CPow;rw[p];simpa[cPow,and_assoc]using h) λi j _ _ _=>.int _
def s_lt:N0 K (DZ λi j=>.bl (decide (i<j))) oLt:=L9 λi j _ _ _=>.bl _
def s_le:N0 K (DZ λi j=>.bl (decide (i<=j))) oLe:=L9 λi j _ _ _=>.bl _
def KU:N0 K (DZ λi j=>.bl (decide (j<i))) BN:=L9 λi j _ _ _=>.bl _
def s_ge:N0 K (DZ λi j=>.bl (decide (j<=i))) oGe:=L9 λi j _ _ _=>.bl _
def JY(d:cT):Bool:=d.isD&&Ej d.pd
def eqD(d e:cT):Bool:=Iq d.pd e.pd
def YK(d e:cT):Option cT:=if(JY d&&JY e)=ba then b3 (.bl (eqD d e))else b5
def HZ(d e:cT):Option cT:=if(JY d&&JY e)=ba then b3 (.bl (!eqD d e))else b5
def s_eq:N0 K (rEqD K) YK:=by
 intro H N N' M M' x y d e c Q f b h k;unfold YK at h;split at h
 ·rename_i a
  cases h;simp only[JY,Af]at a;exact⟨d.pd,e.pd,f.dp a.1.1,b.dp a.2.1,a.1.2,a.2.2,k _ λ_ _ _=>.bl _⟩
 ·cases h
def ML:N0 K (rNeD K) HZ:=by
 intro H N N' M M' x y d e c Q f b h k;unfold HZ at h;split at h
 ·rename_i a
  cases h;simp only[JY,Af]at a;exact⟨d.pd,e.pd,f.dp a.1.1,b.dp a.2.1,a.1.2,a.2.2,k _ λ_ _ _=>.bl _⟩
 ·cases h
noncomputable def isN:cT->Bool
 |.non=>ba
 |_=>bb
def QQ:cT->cT->Option cT
 |d,.non=>b3 (.bl (isN d))
 |_,_=>b5
def VQ:cT->cT->Option cT
 |d,.non=>b3 (.bl (!isN d))
 |_,_=>b5
def B6{N M:Sa->Prop}(h:bB K N H M v d):decide (v=V.non)=isN d:=by
 cases h<;>simp[isN]
def NX:N0 K (λx y H Q=>y=.non/\Q (.bl (decide (x=.non))) H) QQ:=by
  intro H N N' M M' x y d e c Q b a h k;cases a<;>first
    | (cases h
       refine⟨rfl,?_⟩;rw[B6 b];exact k _ λ_ _ _=>.bl _)
    |(simp[QQ]at h)
def OU:N0 K (λx y H Q=>y=.non/\Q (.bl (!decide (x=.non))) H) VQ:=by
  intro H N N' M M' x y d e c Q b a h k;cases a<;>first
    | (cases h
       refine⟨rfl,?_⟩;rw[B6 b];exact k _ λ_ _ _=>.bl _)
    |(simp[VQ]at h)
noncomputable def WZ:cT->Option (List cT)
 |.tup ds=>b3 ds
 |.lst ds=>b3 ds
 |_=>b5
def bB.seq{N M:Sa->Prop}{ds:List cT}(h:bB K N H M v d)(e:WZ d=b3 ds):∃a xs,v=.ref a/\(XV K H a xs∨UO K H a xs)/\b6 K N H xs ds:=by
 cases h<;>first
  |(cases e;rename_i q r;exact⟨_,_,rfl,.inr q,r⟩)
  |(cases e;rename_i q n r;exact⟨_,_,rfl,.inl (XV.of q),r⟩)
  |(cases e;rename_i q r;exact⟨_,_,rfl,.inl q.sq,r⟩)
  |cases e
def dE{N:Sa->Prop}{xs:List V}{ds:List cT}{i:Int}(r:b6 K N H xs ds)(h:UR ds i=b3 d):∃v,UR xs i=b3 v/\bB K N H N v d:=by
 unfold UR at h⊢;rw[r.length];cases hi:KQ ds.length i with
 |none=>rw[hi]at h;cases h
 |some j=>
  rw[hi]at h;exact r.get h
end
section
variable{X:Cx}{K:Ag}{ml:List Nat}{e a b c:Sf}{es:List Sf}{pa ta ia pb tb ib pc tc ic pu bt bi ps bs:Bool}{fa fb fc:VF}{r r':R2}{o o':cT->cT->Option cT}{B:Bs}{O:Nat->Option Sa}{H H1 H':Hp}{σ:St}{δ δ':Ev}{v:V}{d:cT}{p:Sa}{pos:Pos}
def aI.unadd(S:aI K ml (B.add p) O H σ δ):aI K ml B O H σ δ where
 len:=S.len
 va:=λi d e=>let ⟨v,a,b⟩:=S.va i d e;⟨v,a,b.mono OL OL⟩
 ow:=λi d e=>let ⟨a,b,c,w⟩:=S.ow i d e;⟨a,b,c,w.mono OL⟩
 dom:=S.dom
 inj:=S.inj
 old:=λi a h=>⟨λz=>(S.old i a h).1 (.inl z),(S.old i a h).2⟩
 zin:=λa h=>S.zin a (.inl h)
 frm:=S.frm
 par:=S.par
 pin:=S.pin
 kep:=λp h=>(S.kep p h).mono OL OL
structure ResN(K:Ag)(ml:List Nat)(B:Bs)(O:Nat->Option Sa)(H:Hp)(σ:St)(pu:Bool)(H':Hp)(δ':Ev)(p:Sa)(d:cT):Prop where
 sta:aI K ml (B.add p) O H' σ δ'
 frm:Fr (OA O) H H'
 pur:pu=ba->aM H H'
 own:R7 K (Nn (B.add p) O) H' p d
 nz:¬Nn B O p
 h0:B.H0 p=b5
inductive TNi(K:Ag)(ml:List Nat)(pu:Bool)(f:VF)(σ:St)(H:Hp)(Q:VK):Prop
 |mk (B:_) (O:_) (δ:_) (d:_) (δ':_) (h0:aI K ml B O H σ δ) (h1:f δ=b3 (d,δ')) (h2:∀p H',ResN K ml B O H σ pu H' δ' p d->Q (.ref p) H'):TNi K ml pu f σ H Q
def TN(K:Ag)(ml:List Nat)(pu:Bool)(f:VF):TE:=λσ H Q=>TNi K ml pu f σ H Q
def a6{f:VF}(h:PE X e (TN K ml pu f)):PE X e (TV K ml pu ba ba f):=h.imp λσ H Q ⟨B,O,δ,d,δ',S,q,k⟩=>
 ⟨B,O,δ,d,δ',S,q,λp H' R=>k _ H' ⟨R.sta.unadd,R.frm,R.pur,(R.own.mono OL).rep R.nz⟩⟩
def mkN{xs:List V}{ds:List cT}(S:aI K ml B O H1 σ δ')(f:Fr (OA O) H H1)(s:pu=ba->aM H H1)(a:H1 p=b5)(r:b6 K (Nn B O) H1 xs ds):ResN K ml B O H σ pu (upd H1 p (.lst xs)) δ' p (.lst ds):=
 ⟨S.laid a,f.trans (cK a).fr,λz=>(s z).trans (cK a),.lst cG ((r.away a _ _ WU).same (cK a)),S.new a,S.fresh a⟩
abbrev R8:=Ev->Option (List cT×Ev)
structure ResA(K:Ag)(ml:List Nat)(B:Bs)(O:Nat->Option Sa)(H:Hp)(σ:St)(pu b:Bool)(H':Hp)(δ':Ev)(vs:List V)(ds:List cT):Prop where
 sta:aI K ml B O H' σ δ'
 frm:Fr (OA O) H H'
 pur:pu=ba->aM H H'
 rep:b6 K (av B O b) H' vs ds
inductive TAVi(K:Ag)(ml:List Nat)(pu b:Bool)(f:R8)(σ:St)(H:Hp)(Q:List V->Hp->Prop):Prop
 |mk (B:_) (O:_) (δ:_) (d:_) (δ':_) (h0:aI K ml B O H σ δ) (h1:f δ=b3 (d,δ')) (h2:∀vs H',ResA K ml B O H σ pu b H' δ' vs d->Q vs H'):TAVi K ml pu b f σ H Q
def GU(K:Ag)(ml:List Nat)(pu b:Bool)(f:R8):TA:=λσ H Q=>TAVi K ml pu b f σ H Q
def bO:R8:=λδ=>b3 ([],δ)
noncomputable def cO(fa:VF)(fs:R8):R8:=λδ=>(fa δ).bind λp=>(fs p.2).map λq=>(p.1::q.1,q.2)
def OB{fs:R8}{ds:List cT}(h:cO fa fs δ=b3 (ds,δ')):∃x δ1 xs,fa δ=b3 (x,δ1)/\fs δ1=b3 (xs,δ')/\ds=x::xs:=by
 unfold cO at h;cases h1:fa δ with
 |none=>rw[h1]at h;cases h
 |some p=>
  rw[h1]at h;cases h2:fs p.2 with
  |none=>simp[h2]at h
  |some q=>
   simp only[Ay,h2]at h;cases h;exact⟨p.1,p.2,q.1,rfl,h2,rfl⟩
def cF:PA X [] (GU K ml ba ba bO):=ZX.imp λσ H Q a=>by obtain⟨B,O,δ,d,δ',S,q,k⟩:=a;cases q;exact k [] H ⟨S,Fr.refl _ _,λ_=>aM.refl _,.nil⟩
def cS{fs:R8}(p:PE X a (TV K ml pa ta ia fa))(o:PA X es (GU K ml ps bs fs))(f:SE X a es:=by rfl)(hl:(ps || (ta&&ia))=ba:=by rfl)(n:ta=ba:=by rfl):
  PA X (a::es) (GU K ml (pa&&ps) (ta&&ia&&bs) (cO fa fs)):=(bL p o f).imp λσ H Q i=>by
 obtain⟨B,O,δ,d,e,S,q,k⟩:=i;obtain⟨x,δ1,xs,h1,h2,rfl⟩:=OB q;refine⟨B,O,δ,x,δ1,S,h1,λm H1 b=>⟨B,O,δ1,xs,e,b.sta,h2,λvs H2 R2=>k _ H2 ⟨R2.sta,b.frm.trans R2.frm,λz=>?_,?_⟩⟩⟩
 ·obtain⟨l,j⟩:=(Af _ _).mp z
  exact(b.pur l).trans (R2.pur j)
 ·have g : ∀ c,((ta && ia && bs) = ba -> c = ba) -> ∀ a,av B O (ta && ia && bs) a -> av B O c a := λc h => T5 h
  have t:=g ta λz=>by simp only[Af]at z;exact z.1.1
  have s:=g ia λz=>by simp only[Af]at z;exact z.1.2
  have r:=g bs λz=>by simp only[Af]at z;exact z.2
  refine .cons ?_ (R2.rep.mono r);have h:bB K (av B O ia) H2 (at_ B O ta) m x:=by
   cases ps with
   |true=>exact b.rep.same (R2.pur rfl)
   |false=>
    have f:(ta&&ia)=ba:=by simpa using hl
    obtain⟨h1,h2⟩:=(Af _ _).mp f;subst h1 h2;exact b.rep.fr R2.frm (λa z=>.inr z) λa z=>.inr z
  subst n;exact h.mono s t
def aI.lone(S:aI K ml B O H σ δ){i:Nat}{x:cT}(e:i∉ml)(h:fO i δ=b3 (x,δ')):δ'=δ/\∃v,σ[i]?=b3 (b3 v)/\bB K (av B O bb) H (av B O bb) v x:=by
 unfold fO at h;split at h
 ·rename_i d hd
  cases h;obtain⟨v,b,r⟩:=S.va i _ hd;exact⟨rfl,v,b,r.mono (λa z=>z.1) λa z=>z.1⟩
 ·rename_i d hd
  cases h;obtain⟨a,b,f,w⟩:=S.ow i _ hd;refine⟨rfl,.ref a,f,(w.mono λa z=>z.1).rep λz=>?_⟩;rcases z.2 with z|⟨j,z⟩
  ·exact(S.old i a b).1 z
  ·have c:=S.par.1 j a z
   have:i=j:=S.inj i j a b ((S.par.2 j c).trans z)
   exact e (this▸c)
 ·cases h
def P4{i:Nat}{fs:R8}(j:PE X a (ZH i))(g:PA X es (GU K ml ps bs fs))(f:SE X a es:=by rfl)(hl:ps=ba:=by rfl)(h:i∉ml:=by decide):
  PA X (a::es) (GU K ml ps bb (cO (fO i) fs)):=(bL j g f).imp λσ H Q e=>by
 obtain⟨B,O,δ,d,c,S,q,k⟩:=e;obtain⟨x,δ1,xs,h1,h2,rfl⟩:=OB q;obtain⟨rfl,v,l,r⟩:=S.lone h h1;exact⟨v,l,B,O,δ1,xs,c,S,h2,λvs H2 R2=>k _ H2 ⟨R2.sta,R2.frm,R2.pur,.cons (r.same (R2.pur hl)) (R2.rep.mono (T5 (b:=bb) λz=>nomatch z))⟩⟩
noncomputable def aH(fs:R8):VF:=λδ=>(fs δ).bind λp=>if p.1.length<=16777216 then b3 (.tup p.1,p.2)else b5
noncomputable def XW(fs:R8):VF:=λδ=>(fs δ).bind λp=>if p.1.length<=16777216 then b3 (.lst p.1,p.2)else b5
def E9{fs:R8}{g:List cT->cT}(h:((fs δ).bind λp=>if p.1.length<=16777216 then b3 (g p.1,p.2)else b5)=b3 (d,δ')):∃ds,fs δ=b3 (ds,δ')/\ds.length<=16777216/\d=g ds:=by
 cases h1:fs δ with
 |none=>rw[h1]at h;cases h
 |some p=>
  rw[h1]at h;have h:(if p.1.length<=16777216 then b3 (g p.1,p.2)else b5)=b3 (d,δ'):=h;split at h
  ·cases h
   exact⟨p.1,rfl,by assumption,rfl⟩
  ·cases h
def bW{x1}{fs:R8}(h:PA X es (GU K ml pu bs fs)):PE X (.Tuple es x1 pos) (TV K ml pu ba bs (aH fs)):=(Xf h).imp λσ H Q b=>by obtain⟨B,O,δ,d,δ',S,q,k⟩:=b;obtain⟨ds,h1,hl,rfl⟩:=E9 (g:=cT.tup) q;refine⟨B,O,δ,ds,δ',S,h1,λvs H1 R=>⟨by rw[R.rep.length,Ce];exact hl,λp a=>k _ _ ⟨R.sta.same (cK a),R.frm.trans (cK a).fr,λz=>(R.pur z).trans (cK a),.tup (UO.of cG) (R.rep.same (cK a))⟩⟩⟩
def Z1{fs:R8}(h:PA X es (GU K ml pu ba fs)):PE X (.List es pos) (TN K ml pu (XW fs)):=(MB h).imp λσ H Q a=>by obtain⟨B,O,δ,d,δ',S,q,k⟩:=a;obtain⟨ds,h1,hl,rfl⟩:=E9 (g:=cT.lst) q;exact⟨B,O,δ,ds,δ',S,h1,λvs H1 R=>⟨by rw[R.rep.length,Ce];exact hl,λp b=>k p _ (mkN R.sta R.frm R.pur b R.rep)⟩⟩
abbrev VB:=Ev->Option (Bool×Ev)
structure ResB(K:Ag)(ml:List Nat)(B:Bs)(O:Nat->Option Sa)(H:Hp)(σ:St)(pu:Bool)(H':Hp)(δ':Ev):Prop where
 sta:aI K ml B O H' σ δ'
 frm:Fr (OA O) H H'
 pur:pu=ba->aM H H'
inductive TBi(K:Ag)(ml:List Nat)(pu:Bool)(f:VB)(σ:St)(H:Hp)(Q:Bool->Hp->Prop):Prop
 |mk (B:_) (O:_) (δ:_) (k:_) (δ':_) (h0:aI K ml B O H σ δ) (h1:f δ=b3 (k,δ')) (h2:∀H',ResB K ml B O H σ pu H' δ'->Q k H'):TBi K ml pu f σ H Q
def TB(K:Ag)(ml:List Nat)(pu:Bool)(f:VB):TT:=λσ H Q=>TBi K ml pu f σ H Q
noncomputable def fB(f:VF):VB:=λδ=>(f δ).bind λp=>match p.1 with
 |.bl k=>b3 (k,p.2)
 |_=>b5
def ik{f:VF}{k:Bool}(h:fB f δ=b3 (k,δ')):f δ=b3 (.bl k,δ'):=by
 unfold fB at h;cases h1:f δ with
 |none=>rw[h1]at h;cases h
 |some p=>
  obtain⟨x,δ1⟩:=p;rw[h1]at h;cases x<;>first
   |(cases h;rfl)
   |cases h
def IL{f:VF}{t:TE}(a:∀σ H Q,TV K ml pu bt bi f σ H Q->t σ H Q){Q:Bool->Hp->Prop}(h:TB K ml pu (fB f) σ H Q):t σ H λx H'=>∃k,x=.bl k/\Q k H':=by obtain⟨B,O,δ,k,δ',S,q,w⟩:=h;refine a σ H _ ⟨B,O,δ,.bl k,δ',S,ik q,λv H' R=>⟨k,?_,w H' ⟨R.sta,R.frm,R.pur⟩⟩⟩;exact R.rep.onB
def bR{op:CmpOp}(e:WV X (Cu op) r)(c:N0 K r o)(i:PE X a (TV K ml pa ta ia fa))(g:PE X b (TV K ml pb tb ib fb))(f:Ho op b=bb:=by exact HV _)(d:(pb || (ta&&ia))=ba:=by rfl):PT X (.Compare a [op] [b] pos) (TB K ml (pa&&pb) (fB (f2 o fa fb))):=
 (k8 e i g f).imp λ_ _ _ h=>IL (λ_ _ _=>EE c d) h
def Z2{f:VF}(h:PE X e (TV K ml pu bt bi f))(b:∀a,isTrue e X.env a=(do let v<-a;Lk e.pos;Gv [v] (truthy v)):=by intro _;rfl):PT X e (TB K ml pu (fB f)):=
 (jv h b).imp λ_ _ _ h=>IL (λ_ _ _ z=>z) h
noncomputable def NE(x y:VB):VB:=λδ=>(x δ).bind λp=>if p.1=ba then y p.2 else b3 (bb,p.2)
noncomputable def GK(x y:VB):VB:=λδ=>(x δ).bind λp=>if p.1=ba then b3 (ba,p.2)else y p.2
noncomputable def VY(x:VB):VB:=λδ=>(x δ).map λp=>(!p.1,p.2)
def ResB.refl(S:aI K ml B O H σ δ):ResB K ml B O H σ pu H δ:=⟨S,Fr.refl _ _,λ_=>aM.refl _⟩
def jg{x y:VB}{Q:Bool->Hp->Prop}(h:TB K ml (pa&&pb) (NE x y) σ H Q):tAnd (TB K ml pa x) (TB K ml pb y) σ H Q:=by
 obtain⟨B,O,δ,k,δ',S,q,w⟩:=h;unfold NE at q;obtain⟨⟨kk,δ1⟩,h1,q⟩:=Aa.mp q;refine⟨B,O,δ,kk,δ1,S,h1,λH1 a=>?_⟩;cases kk with
 |true=>
  have q:y δ1=b3 (k,δ'):=q;exact HM ⟨B,O,δ1,k,δ',a.sta,q,λH2 R2=>w H2 ⟨R2.sta,a.frm.trans R2.frm,λz=>by obtain⟨c,b⟩:=(Af _ _).mp z;exact(a.pur c).trans (R2.pur b)⟩⟩
 |false=>
  have q:b3 (bb,δ1)=b3 (k,δ'):=q;cases q;exact HL (w H1 ⟨a.sta,a.frm,λz=>a.pur ((Af _ _).mp z).1⟩)
def lx{x y:VB}{Q:Bool->Hp->Prop}(h:TB K ml (pa&&pb) (GK x y) σ H Q):tOr (TB K ml pa x) (TB K ml pb y) σ H Q:=by
 obtain⟨B,O,δ,k,δ',S,q,w⟩:=h;unfold GK at q;obtain⟨⟨kk,δ1⟩,h1,q⟩:=Aa.mp q;refine⟨B,O,δ,kk,δ1,S,h1,λH1 a=>?_⟩;cases kk with
 |false=>
  have q:y δ1=b3 (k,δ'):=q;exact HL ⟨B,O,δ1,k,δ',a.sta,q,λH2 R2=>w H2 ⟨R2.sta,a.frm.trans R2.frm,λz=>by obtain⟨c,b⟩:=(Af _ _).mp z;exact(a.pur c).trans (R2.pur b)⟩⟩
 |true=>
  have q:b3 (ba,δ1)=b3 (k,δ'):=q;cases q;exact HM (w H1 ⟨a.sta,a.frm,λz=>a.pur ((Af _ _).mp z).1⟩)
def ZF{x:VB}(h:PT X a (TB K ml pu x)):PT X (.UnaryOp .Not a pos) (TB K ml pu (VY x)):=(kN h).imp λσ H Q b=>by obtain⟨B,O,δ,k,δ',S,q,w⟩:=b;unfold VY at q;obtain⟨p,h1,q⟩:=An.mp q;cases q;exact⟨B,O,δ,p.1,p.2,S,h1,w⟩
def IN{x:VB}(h:PT X a (TB K ml pu x)):PW X (.BoolOp .And [a] pos) (TB K ml pu x):=ij h
def YA{x:VB}(h:PT X a (TB K ml pu x)):PW X (.BoolOp .Or [a] pos) (TB K ml pu x):=mz h
def MT{x y:VB}(d:PT X a (TB K ml pa x))(c:PW X (.BoolOp .And (b::es) pos) (TB K ml pb y)):PW X (.BoolOp .And (a::b::es) pos) (TB K ml (pa&&pb) (NE x y)):=(fS d c).imp λ_ _ _ h=>jg h
def VU{x y:VB}(d:PT X a (TB K ml pa x))(c:PW X (.BoolOp .Or (b::es) pos) (TB K ml pb y)):PW X (.BoolOp .Or (a::b::es) pos) (TB K ml (pa&&pb) (GK x y)):=(gR d c).imp λ_ _ _ h=>lx h
def S9{x:VB}(h:PW X e (TB K ml pu x)):PT X e (TB K ml pu x):=h.pt
noncomputable def fAnd(x y:VF):VF:=λδ=>(x δ).bind λp=>match p.1 with
 |.bl ba=>y p.2
 |.bl bb=>b3 (.bl bb,p.2)
 |_=>b5
def EG{op}{f:VF}(h:PE X a (TV K ml pu bt bi f)):PE X (.BoolOp op [a] pos) (TV K ml pu bt bi f):=dN h
def EF(l:PE X a (TV K ml pa ta ia fa))(j:PE X (.BoolOp .And (b::es) pos) (TV K ml pb tb ib fb)):PE X (.BoolOp .And (a::b::es) pos) (TV K ml (pa&&pb) tb ib (fAnd fa fb)):=(jE l j).imp λσ H Q e=>by
 obtain⟨B,O,δ,d,δ',S,q,k⟩:=e;unfold fAnd at q;obtain⟨⟨x,δ1⟩,h1,q⟩:=Aa.mp q;refine⟨B,O,δ,x,δ1,S,h1,λi H1 c=>?_⟩;cases x with
 |bl kk=>
  have m:i=.bl kk:=c.rep.onB;refine⟨kk,m,?_⟩;cases kk with
  |true=>
   exact HM ⟨B,O,δ1,d,δ',c.sta,q,λh H2 R2=>k h H2 ⟨R2.sta,c.frm.trans R2.frm,λz=>by obtain⟨g,f⟩:=(Af _ _).mp z;exact(c.pur g).trans (R2.pur f),R2.rep⟩⟩
  |false=>
   cases q;exact HL (k _ H1 ⟨c.sta,c.frm,λz=>c.pur ((Af _ _).mp z).1,.bl _⟩)
 |_=>cases q
def K1(t:VB)(x y:VF):VF:=λδ=>(t δ).bind λp=>if p.1=ba then x p.2 else y p.2
def XU{t:VB}(l:PT X c (TB K ml pc t))(n:PE X a (TV K ml pa ta ia fa))(m:PE X b (TV K ml pb tb ib fb)):PE X (.IfExp c a b pos) (TV K ml (pc&&pa&&pb) (ta&&tb) (ia&&ib) (K1 t fa fb)):=(kY l n m).imp λσ H Q g=>by
 obtain⟨B,O,δ,d,δ',S,q,k⟩:=g;unfold K1 at q;obtain⟨⟨kk,δ1⟩,h1,q⟩:=Aa.mp q;refine⟨B,O,δ,kk,δ1,S,h1,λH1 e=>?_⟩;have j:∀c,((ta&&tb)=ba->c=ba)->∀a,at_ B O (ta&&tb) a->at_ B O c a:=λc h=>mr h;have i:∀c,((ia&&ib)=ba->c=ba)->∀a,av B O (ia&&ib) a->av B O c a:=λc h=>T5 h;cases kk with
 |true=>
  exact HM ⟨B,O,δ1,d,δ',e.sta,q,λf H2 R2=>k f H2 ⟨R2.sta,e.frm.trans R2.frm,λz=>by simp only[Af]at z;exact(e.pur z.1.1).trans (R2.pur z.1.2),R2.rep.mono (i _ λz=>((Af _ _).mp z).1) (j _ λz=>((Af _ _).mp z).1)⟩⟩
 |false=>
  exact HL ⟨B,O,δ1,d,δ',e.sta,q,λf H2 R2=>k f H2 ⟨R2.sta,e.frm.trans R2.frm,λz=>by simp only[Af]at z;exact(e.pur z.1.1).trans (R2.pur z.2),R2.rep.mono (i _ λz=>((Af _ _).mp z).2) (j _ λz=>((Af _ _).mp z).2)⟩⟩
noncomputable def f3(o o':cT->cT->Option cT)(fa fb fc:VF):VF:=λδ=>(fa δ).bind λp=>(fb p.2).bind λq=>(o p.1 q.1).bind λz=>match z with
 |.bl ba=>(fc q.2).bind λs=>(o' q.1 s.1).map λu=>(u,s.2)
 |.bl bb=>b3 (.bl bb,q.2)
 |_=>b5
def GB(A:N0 K r o)(l:N0 K r' o')(w:(pb || (ta&&ia))=ba)(j:(pc || (tb&&ib))=ba){Q:VK}(h:TV K ml (pa&&pb&&pc) ba ba (f3 o o' fa fb fc) σ H Q):EB r r' (TV K ml pa ta ia fa) (TV K ml pb tb ib fb) (TV K ml pc tc ic fc) σ H Q:=by
 obtain⟨B,O,δ,d,c,S,q,k⟩:=h;unfold f3 at q;obtain⟨⟨x,δ1⟩,h1,q⟩:=Aa.mp q;cases h2:fb δ1 with
 |none=>simp[h2]at q
 |some p2=>
  obtain⟨y,a⟩:=p2;simp only[Ay,h2]at q;refine⟨B,O,δ,x,δ1,S,h1,λt H1 b=>⟨B,O,δ1,y,a,b.sta,h2,λm H2 R2=>?_⟩⟩;obtain⟨z,E,q⟩:=Aa.mp q;refine A H2 _ _ _ _ t m x y z _ (R2.live w b.rep) R2.rep E λv e=>?_;have e:=e (λ_=>b5) (λ_=>True) λ_=>True;cases z with
  |bl kk=>
   have F:v=.bl kk:=e.onB;refine⟨kk,F,?_⟩;cases kk with
   |false=>
    cases q;exact HL (k _ H2 ⟨R2.sta,b.frm.trans R2.frm,λz=>by simp only[Af]at z;exact(b.pur z.1.1).trans (R2.pur z.1.2),.bl _⟩)
   |true=>
    have q:((fc a).bind λs=>(o' y s.1).map λu=>(u,s.2))=b3 (d,c):=q;obtain⟨⟨i,g⟩,D,q⟩:=Aa.mp q;have q:((o' y i).map λu=>(u,g))=b3 (d,c):=q;obtain⟨u,C,q⟩:=An.mp q;cases q;refine HM ⟨B,O,a,i,_,R2.sta,D,λp n f=>?_⟩;exact l n _ _ _ _ m p y i d Q (f.live j R2.rep) f.rep C λv e=>k v n ⟨f.sta,(b.frm.trans R2.frm).trans f.frm,λz=>by simp only[Af]at z;exact((b.pur z.1.1).trans (R2.pur z.1.2)).trans (f.pur z.2),e _ _ _⟩
  |_=>cases q
def iH{op d:CmpOp}(k:WV X (Cu op) r)(g:WV X (Cu d) r')(i:N0 K r o)(e:N0 K r' o')(n:PE X a (TV K ml pa ta ia fa))(m:PE X b (TV K ml pb tb ib fb))(hc:PE X c (TV K ml pc tc ic fc))(l:Qd [op,d] [b,c]=bb:=by with_unfolding_all rfl)(j:(pb || (ta&&ia))=ba:=by rfl)(f:(pc || (tb&&ib))=ba:=by rfl):PE X (.Compare a [op,d] [b,c] pos) (TV K ml (pa&&pb&&pc) ba ba (f3 o o' fa fb fc)):=
 (cV k g n m hc l).imp λ_ _ _ h=>GB i e j f h
def lu{op d:CmpOp}(k:WV X (Cu op) r)(g:WV X (Cu d) r')(i:N0 K r o)(e:N0 K r' o')(n:PE X a (TV K ml pa ta ia fa))(m:PE X b (TV K ml pb tb ib fb))(hc:PE X c (TV K ml pc tc ic fc))(l:Qd [op,d] [b,c]=bb:=by with_unfolding_all rfl)(j:(pb || (ta&&ia))=ba:=by rfl)(f:(pc || (tb&&ib))=ba:=by rfl):PT X (.Compare a [op,d] [b,c] pos) (TB K ml (pa&&pb&&pc) (fB (f3 o o' fa fb fc))):=
 (kf k g n m hc l).imp λ_ _ _ h=>IL (λ_ _ _=>GB i e j f) h
end
section
variable{X:Cx}{K:Ag}{ml:List Nat}{e a b c:Sf}{es:List Sf}{pa ta ia pb tb ib pc tc ic pu bt bi ps bs:Bool}{fa fb fc:VF}{B:Bs}{O:Nat->Option Sa}{H H1 H':Hp}{σ:St}{δ δ':Ev}{v:V}{d:cT}{p:Sa}{pos:Pos}
noncomputable def f1(o:cT->Option cT)(fa:VF):VF:=λδ=>(fa δ).bind λp=>(o p.1).map λc=>(c,p.2)
def HC{o:cT->Option cT}(h:f1 o fa δ=b3 (d,δ')):∃x,fa δ=b3 (x,δ')/\o x=b3 d:=by
 unfold f1 at h;cases h1:fa δ with
 |none=>rw[h1]at h;cases h
 |some p=>
  rw[h1]at h;have h:((o p.1).map λc=>(c,p.2))=b3 (d,δ'):=h;obtain⟨c,a,h⟩:=An.mp h;cases h;exact⟨p.1,rfl,a⟩
abbrev RC:=List V->Hp->VK->Prop
def CT(K:Ag)(r:RC)(o:cT->Option cT):Prop:=∀(H:Hp) (N M:Sa->Prop) (x:V) (d c:cT) (Q:VK),bB K N H M x d->o d=b3 c->(∀v,(∀H' N M,bB K N H' M v c)->Q v H)->r [x] H Q
def CalC(K:Ag)(r:RC)(o:cT->Option cT):Prop:=∀(H:Hp) (N M:Sa->Prop) (x:V) (d c:cT) (Q:VK),bB K N H M x d->o d=b3 c->
 (∀v H',aM H H'->(∀M,(∀a,M a->∃o,H a=b3 o)->bB K N H' M v c)->Q v H')->r [x] H Q
def CalN(K:Ag)(r:RC)(o:cT->Option cT):Prop:=∀(H:Hp) (N M:Sa->Prop) (x:V) (d c:cT) (Q:VK),bB K N H M x d->o d=b3 c->
 (∀p xs ds,H p=b5->b6 K N H xs ds->c=.lst ds->Q (.ref p) (upd H p (.lst xs)))->r [x] H Q
def K3(K:Ag)(r:RC)(o:cT->cT->Option cT):Prop:=∀(H:Hp) (N N' M M':Sa->Prop) (x y:V) (d e c:cT) (Q:VK),bB K N H M x d->bB K N' H M' y e->o d e=b3 c->(∀v,(∀H' N M,bB K N H' M v c)->Q v H)->r [x,y] H Q
def AD{r:RC}{o:cT->Option cT}(e:CT K r o){Q:VK}(h:TV K ml pa ba ba (f1 o fa) σ H Q):tCB r (J8 (TV K ml pa ta ia fa) KZ) σ H Q:=by obtain⟨B,O,δ,d,δ',S,q,k⟩:=h;obtain⟨x,h1,h2⟩:=HC q;exact⟨B,O,δ,x,δ',S,h1,λb H1 a=>e H1 _ _ b x d Q a.rep h2 λv c=>k v H1 ⟨a.sta,a.frm,a.pur,c _ _ _⟩⟩
def AB{r:RC}{o:cT->Option cT}(f:CalC K r o){Q:VK}(h:TV K ml pa ba ia (f1 o fa) σ H Q):tCB r (J8 (TV K ml pa ta ia fa) KZ) σ H Q:=by obtain⟨B,O,δ,d,δ',S,q,k⟩:=h;obtain⟨x,h1,h2⟩:=HC q;exact⟨B,O,δ,x,δ',S,h1,λc H1 b=>f H1 _ _ c x d Q b.rep h2 λv H2 s2 e=>k v H2 ⟨b.sta.same s2,b.frm.trans s2.fr,λz=>(b.pur z).trans s2,e _ λa z=>b.sta.nin z⟩⟩
def J9{r:RC}{o:cT->Option cT}(f:CalN K r o){Q:VK}(h:TN K ml pa (f1 o fa) σ H Q):tCB r (J8 (TV K ml pa ta ba fa) KZ) σ H Q:=by obtain⟨B,O,δ,d,δ',S,q,k⟩:=h;obtain⟨x,h1,h2⟩:=HC q;refine⟨B,O,δ,x,δ',S,h1,λb H1 a=>f H1 _ _ b x d Q a.rep h2 λp xs ds e c g=>?_⟩;subst g;exact k p _ (mkN a.sta a.frm a.pur e c)
def AE{r:RC}{o:cT->cT->Option cT}(l:K3 K r o)(j:(pb || (ta&&ia))=ba){Q:VK}(h:TV K ml (pa&&pb) ba ba (f2 o fa fb) σ H Q):tCB r (J8 (TV K ml pa ta ia fa) (J8 (TV K ml pb tb ib fb) KZ)) σ H Q:=by
 obtain⟨B,O,δ,d,b,S,q,k⟩:=h;obtain⟨x,δ1,y,h1,h2,m⟩:=QC q;refine⟨B,O,δ,x,δ1,S,h1,λg H1 a=>⟨B,O,δ1,y,b,a.sta,h2,λf H2 R2=>?_⟩⟩;exact l H2 _ _ _ _ g f x y d Q (R2.live j a.rep) R2.rep m λv i=>k v H2 ⟨R2.sta,a.frm.trans R2.frm,λz=>by obtain⟨e,c⟩:=(Af _ _).mp z;exact(a.pur e).trans (R2.pur c),i _ _ _⟩
section
variable{x:Sb}{p':Pos}{id T:String}{r:RC}
def KB{o:cT->Option cT}(hc:aF X (.builtin id) r)(e:CT K r o)(i:Gl X x)(g:X.mg x=b5)(d:Bm x=b3 (.builtin id))(j:PE X a (TV K ml pa ta ia fa))(f:x≠ "__name__":=by decide)(b:ND x:=by decide)(c:SE X a []:=by rfl):PE X (.Call (.Name x p') [a] [] pos) (TV K ml pa ba ba (f1 o fa)):=
 (PR hc i g d (bL j ZX c) f b c).imp λ_ _ _ h=>AD e h
def YR{o:cT->cT->Option cT}(hc:aF X (.builtin id) r)(j:K3 K r o)(m:Gl X x)(l:X.mg x=b5)(g:Bm x=b3 (.builtin id))(p:PE X a (TV K ml pa ta ia fa))(n:PE X b (TV K ml pb tb ib fb))(k:x≠ "__name__":=by decide)(e:ND x:=by decide)(f:SE X a [b]:=by rfl)(d:SE X b []:=by rfl)(c:(Ct pos (Ap [b] X.env)).any (·.1)=bb:=by rfl)(i:(pb || (ta&&ia))=ba:=by rfl):PE X (.Call (.Name x p') [a,b] [] pos) (TV K ml (pa&&pb) ba ba (f2 o fa fb)):=
 (PR hc m l g (bL p (bL n ZX d) f) k e f c).imp λ_ _ _ h=>AE j i h
def Sz{o:cT->Option cT}(hc:aF X (.type T) r)(e:CalC K r o)(i:Gl X x)(g:X.mg x=b5)(d:Bm x=b3 (.type T))(j:PE X a (TV K ml pa ta ia fa))(f:x≠ "__name__":=by decide)(b:ND x:=by decide)(c:SE X a []:=by rfl):PE X (.Call (.Name x p') [a] [] pos) (TV K ml pa ba ia (f1 o fa)):=
 (OQ hc i g d (bL j ZX c) f b c).imp λ_ _ _ h=>AB e h
def CK{o:cT->Option cT}(hc:aF X (.type T) r)(e:CalN K r o)(i:Gl X x)(g:X.mg x=b5)(d:Bm x=b3 (.type T))(j:PE X a (TV K ml pa ta ba fa))(f:x≠ "__name__":=by decide)(b:ND x:=by decide)(c:SE X a []:=by rfl):PE X (.Call (.Name x p') [a] [] pos) (TN K ml pa (f1 o fa)):=
 (OQ hc i g d (bL j ZX c) f b c).imp λ_ _ _ h=>J9 e h
def lI{o:cT->Option cT}(hc:aF X (.builtin id) r)(e:CalN K r o)(i:Gl X x)(g:X.mg x=b5)(d:Bm x=b3 (.builtin id))(j:PE X a (TV K ml pa ta ba fa))(f:x≠ "__name__":=by decide)(b:ND x:=by decide)(c:SE X a []:=by rfl):PE X (.Call (.Name x p') [a] [] pos) (TN K ml pa (f1 o fa)):=
 (PR hc i g d (bL j ZX c) f b c).imp λ_ _ _ h=>J9 e h
end
noncomputable def YY:cT->Option cT
 |.tup ds=>b3 (.int ds.length)
 |.lst ds=>b3 (.int ds.length)
 |.str z=>if z.length<=16777216 then b3 (.int z.length)else b5
 |_=>b5
def rLen(K:Ag):RC:=λxs H Q=>(∃p ys,xs=[.ref p]/\(XV K H p ys∨UO K H p ys)/\Q (.int ys.length) H)∨∃z,xs=[.str z]/\z.length<=sizeLine/\Q (.int z.length) H
def Yp(h:X.K=K:=by rfl):aF X (.builtin "len") (rLen K):=by subst h;exact G5.or G6
def Zr:CT K (rLen K) YY:=by
  intro H N M x d c Q b h k;cases d<;>first
    | (rename_i ds
       obtain⟨a,xs,rfl,sq,r⟩:=b.seq rfl;cases h;refine .inl ⟨a,xs,rfl,sq,?_⟩;rw[r.length];exact k _ λ_ _ _=>.int _)
    | (cases b.onS
       simp only[YY]at h;split at h
       · cases h
         exact .inr ⟨_,rfl,by rw[Ce];assumption,k _ λ_ _ _=>.int _⟩
       · cases h)
    |cases h
def L7(d:cT):Option cT:=(WZ d).map cT.lst
def OO(d:cT):Option cT:=(WZ d).map cT.tup
def Ui(K:Ag):RC:=λxs H Q=>∃p ys,xs=[.ref p]/\(XV K H p ys∨UO K H p ys)/\∀l,H l=b5->Q (.ref l) (upd H l (.lst ys))
def B5(K:Ag):RC:=λxs H Q=>∃p ys,xs=[.ref p]/\((XV K H p ys/\∀l,H l=b5->Q (.ref l) (upd H l (.tup ys)))∨(UO K H p ys/\Q (.ref p) H))
def HQ(h:X.K=K:=by rfl):aF X (.type "list") (Ui K):=lU h
def HS(h:X.K=K:=by rfl):aF X (.type "tuple") (B5 K):=mX h
def F5{d:cT}{g:List cT->cT}{c:cT}(h:(WZ d).map g=b3 c):∃ds,WZ d=b3 ds/\c=g ds:=by
 cases h1:WZ d with
 |none=>rw[h1]at h;cases h
 |some ds=>rw[h1]at h;cases h;exact⟨ds,rfl,rfl⟩
def VA:CalN K (Ui K) L7:=by intro H N M x d c Q b h k;obtain⟨ds,h1,rfl⟩:=F5 h;obtain⟨a,xs,rfl,sq,r⟩:=b.seq h1;exact⟨a,xs,rfl,sq,λl hl=>k l xs ds hl r rfl⟩
def G3:CalC K (B5 K) OO:=by
 intro H N M x d c Q b h k;obtain⟨ds,h1,rfl⟩:=F5 h;obtain⟨a,xs,rfl,sq,r⟩:=b.seq h1;rcases sq with sq|sq
 ·exact⟨a,xs,rfl,.inl ⟨sq,λl hl=>k _ _ (cK hl) λM e=>.tup (UO.of cG) (r.same (cK hl))⟩⟩
 ·exact⟨a,xs,rfl,.inr ⟨sq,k _ _ (aM.refl _) λM e=>.tup sq r⟩⟩
noncomputable def o2I(g:Int->Int->Int):cT->cT->Option cT
 |.int i,.int j=>b3 (.int (g i j))
 |_,_=>b5
def Vh{g:Int->Int->Int}:K3 K (λxs H Q=>∃i j,xs=[.int i,.int j]/\Q (.int (g i j)) H) (o2I g):=by
 intro H N N' M M' x y d e c Q b a h k;unfold o2I at h;split at h
 ·cases h
  cases b.onI;cases a.onI;exact⟨_,_,rfl,k _ λ_ _ _=>.int _⟩
 ·cases h
abbrev oMax:=o2I λi j=>if j>i then j else i
abbrev oMin:=o2I λi j=>if j<i then j else i
def Tp:K3 K (λxs H Q=>∃i j,xs=[.int i,.int j]/\Q (.int (if j>i then j else i)) H) oMax:=Vh
def Tj:K3 K (λxs H Q=>∃i j,xs=[.int i,.int j]/\Q (.int (if j<i then j else i)) H) oMin:=Vh
noncomputable def tyD:cT->Option String
 |.non=>b3 "NoneType"
 |.bl _=>b3 "bool"
 |.int _=>b3 "int"
 |.str _=>b3 "str"
 |.tup _=>b3 "tuple"
 |.lst _=>b3 "list"
 |_=>b5
noncomputable def OI(t n:String):Option Bool:=if((Ip t)==(Ip n))=ba then b3 ba else if W.kitMeta n=ba then(PySem.fastBuiltinMro t).map (·.contains (.type n))else b5
def fK{t n:String}{k:Bool}(h:OI t n=b3 k):Hb K (.type t) (.type n)=b3 k:=h
def TM:cT->cT->Option cT
 |d,.ty n=>(tyD d).bind λt=>(OI t n).map cT.bl
 |_,_=>b5
def rIsi(K:Ag):RC:=λxs H Q=>∃x n d N M t k,xs=[x,.ty n]/\bB K N H M x d/\tyD d=b3 t/\OI t n=b3 k/\Q (.bl k) H
def jy:aF X (.builtin "isinstance") (rIsi X.K):=by
 intro aa s σ H xs us Q I r h;obtain⟨x,n,d,N,M,t,k,rfl,g,a,hk,q⟩:=h;obtain⟨u,c,rfl,b,f⟩:=GC r;cases (show c=Ip n from f);have e:=fK (K:=X.K) hk;have fin:∀tk,EP X aa σ Q (.bool k) {s with toks:=tk}:=λtk=>⟨.bl k,H,I.tok tk,rfl,q⟩;cases g with
 |non=>cases a;exact RK I b (.non) e fin
 |bl y=>cases a;exact RK I b (.bl y) e fin
 |int i=>cases a;exact RK I b (.int i) e fin
 |str y=>cases a;exact RK I b (.str y) e fin
 |ty n=>cases a
 |fn _=>cases a
 |dct _ _ _=>cases a
 |nst _ _ _=>cases a
 |flt _ _ _=>cases a
 |ktb _ _=>cases a
 |exn _ _ _=>cases a
 |exr _ _ _ _ _=>cases a
 |tup q _=>
  cases a;cases b;obtain⟨its,_,⟨o,h1,h2,_⟩,_⟩:=I.tuple q;exact Ex W.kitx_tuple I.kIn ⟨o,h1,h2⟩ e (λz=>nomatch z) fin
 |lst q _ _=>
  cases a;cases b;obtain⟨its,_,⟨o,n,h1,h2,_⟩,_⟩:=I.list (XV.of q);exact Ex Mq I.kIn ⟨o,h1,h2⟩ e (λz=>nomatch z) fin
 |fzm q _=>
  cases a;cases b;obtain⟨its,_,⟨o,n,h1,h2,_⟩,_⟩:=I.list q.sq;exact Ex Mq I.kIn ⟨o,h1,h2⟩ e (λz=>nomatch z) fin
def kIsi(h:X.K=K:=by rfl):aF X (.builtin "isinstance") (rIsi K):=by subst h;exact jy
def mj:K3 K (rIsi K) TM:=by
  intro H N N' M M' x y d e c Q b a h k;cases a<;>first
    | (simp only [TM]at h
       cases h1:tyD d with
       |none=>rw[h1]at h;cases h
       |some t=>
         rw[h1]at h;rename_i n;have h:(OI t n).map cT.bl=b3 c:=h;obtain⟨kk,h2,h⟩:=An.mp h;cases h;exact⟨x,n,d,N,M,t,kk,rfl,b,h1,h2,k _ λ_ _ _=>.bl _⟩)
    |cases h
def oNeg:cT->Option cT
 |.int i=>b3 (.int (-i))
 |_=>b5
def lw(f:PE X a (TV K ml pa ta ia fa)):PE X (.UnaryOp .USub a pos) (TV K ml pa ba ba (f1 oNeg fa)):=(nG Xs f).imp λσ H Q c=>by
 obtain⟨B,O,δ,d,δ',S,q,k⟩:=c;obtain⟨x,h1,h2⟩:=HC q;refine⟨B,O,δ,x,δ',S,h1,λe H1 b=>?_⟩;cases x with
 |int i=>
  cases h2;have g:e=.int i:=b.rep.onI;exact⟨i,g,k _ H1 ⟨b.sta,b.frm,b.pur,.int _⟩⟩
 |_=>cases h2
abbrev VP:=Ev->Option (Option Int×Ev)
inductive TPOi(K:Ag)(ml:List Nat)(pu:Bool)(f:VP)(σ:St)(H:Hp)(Q:Option Int->Hp->Prop):Prop
 |mk (B:_) (O:_) (δ:_) (k:_) (δ':_) (h0:aI K ml B O H σ δ) (h1:f δ=b3 (k,δ')) (h2:∀H',ResB K ml B O H σ pu H' δ'->Q k H'):TPOi K ml pu f σ H Q
def TPO(K:Ag)(ml:List Nat)(pu:Bool)(f:VP):TO:=λσ H Q=>TPOi K ml pu f σ H Q
def pNo:VP:=λδ=>b3 (b5,δ)
noncomputable def pSo(f:VF):VP:=λδ=>(f δ).bind λp=>match p.1 with
 |.int i=>b3 (b3 i,p.2)
 |_=>b5
def PO.imp{e:Option Sf}{t u:TO}(h:PO X e t)(k:∀σ H Q,u σ H Q->t σ H Q):PO X e u:=λaa s σ H Q I w=>h aa s σ H Q I (k σ H Q w)
def CL:PO X b5 (TPO K ml ba pNo):=zGI.imp λσ H Q a=>by obtain⟨B,O,δ,d,δ',S,q,k⟩:=a;cases q;exact k H (ResB.refl S)
def CM(h:PE X a (TV K ml pa ta ia fa)):PO X (b3 a) (TPO K ml pa (pSo fa)):=(jB h).imp λσ H Q c=>by
 obtain⟨B,O,δ,d,δ',S,q,k⟩:=c;unfold pSo at q;obtain⟨⟨x,δ1⟩,h1,q⟩:=Aa.mp q;refine⟨B,O,δ,x,δ1,S,h1,λe H1 b=>?_⟩;cases x with
 |int i=>
  have f:e=.int i:=b.rep.onI;cases q;exact⟨i,f,k H1 ⟨b.sta,b.frm,b.pur⟩⟩
 |_=>cases q
def LD(ds:List cT)(lo hi:Option Int):List cT:=(ds.drop (HT.sIx ds.length 0 lo)).take (HT.sIx ds.length ds.length hi-HT.sIx ds.length 0 lo)
def M0{N:Sa->Prop}{xs:List V}{ds:List cT}(r:b6 K N H xs ds)(lo hi:Option Int):b6 K N H (EZ xs lo hi) (LD ds lo hi):=by unfold EZ LD;rw[r.length];exact(r.drop _).take _
noncomputable def oSl(d:cT)(lo hi:Option Int):Option cT:=match d with
 |.lst ds=>b3 (.lst (LD ds lo hi))
 |.tup ds=>b3 (.tup (LD ds lo hi))
 |_=>b5
def fSl(fa:VF)(fl fh:VP):VF:=λδ=>(fa δ).bind λp=>(fl p.2).bind λl=>(fh l.2).bind λu=>(oSl p.1 l.1 u.1).map λc=>(c,u.2)
def mM{prog:Az}{w:Sg}{A:Cb}{E:Rz->Ad->Prop}{s:Ad}{t b:Sa}{items:Array Rz}{f e:Rz}{lo hi:Option Int}{Q:Rz->Ad->Prop}(a:IsTup s.heap t items)(g:s.heap.IsSliceOf b f e .none)(pl:IsPart f lo)(pu:IsPart e hi)(h1:HT.sIx items.size 0 lo=0)(h2:HT.sIx items.size items.size hi=items.size)(h:Q (.ref t) s):Sd (Se prog w) A (Kn (.ref t) (.ref b)) Q E s:=by
 obtain⟨os,c,d,i⟩:=id g;have j:s.TypeIs (.ref b) "slice":=⟨os,c,d⟩;unfold Kn;try with_reducible refine Cc ?_
 first|refine Ac (Aq ?_)|skip
 refine Ac (Ia a.typeIs (by decide) ?_);refine Ac (Cs (name:=Bq "__getitem__") a.typeIs Eg
  (Eo Eg a.typeIs PyProof.Rows.entry_tuple_getitem ?_ (PyProof.Rows.args_tuple_getitem _ _)))
 show Sd _ _ (Jq (.ref t)>>=_) _ _ s;refine Ac (PyProof.Rows.tupleItemsOf_ a ?_);refine Ac (Pd j ?_);rw[if_pos (by decide)];refine Ac (HT.UY g pl pu ?_);rw[h1,h2];show Sd _ _ (if((((0:Nat):Int)==0&&(1:Int)==1&&(items.size-0)==items.size)=ba)then _ else _) _ _ s;rw[if_pos (by simp)];refine Ac (m:=Qm _) (Ac (Pd a.typeIs (Aq ?_)));rw[if_pos (by decide)];exact Ac (Mc (Aq ⟨_,rfl,Aq h⟩))
def rSlW(K:Ag):V->Option Int->Option Int->Hp->VK->Prop:=λx lo hi H Q=>∃a xs,x=.ref a/\UO K H a xs/\(HT.sIx xs.length 0 lo=0/\HT.sIx xs.length xs.length hi=xs.length)/\Q (.ref a) H
def kH:SlR X (rSlW X.K):=by
 intro aa s σ H x v i g lo hi j Q I d f pl pu h;obtain⟨a,xs,rfl,e,hw,q⟩:=h;cases d;obtain⟨its,r,b,hz⟩:=I.tuple e;have c:its.toArray.size=xs.length:=by rw[Ak];exact r.length.symm
 refine⟨"tuple",_,PyProof.Rows.slot_tuple_getitem.lookup,b.typeIs,?_⟩;exact mM b f pl pu (by rw[c];exact hw.1) (by rw[c];exact hw.2) ⟨.ref a,H,I,rfl,q⟩
def rSl(K:Ag):V->Option Int->Option Int->Hp->VK->Prop:=λx lo hi H Q=>(rSlT K x lo hi H Q∨rSlL K x lo hi H Q)∨rSlW K x lo hi H Q
def kSl(h:X.K=K:=by rfl):SlR X (rSl K):=by subst h;exact(zK5.or Ym).or kH
def kz{fl fh:VP}(h:fSl fa fl fh δ=b3 (d,δ')):∃x δ1 l a u,fa δ=b3 (x,δ1)/\fl δ1=b3 (l,a)/\fh a=b3 (u,δ')/\oSl x l u=b3 d:=by
 unfold fSl at h;cases h1:fa δ with
 |none=>rw[h1]at h;cases h
 |some p=>
  rw[h1]at h;cases h2:fl p.2 with
  |none=>simp[h2]at h
  |some q=>
   simp only[Ay,h2]at h;cases b:fh q.2 with
   |none=>simp[b]at h
   |some s=>
    simp only[Ay,b]at h;obtain⟨c,e,h⟩:=An.mp h;cases h;exact⟨p.1,p.2,q.1,q.2,s.1,rfl,h2,b,e⟩
def CJ{lo hi:Option Sf}{p2:Pos}{fl fh:VP}(E:X.K=K)(D:PE X a (TV K ml pa ta ia fa))(hl:PO X lo (TPO K ml pb fl))(C:PO X hi (TPO K ml pc fh))(A:(pb&&pc || (ta&&ia))=ba:=by rfl):
  PE X (.Subscript a (.Slice lo hi b5 p2) pos) (TV K ml (pa&&pb&&pc) ba ia (fSl fa fl fh)):=(fY (kSl E) D hl C).imp λσ H Q t=>by
 obtain⟨B,O,δ,d,j,S,q,k⟩:=t;obtain⟨x,δ1,l,g,u,h1,h2,F,v⟩:=kz q;refine⟨B,O,δ,x,δ1,S,h1,λy H1 i=>⟨B,O,δ1,l,g,i.sta,h2,λH2 R2=>⟨B,O,g,u,j,R2.sta,F,λw c=>?_⟩⟩⟩;have s:bB K (av B O ia) w (at_ B O ta) y x:=by
  rcases(Je _ _).mp A with z|z
  ·obtain⟨o,m⟩:=(Af _ _).mp z
   exact(i.rep.same (R2.pur o)).same (c.pur m)
  ·obtain⟨o,m⟩:=(Af _ _).mp z
   subst o m;exact(i.rep.fr R2.frm (λa z=>.inr z) λa z=>.inr z).fr c.frm (λa z=>.inr z) λa z=>.inr z
 have h:(pa&&pb&&pc)=ba->aM H w:=λz=>by simp only[Af]at z;exact((i.pur z.1.1).trans (R2.pur z.1.2)).trans (c.pur z.2)
 have f:=(i.frm.trans R2.frm).trans c.frm;cases x with
 |lst ds=>
  cases v;obtain⟨a,xs,rfl,sq,r⟩:=s.seq rfl;rcases sq with sq|sq
  ·exact .inl (.inr ⟨a,xs,rfl,sq,λp b=>k _ _ ⟨c.sta.same (cK b),f.trans (cK b).fr,λz=>(h z).trans (cK b),.lst cG (c.sta.new b) ((M0 r l u).same (cK b))⟩⟩)
  ·cases s.onL with
   |lst q n r'=>exact .inl (.inr ⟨a,_,rfl,XV.of q,λp b=>k _ _ ⟨c.sta.same (cK b),f.trans (cK b).fr,λz=>(h z).trans (cK b),.lst cG (c.sta.new b) ((M0 r' l u).same (cK b))⟩⟩)
   |fzm q r'=>exact .inl (.inr ⟨a,_,rfl,q.sq,λp b=>k _ _ ⟨c.sta.same (cK b),f.trans (cK b).fr,λz=>(h z).trans (cK b),.lst cG (c.sta.new b) ((M0 r' l u).same (cK b))⟩⟩)
 |tup ds=>
  cases v;cases s.onT with
  |tup q r'=>
   by_cases hw:HT.sIx ds.length 0 l=0/\HT.sIx ds.length ds.length u=ds.length
   ·refine .inr ⟨_,_,rfl,q,by rw [r'.length];exact hw,k _ _ ⟨c.sta,f,h,?_⟩⟩
    have e:LD ds l u=ds:=by unfold LD;rw[hw.1,hw.2];simp
    rw[e];exact .tup q r'
   ·exact .inl (.inl ⟨_,_,rfl,q,by rw[r'.length];exact hw,λp b=>k _ _ ⟨c.sta.same (cK b),f.trans (cK b).fr,λz=>(h z).trans (cK b),.tup (UO.of cG) ((M0 r' l u).same (cK b))⟩⟩)
 |_=>cases v
end
inductive Ou where
 |nx (δ:Ev)|rt (d:cT) (δ:Ev)|bk (δ:Ev)|ct (δ:Ev)
abbrev VS:=Ev->Option Ou
def Post(K:Ag)(ml:List Nat)(B:Bs)(D:KH):Ou->Prop
 |.nx δ'=>∀a H' b,aI K ml B b H' a δ'->D.nx a H'
 |.rt d δ'=>∀v a H' b,aI K ml B b H' a δ'->bB K (rz B) H' (rz B) v d->D.rt v H'
 |.bk δ'=>∀a H' b,aI K ml B b H' a δ'->D.bk a H'
 |.ct δ'=>∀a H' b,aI K ml B b H' a δ'->D.ct a H'
inductive TSti(K:Ag)(ml:List Nat)(g:VS)(D:KH)(σ:St)(H:Hp):Prop
 |mk (B:_) (O:_) (δ:_) (o:_) (h0:aI K ml B O H σ δ) (h1:g δ=b3 o) (h2:Post K ml B D o):TSti K ml g D σ H
def V5(K:Ag)(ml:List Nat)(g:VS):TS:=λD σ H=>TSti K ml g D σ H
section
variable{X:Cx}{K:Ag}{ml:List Nat}{e a b c:Sf}{es:List Sf}{pa ta ia pb tb ib pc tc ic pu bt bi ps bs:Bool}{fa fb fc f:VF}{B B':Bs}{O:Nat->Option Sa}{H H1 H':Hp}{σ:St}{δ δ':Ev}{v:V}{d:cT}{p:Sa}{pos:Pos}{st:Sj}{rest:List Sj}{g g':VS}
def aW:VS:=λδ=>b3 (.nx δ)
def b8(g g':VS):VS:=λδ=>(g δ).bind λo=>match o with
 |.nx δ'=>g' δ'
 |o=>b3 o
def cC:W1 X [] (V5 K ml aW):=BX.imp λD σ H a=>by obtain⟨B,O,δ,o,S,q,k⟩:=a;cases q;exact k σ H O S
def cR(h1:PS X st (V5 K ml g))(h2:W1 X rest (V5 K ml g')):W1 X (st::rest) (V5 K ml (b8 g g')):=(SW h1 h2).imp λD σ H a=>by
 obtain⟨B,O,δ,o,S,q,k⟩:=a;unfold b8 at q;obtain⟨z,h1,q⟩:=Aa.mp q;refine⟨B,O,δ,z,S,h1,?_⟩;cases z with
 |nx δ1=>exact λb H' e c=>⟨B,e,δ1,o,c,q,k⟩
 |rt d δ1=>cases q;exact k
 |bk δ1=>cases q;exact k
 |ct δ1=>cases q;exact k
def cP(h1:PS X st (V5 K ml g)):W1 X [st] (V5 K ml g):=(SW h1 BX).imp λD σ H ⟨B,O,δ,o,S,q,k⟩=>⟨B,O,δ,o,S,q,by cases o<;>exact k⟩
noncomputable def bY(f:VF):VS:=λδ=>(f δ).map λp=>.rt p.1 p.2
def cI(h:PE X e (TV K ml pu bt bi f))(b:bt=ba:=by rfl):PS X (.Return (b3 e) pos) (V5 K ml (bY f)):=(Wv h).imp λD σ H a=>by obtain⟨B,O,δ,o,S,q,k⟩:=a;unfold bY at q;obtain⟨p,h1,q⟩:=An.mp q;cases q;subst b;exact⟨B,O,δ,p.1,p.2,S,h1,λv H' R=>k v σ H' O R.sta (R.rep.mono R.sta.rza R.sta.rzn)⟩
def UX(f:VF):VS:=λδ=>(f δ).map λp=>.nx p.2
def XG(h:PE X e (TV K ml pu bt bi f))(b:Fu e b5 pos.line X.env=pure bb:=by rfl):PS X (.Expr e pos) (V5 K ml (UX f)):=(M8 h b).imp λD σ H a=>by obtain⟨B,O,δ,o,S,q,k⟩:=a;unfold UX at q;obtain⟨p,h1,q⟩:=An.mp q;cases q;exact⟨B,O,δ,p.1,p.2,S,h1,λv H' R=>k σ H' O R.sta⟩
def Y5(t:VB)(g g':VS):VS:=λδ=>(t δ).bind λp=>if p.1=ba then g p.2 else g' p.2
def bU{x y:List Sj}{t:VB}(d:PT X c (TB K ml pc t))(f:W1 X x (V5 K ml g))(e:W1 X y (V5 K ml g')):PS X (.If c x y pos) (V5 K ml (Y5 t g g')):=(Tq d f e).imp λD σ H a=>by
 obtain⟨B,O,δ,o,S,q,k⟩:=a;unfold Y5 at q;obtain⟨⟨kk,δ1⟩,h1,q⟩:=Aa.mp q;refine⟨B,O,δ,kk,δ1,S,h1,λH1 b=>?_⟩;cases kk with
 |true=>exact HM ⟨B,O,δ1,o,b.sta,q,k⟩
 |false=>exact HL ⟨B,O,δ1,o,b.sta,q,k⟩
abbrev VX:=Ev->Option (Sl×Ev)
inductive St1(K:Ag)(B:Bs)(O:Nat->Option Sa)(H:Hp):Bs->V->Sl->Prop
 |va {v:V}{d:cT}:St1 K B O H {B with kp:=[(v,d)]++B.kp} v (.va d)
 |ol {p:Sa}{xs:List V}{ds:List cT}:H p=b3 (.lst xs)->xs.length=ds.length->¬Nn B O p->B.H0 p=b5->St1 K B O H {B.add p with kp:=xs.zip ds++B.kp} (.ref p) (.ow (.lst ds))
 |od {p:Sa}{kvs:List (aQ×V)}{ds:List cT}:H p=b3 (.dK kvs)->kvs.length=ds.length->¬Nn B O p->B.H0 p=b5->St1 K B O H {B.add p with kp:=(kvs.map Fb).zip ds++B.kp} (.ref p) (.ow (.dct (kvs.map Ed) ds))
 |of {p:Sa}{sh:List (Option Nat)}{vs:List V}{ds:List cT}:R6 H p sh vs->vs.length=ds.length->¬Nn B O p->B.H0 p=b5->St1 K B O H {B.add p with kp:=vs.zip ds++B.kp} (.ref p) (.ow (.nst sh ds))
 |og {p:Sa}{x f g:Sb}{xs ys:List V}{ds:List cT}:R0 K H p x f g xs ys->(xs++ys).length=ds.length->¬Nn B O p->B.H0 p=b5->St1 K B O H {B.add p with kp:=(xs++ys).zip ds++B.kp} (.ref p) (.ow (.flt x f g xs.length ds))
def St1.fr{s:Sl}(h:St1 K B O H B' v s)(f:Fr (OA O) H H'):St1 K B O H' B' v s:=by
 cases h with
 |va=>exact .va
 |ol q l n z=>exact .ol (f _ _ q λw=>absurd (.inr w) n) l n z
 |od q l n z=>exact .od (f _ _ q λw=>absurd (.inr w) n) l n z
 |of q l n z=>exact .of (q.fr f λw=>n (.inr w)) l n z
 |og q l n z=>exact .og (q.fr f λw=>n (.inr w)) l n z
inductive TXi(K:Ag)(ml:List Nat)(f:VX)(σ:St)(H:Hp)(Q:VK):Prop
 |mk (B:_) (O:_) (δ:_) (s:_) (δ':_) (h0:aI K ml B O H σ δ) (h1:f δ=b3 (s,δ')) (h2:∀v H' B',aI K ml B' O H' σ δ'->St1 K B O H' B' v s->Fr (OA O) H H'->Q v H'):TXi K ml f σ H Q
def TX(K:Ag)(ml:List Nat)(f:VX):TE:=λσ H Q=>TXi K ml f σ H Q
noncomputable def xV(f:VF):VX:=λδ=>(f δ).map λp=>(.va p.1,p.2)
noncomputable def xO(f:VF):VX:=λδ=>(f δ).map λp=>(.ow p.1,p.2)
def aV(h:PE X e (TV K ml pu ba ba f)):PE X e (TX K ml (xV f)):=h.imp λσ H Q a=>by
 obtain⟨B,O,δ,o,δ',S,q,k⟩:=a;unfold xV at q;obtain⟨p,h1,q⟩:=An.mp q;cases q;exact⟨B,O,δ,p.1,p.2,S,h1,λv H' R=>k v H' _ (R.sta.keepV (ps:=[(v,p.1)]) λz hz=>by rw[Al.mp hz];exact R.rep) .va R.frm⟩
theorem RV{N:Sa->Prop}:∀{xs:List V}{ds:List cT},b6 K N H xs ds->∀z∈xs.zip ds,bB K N H N z.1 z.2
 |_,_,.nil,z,hz=>nomatch hz
 |_,_,.cons h t,z,hz=>by
  rcases Ar.mp hz with e|e
  ·rw[e];exact h
  ·exact RV t z e
theorem UL{N:Sa->Prop}:∀{xs:List V}{ds:List cT},xs.length=ds.length->(∀z∈xs.zip ds,bB K N H N z.1 z.2)->b6 K N H xs ds
 |[],[],_,_=>.nil
 |x::xs,d::ds,hl,h=>.cons (h (x,d) (Bj ..)) (UL (by simpa using hl) λz hz=>h z (At _ hz))
def P7(h:PE X e (TN K ml pu f)):PE X e (TX K ml (xO f)):=h.imp λσ H Q a=>by
 obtain⟨B,O,δ,o,δ',S,q,k⟩:=a;unfold xO at q;cases h1:f δ with
 |none=>rw[h1]at q;cases q
 |some p=>
  obtain⟨d,δ1⟩:=p;rw[h1]at q;cases q;refine⟨B,O,δ,d,δ1,S,h1,λp H' R=>?_⟩;have w:=R.own;cases w with
  |lst q r=>exact k _ H' _ (R.sta.keepV (RV r)) (.ol q r.length R.nz R.h0) R.frm
  |dct q r=>exact k _ H' _ (R.sta.keepV (RV r)) (.od q (by simpa using r.length) R.nz R.h0) R.frm
  |nst q r=>exact k _ H' _ (R.sta.keepV (RV r)) (.of q r.length R.nz R.h0) R.frm
  |flt q r=>exact k _ H' _ (R.sta.keepV (RV r)) (.og q r.length R.nz R.h0) R.frm
def St1.bind{c:Nat->Option Sa}{s:Sl}{i:Nat}(h:St1 K B O H' B' v s)(S:aI K ml B' c H' σ δ)(a:i∉ml)(hl:i<δ.length):∃b,aI K ml B b H' (σ.set i (b3 v)) (δ.set i s):=by
 cases h with
 |va=>
  refine⟨_,aI.unkeep (ps:=_) (S.setVa a (S.kep _ (Bo _ (Al.mpr rfl))))⟩
 |ol q l n z=>
  refine⟨_,aI.setOw (aI.unkeep (B:=B.add _) S) a hl (λw=>n (.inl w)) z (.lst q (UL l λz hz=>S.kep z (Bo _ hz)))⟩
 |od q l n z=>
  refine⟨_,aI.setOw (aI.unkeep (B:=B.add _) S) a hl (λw=>n (.inl w)) z (.dct q (UL (by simpa using l) λz hz=>S.kep z (Bo _ hz)))⟩
 |of q l n z=>
  refine⟨_,aI.setOw (aI.unkeep (B:=B.add _) S) a hl (λw=>n (.inl w)) z (.nst q (UL l λz hz=>S.kep z (Bo _ hz)))⟩
 |og q l n z=>
  refine⟨_,aI.setOw (aI.unkeep (B:=B.add _) S) a hl (λw=>n (.inl w)) z (.flt q (UL l λz hz=>S.kep z (Bo _ hz)))⟩
noncomputable def Z5(i:Nat)(x:VX):VS:=λδ=>(x δ).bind λp=>if i<p.2.length then b3 (.nx (p.2.set i p.1))else b5
def bQ{i:Nat}{y:Sb}{x:VX}{ag:Pos}(j:X.N.Nodup)(h:PE X e (TX K ml x))(hi:X.N[i]?=b3 y:=by rfl)(c:Loc X.env.scope y:=by first|exact .inl rfl|exact .inr rfl)(f:i∉ml:=by decide)(d:Fu e (b3 (.Name y ag)) pos.line X.env=pure bb:=by rfl)
  (g:LO X y:=by first|exact .inl rfl|exact .inr rfl|assumption):PS X (.Assign [.Name y ag] e pos) (V5 K ml (Z5 i x)):=(gP j hi c h d g).imp λD σ H a=>by
 obtain⟨B,O,δ,o,S,q,k⟩:=a;unfold Z5 at q;obtain⟨⟨s,δ1⟩,h1,q⟩:=Aa.mp q;have q:(if i<δ1.length then b3 (Ou.nx (δ1.set i s))else b5)=b3 o:=q;split at q
 ·rename_i hl
  cases q;refine⟨B,O,δ,s,δ1,S,h1,λv H' B' l h' n=>?_⟩;obtain⟨m,b⟩:=h'.bind l f hl;exact k _ _ _ b
 ·cases q
noncomputable def F2(i j:Nat)(x y:VX):VS:=λδ=>(x δ).bind λp=>(y p.2).bind λq=>if i<q.2.length/\j<q.2.length then b3 (.nx ((q.2.set j q.1).set i p.1))else b5
def CP{i j:Nat}{y z:Sb}{fx n:VX}{f e pt:Pos}{kt k2 pt2}(hc:X.calm=ba)(I:X.N.Nodup)(hi:X.N[i]?=b3 y)(C:X.N[j]?=b3 z)(c:i≠j)(x:X.env.scope.names.lookup y=b3 .local)(w:X.env.scope.names.lookup z=b3 .local)(G:PE X a (TX K ml fx))(F:PE X b (TX K ml n))(hw:Fg [.Tuple [.Name y f,.Name z e] kt pt] (.Tuple [a,b] k2 pt2) X.env=pure (b3 [y,z]))(l:i∉ml:=by decide)(h:j∉ml:=by decide)(A:Ff [.Tuple [.Name y f,.Name z e] kt pt] (.Tuple [a,b] k2 pt2) pos.line X.env=pure bb:=by rfl)(E:SE X a [b]:=by rfl)(m:SE X b []:=by rfl):
  PS X (.Assign [.Tuple [.Name y f,.Name z e] kt pt] (.Tuple [a,b] k2 pt2) pos) (V5 K ml (F2 i j fx n)):=(kU hc I hi C c x w (bL G (bL F ZX m) E) hw A).imp λD σ H g=>by
 obtain⟨B,O,δ,o,S,q,k⟩:=g;unfold F2 at q;obtain⟨⟨s,δ1⟩,h1,q⟩:=Aa.mp q;cases h2:n δ1 with
 |none=>simp[h2]at q
 |some p2=>
  obtain⟨s2,d⟩:=p2;simp only[Ay,h2]at q;split at q
  ·rename_i hl
   cases q;refine⟨B,O,δ,s,δ1,S,h1,λv H1 P M t f1=>⟨P,O,δ1,s2,d,M,h2,λu H2 T L r f2=>⟨v,u,rfl,?_⟩⟩⟩;obtain⟨R,J⟩:=r.bind L h hl.2;obtain⟨Q,p⟩:=(t.fr f2).bind J l (by rw[Dg];exact hl.1);rw[Qz _ _ (Dl c)]at p;exact k _ _ _ p
  ·cases q
abbrev VG:=cT->Ev->Option Ev
inductive TGVi(K:Ag)(ml:List Nat)(h:VG)(v:V)(σ:St)(H:Hp)(Q:St->Hp->Prop):Prop
 |mk (B:_) (O:_) (δ:_) (d:_) (δ':_) (h0:aI K ml B O H σ δ) (h1:bB K (Nn B O) H (Nn B O) v d) (h2:h d δ=b3 δ') (h3:∀σ' O',aI K ml B O' H σ' δ'->(∀i∈ml,σ'[i]?=σ[i]?)->Q σ' H):TGVi K ml h v σ H Q
def TGV(K:Ag)(ml:List Nat)(h:VG):TG:=λv σ H Q=>TGVi K ml h v σ H Q
def PG.imp{t u:TG}(h:PG X e t)(k:∀v σ H Q,u v σ H Q->t v σ H Q):PG X e u:=λaa s σ H v w Q I r z=>h aa s σ H v w Q I r (k v σ H Q z)
def AO.imp{t u:TGs}(h:AO X es t)(k:∀v σ H Q,u v σ H Q->t v σ H Q):AO X es u:=λaa s σ H v w Q I r z=>h aa s σ H v w Q I r (k v σ H Q z)
def PG.or{t u:TG}(h:PG X e t)(h':PG X e u):PG X e (λv σ H Q=>t v σ H Q∨u v σ H Q):=λaa s σ H v w Q I r z=>by
 rcases z with z|z
 ·exact h aa s σ H v w Q I r z
 ·exact h' aa s σ H v w Q I r z
def gN(i:Nat):VG:=λd δ=>b3 (δ.set i (.va d))
def bT{i:Nat}{x:Sb}(g:X.N.Nodup)(hi:X.N[i]?=b3 x:=by rfl)(c:Loc X.env.scope x:=by first|exact .inl rfl|exact .inr rfl)(b:i∉ml:=by decide)(f:LO X x:=by first|exact .inl rfl|exact .inr rfl|assumption):PG X (.Name x pos) (TGV K ml (gN i)):=
 (BV g hi c f).imp λv σ H Q a=>by obtain⟨B,O,δ,d,δ',S,r,q,k⟩:=a;cases q;exact k _ _ (S.setVa b r) λj e=>By λ(z:i=j)=>b (z▸e)
abbrev VGs:=List cT->Ev->Option Ev
inductive Ua(K:Ag)(ml:List Nat)(h:VGs)(vs:List V)(σ:St)(H:Hp)(Q:St->Hp->Prop):Prop
 |mk (B:_) (O:_) (δ:_) (ds:_) (δ':_) (h0:aI K ml B O H σ δ) (h1:b6 K (Nn B O) H vs ds) (h2:h ds δ=b3 δ') (h3:∀σ' O',aI K ml B O' H σ' δ'->(∀i∈ml,σ'[i]?=σ[i]?)->Q σ' H):Ua K ml h vs σ H Q
def TGVs(K:Ag)(ml:List Nat)(h:VGs):TGs:=λvs σ H Q=>Ua K ml h vs σ H Q
def WD:VGs:=λds δ=>match ds with
 |[]=>b3 δ
 |_=>b5
def aN(g:VG)(gs:VGs):VGs:=λds δ=>match ds with
 |d::r=>(g d δ).bind λδ1=>gs r δ1
 |[]=>b5
def YN:AO X [] (TGVs K ml WD):=BW.imp λvs σ H Q a=>by
 obtain⟨B,O,δ,ds,δ',S,r,q,k⟩:=a;cases r with
 |nil=>cases q;exact⟨rfl,k _ _ S λ_ _=>rfl⟩
 |cons _ _=>cases q
def a9{g:VG}{gs:VGs}(h1:PG X e (TGV K ml g))(h2:AO X es (TGVs K ml gs))(j:(Sh (e::es) X.env).map (·.2)=assign e X.env::(Sh es X.env).map (·.2):=by rfl):AO X (e::es) (TGVs K ml (aN g gs)):=
 (MC h1 h2 j).imp λvs σ H Q b => by
  obtain⟨B,O,δ,ds,δ',S,r,q,k⟩:=b;cases r with
  |nil=>cases q
  | @cons v vs d ds h t=>
   have q:((g d δ).bind λδ1=>gs ds δ1)=b3 δ':=q;obtain⟨δ1,h1,q⟩:=Aa.mp q;have m:=S.keepV (RV t);exact⟨v,vs,rfl,_,O,δ,d,δ1,m,h,h1,λf o c m1=>⟨B,o,δ1,ds,δ',c.unkeep,UL t.length λz hz=>c.kep z (Bo _ hz),q,λa n l m2=>k a n l λi hi=>(m2 i hi).trans (m1 i hi)⟩⟩
def FC(n:Nat)(gs:VGs):VG:=λd δ=>(WZ d).bind λds=>if ds.length=n then gs ds δ else b5
def W0{gs:VGs}{k n:Nat}(g:X.K=K)(hc:X.calm=ba)(h:AO X es (TGVs K ml gs))(f:(Sh es X.env).length=n:=by rfl)(b:(Sh es X.env).findIdx? (·.1)=b5:=by rfl):PG X (.Tuple es k pos) (TGV K ml (FC n gs)):=
 ((mH (K := K) g hc h f b).or (j5 (K := K) g hc h f b)).imp λv σ H Q e => by
  obtain⟨B,O,δ,d,δ',S,r,q,k⟩:=e;unfold FC at q;obtain⟨ds,h1,q⟩:=Aa.mp q;have q:(if ds.length=n then gs ds δ else b5)=b3 δ':=q;split at q
  ·rename_i hl
   obtain⟨a,xs,rfl,sq,c⟩:=r.seq h1;have fin:TGVs K ml gs xs σ H Q:=⟨B,O,δ,ds,δ',S,c,q,k⟩;rcases sq with sq|sq
   ·exact .inr ⟨a,xs,rfl,sq,c.length.trans hl,fin⟩
   ·exact .inl ⟨a,xs,rfl,sq,c.length.trans hl,fin⟩
  ·cases q
noncomputable def NJ(f:VF)(g:VG):VS:=λδ=>(f δ).bind λp=>(g p.1 p.2).map Ou.nx
def UM{tg:Sf}{gg:VG}(i:PE X e (TV K ml pu ba ba f))(h:PG X tg (TGV K ml gg))(g:Ff [tg] e pos.line X.env=pure bb:=by rfl)(hw:Fg [tg] e X.env=pure b5:=by rfl)
  (h1:(Sh [tg] X.env).map (·.2)=[assign tg X.env]:=by rfl):PS X (.Assign [tg] e pos) (V5 K ml (NJ f gg)):=(OS i h g hw h1).imp λD σ H c=>by
 obtain⟨B,O,δ,o,S,q,k⟩:=c;unfold NJ at q;obtain⟨⟨d,δ1⟩,h1,q⟩:=Aa.mp q;have q:(gg d δ1).map Ou.nx=b3 o:=q;obtain⟨b,h2,q⟩:=An.mp q;cases q;exact⟨B,O,δ,d,δ1,S,h1,λv H' R=>⟨B,O,δ1,d,b,R.sta,R.rep,h2,λa l j _=>k a H' l j⟩⟩
def MuV(K:Ag)(r:V->List V->Hp->VK->Prop)(m:List cT->List cT->Option (List cT)):Prop:=∀(H:Hp) (N:Sa->Prop) (l:Sa) (xs vs:List V) (ds es b:List cT) (Q:VK),
 H l=b3 (.lst xs)->N l->b6 K N H xs ds->b6 K N H vs es->m ds es=b3 b->(∀v a,b6 K N H a b->Q v (upd H l (.lst a)))->r (.ref l) vs H Q
noncomputable def V3(δ:Ev)(i:Nat):Option (List cT):=match δ[i]? with
 |some (.ow (.lst ds))=>b3 ds
 |_=>b5
def MJ(i:Nat)(m:List cT->List cT->Option (List cT))(fs:R8):VS:=λδ=>(V3 δ i).bind λ_=>(fs δ).bind λp=>(V3 p.2 i).bind λds=>(m ds p.1).map λa=>.nx (p.2.set i (.ow (.lst a)))
def RP{i:Nat}{ds:List cT}(h:V3 δ i=b3 ds):δ[i]?=b3 (.ow (.lst ds)):=by
 unfold V3 at h;split at h
 ·cases h;assumption
 ·cases h
def NV{N:Sa->Prop}{l:Sa}{o:HO}{xs:List V}{ds ys:List cT}{zs:List V}(c:H l=b3 (.lst zs))(e:N l)(h:b6 K N H xs ds):b6 K N (upd H l o) xs ds:=
 h.fr (P:=λb=>b=l) ⟨λb u q n=>by
  by_cases d:b=l
  ·subst d
   rw[c]at q;cases q;exact absurd (n rfl) λz=>z
  ·rw[cH d]
   exact q,(NZ.of c).upd⟩ λa z=>z▸e
def SZ{i:Nat}{x:Sb}{name:Sb}{af ae ah:Pos}{id:String}{r:V->List V->Hp->VK->Prop}{m:List cT->List cT->Option (List cT)}{fs:R8}(slot:Slot "list" name id)(f:Pe (.builtin id)=pure (.type "method_descriptor"))(G:MtR X id r)(j:MuV K r m)(F:PE X (.Name x ah) (ZH i))(I:PA X (e::es) (GU K ml pu ba fs))(Q:Cd (.Name x ah) name X.env (eval (.Name x ah) X.env)=eval (.Name x ah) X.env:=by rfl)(P:((Ct ae (Ap (e::es) X.env)).all (λx=> !x.1)&&(Gu ae (Eh [] X.env)).all (λx=>x.1.isSome)&&decide ((e::es).length+([]:List Fo).length+(if([]:List Fo).isEmpty then 0 else 1)<30))=ba:=by rfl)(T:(af.endLine==ae.line)=ba:=by rfl)(E:SE X e es:=by rfl)(U:(Ct ae (Ap es X.env)).any (·.1)=bb:=by rfl)(g:Fu (.Call (.Attribute (.Name x ah) name af) (e::es) [] ae) b5 pos.line X.env=pure bb:=by rfl)(J:X.K=K:=by rfl):PS X (.Expr (.Call (.Attribute (.Name x ah) name af) (e::es) [] ae) pos) (V5 K ml (MJ i m fs)):=
 (M8 (kBm (K := K) J Ep slot f G F I Q P T E U) g).imp λD σ H h => by
  obtain⟨B,O,δ,o,S,q,k⟩:=h;unfold MJ at q;obtain⟨N,L,q⟩:=Aa.mp q;have q:((fs δ).bind λp=>(V3 p.2 i).bind λds=>(m ds p.1).map λa=>Ou.nx (p.2.set i (.ow (.lst a))))=b3 o:=q;obtain⟨⟨b,δ1⟩,h1,q⟩:=Aa.mp q;have q:((V3 δ1 i).bind λds=>(m ds b).map λa=>Ou.nx (δ1.set i (.ow (.lst a))))=b3 o:=q;obtain⟨ds,h2,q⟩:=Aa.mp q;have q:((m ds b).map λa=>Ou.nx (δ1.set i (.ow (.lst a))))=b3 o:=q;cases s:m ds b with
  |none=>rw[s]at q;cases q
  |some a=>
   rw[s]at q;cases q;obtain⟨l,d,M,w⟩:=S.ow i _ (RP L);cases w with
   |lst n _=>
    refine⟨.ref l,M,.inl ⟨rfl,_,XV.of n⟩,B,O,δ,b,δ1,S,h1,λvs H1 R=>?_⟩;obtain⟨W,t,_,y⟩:=R.sta.ow i _ (RP h2);rw[d]at t;cases t;cases y with
    |lst c C=>
     refine j H1 (Nn B O) l _ vs ds b a _ c (.inr ⟨i,d⟩) C R.rep s λv u A=>?_;exact k σ _ O (R.sta.wrote d (λz=>z) (.of c) (.lst cG (NV (ys:=[]) c (.inr ⟨i,d⟩) A)))
noncomputable def FO:List cT->List cT->Option (List cT)
 |ds,[d]=>if ds.length<16777216 then b3 (ds++[d])else b5
 |_,_=>b5
def L5:MuV K B0 FO:=by
 intro H N l xs vs ds es c Q hl e a b h k;cases b with
 |nil=>cases h
 | @cons v vs d es hd t=>
  cases t with
  |cons _ _=>cases h
  |nil=>
   simp only[FO]at h;split at h
   ·rename_i hz
    cases h;exact⟨l,xs,v,rfl,rfl,hl,by rw[a.length,Ce];exact hz,k _ _ (a.snoc hd)⟩
   ·cases h
end
section
variable{X:Cx}{K:Ag}{ml:List Nat}{e a b c:Sf}{es:List Sf}{pa ta ia pb tb ib pc tc ic pu bt bi ps bs:Bool}{fa fb fc f:VF}{B B':Bs}{O:Nat->Option Sa}{H H1 H':Hp}{σ:St}{δ δ':Ev}{v:V}{d:cT}{p:Sa}{pos:Pos}{st:Sj}{rest:List Sj}{g g':VS}
def X1(a:VS):Ou->Option Ou
 |.nx δ=>a δ
 |.ct δ=>a δ
 |.bk δ=>b3 (.nx δ)
 |.rt d δ=>b3 (.rt d δ)
noncomputable def Z9(t:VB)(g:VS):Nat->VS
 |0=>λ_=>b5
 |n+1=>λδ=>(t δ).bind λp=>if p.1=ba then(g p.2).bind (X1 (Z9 t g n))else b3 (.nx p.2)
theorem TD{t:VB}:∀{n:Nat}{δ:Ev}{o:Ou},Z9 t g n δ=b3 o->Z9 t g (n+1) δ=b3 o
 |0,_,_,h=>by cases h
 | n + 1,δ,o,h => by
  dsimp only[Z9]at h;show((t δ).bind λp=>if p.1=ba then(g p.2).bind (X1 (Z9 t g (n+1)))else b3 (.nx p.2))=b3 o;cases h1:t δ with
  |none=>rw[h1]at h;cases h
  |some p=>
   rw[h1]at h;obtain⟨kk,δ1⟩:=p;cases kk with
   |false=>exact h
   |true=>
    have h:(g δ1).bind (X1 (Z9 t g n))=b3 o:=h;show(g δ1).bind (X1 (Z9 t g (n+1)))=b3 o;cases h2:g δ1 with
    |none=>rw[h2]at h;cases h
    |some z=>
     rw[h2]at h;cases z with
     |nx a=>exact TD (n:=n) h
     |ct a=>exact TD (n:=n) h
     |bk a=>exact h
     |rt d a=>exact h
theorem QS{t:VB}{n:Nat}{o:Ou}(h:Z9 t g n δ=b3 o):∀k,Z9 t g (n+k) δ=b3 o
 |0=>h
 |k+1=>TD (QS h k)
def EH{t:VB}{n m:Nat}{o o':Ou}(h:Z9 t g n δ=b3 o)(h':Z9 t g m δ=b3 o'):o=o':=by have b:=QS h m;have a:=QS h' n;rw[Pg]at a;rw[b]at a;exact Bx a
open Classical in
noncomputable def OT(t:VB)(g:VS):VS:=λδ=>if h:∃o n,Z9 t g n δ=b3 o then b3 (Classical.choose h)else b5
def ku{t:VB}{n:Nat}{o:Ou}(h:Z9 t g n δ=b3 o):OT t g δ=b3 o:=by have a:∃o n,Z9 t g n δ=b3 o:=⟨o,n,h⟩;unfold OT;rw[dif_pos a];obtain⟨m,b⟩:=Ls a;rw[EH b h]
def D6{t:VB}{o:Ou}(h:OT t g δ=b3 o):∃n,Z9 t g n δ=b3 o:=by
 unfold OT at h;split at h
 ·rename_i a
  cases h;exact Ls a
 ·cases h
def kS{body:List Sj}{t:VB}(l:Qc (Se X.prog X.w) X.A X.env X.xe)(hc:PT X c (TB K ml pc t))(s:W1 X body (V5 K ml g)):PS X (.While c body [] pos) (V5 K ml (OT t g)):=(Zc l hc s).imp λD σ H i=>by
 obtain⟨B,O,δ,o,S,q,k⟩:=i;obtain⟨n,p⟩:=D6 q;refine⟨λm σ H=>∃O δ,aI K ml B O H σ δ/\Z9 t g m δ=b3 o,⟨n,O,δ,S,p⟩,?_⟩;rintro m σ H ⟨O,δ,S,b⟩;cases m with
 |zero=>cases b
 |succ m=>
  dsimp only[Z9]at b;obtain⟨⟨kk,δ1⟩,h1,b⟩:=Aa.mp b;refine⟨B,O,δ,kk,δ1,S,h1,λH1 j=>?_⟩;cases kk with
  |false=>
   have b:b3 (Ou.nx δ1)=b3 o:=b;cases b;exact HL (k σ H1 O j.sta)
  |true=>
   have b:(g δ1).bind (X1 (Z9 t g m))=b3 o:=b;obtain⟨z,h2,b⟩:=Aa.mp b;refine HM ⟨λa H'=>∃O δ,aI K ml B O H' a δ/\Z9 t g m δ=b3 o,λa H' w=>⟨m,Kx _,w⟩,B,O,δ1,z,j.sta,h2,?_⟩;cases z with
   |nx e=>exact λa H' h f=>⟨h,e,f,b⟩
   |ct e=>exact λa H' h f=>⟨h,e,f,b⟩
   |bk e=>cases b;exact λa H' h f=>k a H' h f
   |rt d e=>cases b;exact λv a H' h f r=>k v a H' h f r
def Walk(K:Ag)(J:It)(a:List (V×cT))(ds:List cT):Prop:=∀(N:Sa->Prop) (H:Hp),(∀p∈a,bB K N H N p.1 p.2)->
 (∀(i:Nat) (d:cT),ds[i]?=b3 d->J.go i H/\∀x H',J.yld i H x H'->aM H H'/\bB K N H' N x d)/\J.stop ds.length H
abbrev VI:=Ev->Option (List cT×Ev)
inductive TIVi(K:Ag)(ml:List Nat)(pu:Bool)(f:VI)(σ:St)(H:Hp)(R:It->Hp->Prop):Prop
 |mk (B:_) (O:_) (δ:_) (ds:_) (δ':_) (h0:aI K ml B O H σ δ) (h1:f δ=b3 (ds,δ')) (h2:∀J kps H',aI K ml {B with kp:=kps++B.kp} O H' σ δ'->Fr (OA O) H H'->(pu=ba->aM H H')->Walk K J kps ds->R J H'):TIVi K ml pu f σ H R
def TIV(K:Ag)(ml:List Nat)(pu:Bool)(f:VI):TI:=λσ H R=>TIVi K ml pu f σ H R
def PI.imp{tg:Sf}{t u:TI}(h:PI X tg e t)(k:∀σ H R,u σ H R->t σ H R):PI X tg e u:=λaa s σ H R I w=>h aa s σ H R I (k σ H R w)
def PI.or{tg:Sf}{t u:TI}(h:PI X tg e t)(h':PI X tg e u):PI X tg e (λσ H R=>t σ H R∨u σ H R):=λaa s σ H R I z=>by
 rcases z with z|z
 ·exact h aa s σ H R I z
 ·exact h' aa s σ H R I z
def Q9(f:VF):VI:=λδ=>(f δ).bind λp=>(WZ p.1).map λds=>(ds,p.2)
def eL{a:Sa}{ds:List cT}:Walk K (Itl K a) [(.ref a,.lst ds)] ds:=by
 intro N H h;have r:=h _ (Al.mpr rfl);have fin:∀xs,XV K H a xs->b6 K N H xs ds->(∀(i:Nat) (d:cT),ds[i]?=b3 d->(Itl K a).go i H/\∀x H',(Itl K a).yld i H x H'->aM H H'/\bB K N H' N x d)/\(Itl K a).stop ds.length H:=λxs sq r=>by
  refine⟨λi d e=>?_,xs,sq,by rw[r.length];exact Ax _⟩;obtain⟨x,b,c⟩:=r.get e;refine⟨⟨xs,x,sq,b⟩,λy H' f=>?_⟩;obtain⟨j,g⟩:=f;subst j;have:=g xs sq
  rw[b]at this;cases this;exact⟨aM.refl _,c⟩
 cases r.onL with
 |lst q n r=>exact fin _ (XV.of q) r
 |fzm q r=>exact fin _ q.sq r
def Zj{a:Sa}{ds:List cT}:Walk K (Itt K a) [(.ref a,.tup ds)] ds:=by
 intro N H h;have r:=h _ (Al.mpr rfl);cases r.onT with
 |tup sq r=>
  refine⟨λi d e=>?_,_,sq,by rw[r.length];exact Ax _⟩;obtain⟨x,b,c⟩:=r.get e;refine⟨⟨_,x,sq,b⟩,λy H' f=>?_⟩;obtain⟨j,g⟩:=f;subst j;have:=g _ sq
  rw[b]at this;cases this;exact⟨aM.refl _,c⟩
def XT{tg:Sf}(i:X.K=K)(h:PE X e (TV K ml pu ba ba f)):PI X tg e (TIV K ml pu (Q9 f)):=((nU (K:=K) i h).or (mU (K:=K) i h)).imp λσ H R c=>by
 obtain⟨B,O,δ,ds,δ',S,q,k⟩:=c;unfold Q9 at q;obtain⟨⟨x,δ1⟩,h1,q⟩:=Aa.mp q;cases x with
 |lst g=>
  cases q;refine .inl ⟨B,O,δ,_,δ1,S,h1,λv H1 b=>?_⟩;obtain⟨a,xs,rfl,sq,r⟩:=b.rep.seq rfl;refine⟨a,rfl,?_,k _ [(.ref a,.lst ds)] H1 (b.sta.keepV λp d=>by rw[Al.mp d];exact b.rep) b.frm b.pur eL⟩;have r:=b.rep;cases r.onL with
  |lst q _ _=>exact⟨_,XV.of q⟩
  |fzm q _=>exact⟨_,q.sq⟩
 |tup g=>
  cases q;refine .inr ⟨B,O,δ,_,δ1,S,h1,λv H1 b=>?_⟩;obtain⟨a,xs,rfl,sq,r⟩:=b.rep.seq rfl;refine⟨a,rfl,?_,k _ [(.ref a,.tup ds)] H1 (b.sta.keepV λp d=>by rw[Al.mp d];exact b.rep) b.frm b.pur Zj⟩;have r:=b.rep;cases r.onT with
  |tup q _=>exact⟨_,q⟩
 |_=>cases q
def TQ(lo:Int)(n:Nat):List cT:=(Cq n).map λk:Nat=>.int (lo+k)
noncomputable def iR1(f:VF):VI:=λδ=>(f δ).bind λp=>match p.1 with
 |.int j=>if -4611686018427387904<=j/\j<4611686018427387904 then b3 (TQ 0 j.toNat,p.2)else b5
 |_=>b5
def lV{lo:Int}{n i:Nat}{d:cT}(h:(TQ lo n)[i]?=b3 d):i<n/\d=.int (lo+i):=by
 unfold TQ at h;rw[Ef]at h;obtain⟨k,h1,h⟩:=An.mp h;cases h;have:=Ai.mp h1
 obtain⟨hl,e⟩:=this;rw[List.length_range]at hl;rw[List.getElem_range]at e;subst e;exact⟨hl,rfl⟩
def kW{lo:Int}{n:Nat}:Walk K (Itr lo n) [] (TQ lo n):=by intro N H _;refine⟨λi d e=>?_,by simp[Itr,TQ]⟩;obtain⟨hl,rfl⟩:=lV e;refine⟨hl,λx H' a=>?_⟩;obtain⟨rfl,rfl⟩:=a;exact⟨aM.refl _,.int _⟩
def RU{tg:Sf}{p':Pos}(l:Gl X "range")(i:X.mg "range"=b5)(h:PE X a (TV K ml pa ta ia fa))(g:Ap [a] X.env=[(bb,eval a X.env)]:=by rfl)(d:SE X a []:=by rfl):
  PI X tg (.Call (.Name "range" p') [a] [] pos) (TIV K ml pa (iR1 fa)):=(l7 l i (bL h ZX d) g).imp λσ H R e=>by
 obtain⟨B,O,δ,ds,δ',S,q,k⟩:=e;unfold iR1 at q;obtain⟨⟨x,δ1⟩,h1,q⟩:=Aa.mp q;cases x with
 |int j=>
  have q:(if -4611686018427387904<=j/\j<4611686018427387904 then b3 (TQ 0 j.toNat,δ1)else b5)=b3 (ds,δ'):=q;split at q
  ·rename_i f
   cases q;have b:(2:Int) ^ 62=4611686018427387904:=by decide
   refine⟨B,O,δ,_,_,S,h1,λv H1 c=>⟨j,?_,by rw[b];exact f.1,by rw[b];exact f.2,k _ [] H1 (c.sta.keepV λ_ z=>nomatch z) c.frm c.pur kW⟩⟩;rw[c.rep.onI]
  ·cases q
 |_=>cases q
noncomputable def YC(gg:VG)(s:VS):List cT->VS
 |[]=>λδ=>b3 (.nx δ)
 |d::r=>λδ=>(gg d δ).bind λδ1=>(s δ1).bind (X1 (YC gg s r))
def MI(fi:VI)(gg:VG)(s:VS):VS:=λδ=>(fi δ).bind λp=>YC gg s p.1 p.2
def SY{tg iter:Sf}{body:List Sj}{fi:VI}{gg:VG}(t:Qc (Se X.prog X.w) X.A X.env X.xe)(hc:X.calm=ba)(hi:PI X tg iter (TIV K ml pu fi))(L:PG X tg (TGV K ml gg))(M:W1 X body (V5 K ml g))
  (I:∀x,foldedSetIterable iter X.env x=pure x:=by intro _;rfl):PS X (.For tg iter body [] pos) (V5 K ml (MI fi gg g)):=(lX t hc hi L M I).imp λD σ H s=>by
 obtain⟨B,O,δ,o,S,q,k⟩:=s;unfold MI at q;obtain⟨⟨ds,δ1⟩,h1,q⟩:=Aa.mp q;have q:YC gg g ds δ1=b3 o:=q;refine⟨B,O,δ,ds,δ1,S,h1,λJ n H1 Q _ _ C=>?_⟩;refine⟨λi m σ H=>m=ds.length-i/\i<=ds.length/\∃O δ,aI K ml {B with kp:=n++B.kp} O H σ δ/\YC gg g (ds.drop i) δ=b3 o,⟨ds.length,rfl,Ee _,O,δ1,Q,q⟩,?_⟩;rintro i m σ H ⟨rfl,hi,O,δ,S,b⟩;have w:=C (Nn B O) H λp t=>S.kep p (Bo _ t);by_cases h:i<ds.length
 ·obtain ⟨go,y⟩ := w.1 i ds[i] (by simp [h])
  rw[Gy h]at b;refine .inr ⟨go,λa H'=>∃O δ,aI K ml {B with kp:=n++B.kp} O H' a δ/\YC gg g (ds.drop (i+1)) δ=b3 o,λa H' w'=>⟨ds.length-(i+1),by lia,rfl,h,w'⟩,λx H' G=>?_⟩;obtain⟨E,F⟩:=y x H' G;have b:((gg ds[i] δ).bind λδ1=>(g δ1).bind (X1 (YC gg g (ds.drop (i+1)))))=b3 o:=b;obtain⟨f,h2,b⟩:=Aa.mp b;have b:(g f).bind (X1 (YC gg g (ds.drop (i+1))))=b3 o:=b;refine⟨_,O,δ,ds[i],f,S.same E,F,h2,λu R P _=>?_⟩;obtain⟨z,N,b⟩:=Aa.mp b;refine⟨_,R,f,z,P,N,?_⟩;cases z with
  |nx c=>exact λa H' l j=>⟨l,c,j,b⟩
  |ct c=>exact λa H' l j=>⟨l,c,j,b⟩
  |bk c=>cases b;exact λa H' l j=>k a H' l j.unkeep
  |rt d c=>cases b;exact λv a H' l j r=>k v a H' l j.unkeep r
 ·have e : i = ds.length := by lia
  subst e;rw[Lb]at b;cases b;exact .inl ⟨w.2,k σ H O S.unkeep⟩
end
section
variable{X:Cx}{K:Ag}{ml:List Nat}{e a b c:Sf}{es:List Sf}{pa ta ia pb tb ib pc tc ic pu bt bi ps bs:Bool}{fa fb fc f:VF}{B B':Bs}{O:Nat->Option Sa}{H H1 H':Hp}{σ:St}{δ δ':Ev}{v:V}{d:cT}{p:Sa}{pos:Pos}{st:Sj}{rest:List Sj}{g g':VS}
def aI.call{P:Sa->Prop}(S:aI K ml B O H σ δ)(hl:δ'.length=δ.length)(h:∀i:Nat,(δ'[i]?=δ[i]? /\∀a,O i=b3 a->¬P a)∨∃a d',O i=b3 a/\δ'[i]?=b3 (Sl.ow d')/\R7 K (Nn B O) H' a d')
  (f:Fr P H H') (j:∀a,P a->OA O a):aI K ml B O H' σ δ' where
 len:=by rw[hl,S.len]
 va:=λi d e=>by
  rcases h i with⟨g,_⟩|⟨a,d',_,g,_⟩
  ·rw[g]at e
   obtain⟨v,c,r⟩:=S.va i d e;exact⟨v,c,r.fr f (λa z=>.inr (j a z)) λa z=>.inr (j a z)⟩
  ·rw[g]at e
   cases e
 ow:=λi d e=>by
  rcases h i with⟨g,n⟩|⟨a,d',c,g,w⟩
  ·rw[g]at e
   obtain⟨a,c,k,w⟩:=S.ow i d e;exact⟨a,c,k,w.fr f (λa z=>.inr (j a z)) (n a c)⟩
  ·rw[g]at e
   cases e;obtain⟨d0,q0⟩:=S.dom i a c;obtain⟨s,k,m,_⟩:=S.ow i d0 q0;rw[c]at k;cases k;exact⟨a,c,m,w⟩
 dom:=λi a e=>by
  rcases h i with⟨g,n⟩|⟨a,d',c,g,w⟩
  ·obtain⟨d0,q0⟩:=S.dom i a e
   exact⟨d0,g.trans q0⟩
  ·exact⟨d',g⟩
 inj:=S.inj
 old:=S.old
 zin:=λa h'=>by
  obtain⟨o,q⟩:=S.zin a h';exact⟨o,f a o q λz=>by obtain⟨i,e⟩:=j a z;exact absurd h' (S.old i a e).1⟩
 frm:=by
  refine⟨λb o q n=>?_,λ_ _ _ _ _ _ _ _ _ h=>?_⟩
  ·have h1:=S.frm b o q n
   refine f b o h1 λz=>?_;obtain⟨i,e⟩:=j b z;rcases(S.old i b e).2 with w|w
   ·exact n w
   ·rw[q]at w;cases w
  ·obtain⟨_,_,e⟩:=S.frm.ft _ _ _ _ _ _ _ _ _ h
   exact f.ft _ _ _ _ _ _ _ _ _ e
 par:=S.par
 pin:=λa h'=>by
  obtain⟨o,q⟩:=S.pin a h';by_cases z:P a
  ·obtain⟨i,e⟩:=j a z
   rcases h i with⟨_,n⟩|⟨s,d',c,g,w⟩
   ·exact absurd z (n a e)
   ·rw[e]at c
    cases c;obtain⟨o,q,_⟩:=w.soft;exact⟨o,q⟩
  ·exact⟨o,f a o q λy=>absurd y z⟩
 kep:=λp l=>(S.kep p l).fr f (λa z=>.inr (j a z)) λa z=>.inr (j a z)
abbrev cB:=List cT->Option (cT×List cT)
def VW(ml:List Nat)(vs:List V):Sa->Prop:=λa=>∃i∈ml,vs[i]?=b3 (.ref a)
def Zp(Z:Sa->Prop)(ml:List Nat)(vs:List V):Sa->Prop:=λa=>Z a∨VW ml vs a
structure Tc(K:Ag)(ml:List Nat)(Z:Sa->Prop)(H:Hp)(vs:List V)(ds:List cT):Prop where
 len:vs.length=ds.length
 mem:∀i∈ml,i<ds.length
 va:∀(i:Nat) (d:cT),i∉ml->ds[i]?=b3 d->∃v,vs[i]?=b3 v/\bB K (Zp Z ml vs) H (Zp Z ml vs) v d
 ow:∀(i:Nat) (d:cT),i∈ml->ds[i]?=b3 d->∃a,vs[i]?=b3 (.ref a)/\R7 K (Zp Z ml vs) H a d/\¬Z a
 inj:∀(i j:Nat) (a:Sa),i∈ml->j∈ml->vs[i]?=b3 (.ref a)->vs[j]?=b3 (.ref a)->i=j
 zin:∀a,Z a->∃o,H a=b3 o
inductive spVi(K:Ag)(ml:List Nat)(n:Nat)(F:cB)(vs:List V)(H:Hp)(Q:VK):Prop
 |mk (Z:Sa->Prop) (ds:List cT) (r:cT) (os:List cT) (h0:ds.length=n) (h1:Tc K ml Z H vs ds) (h2:F ds=b3 (r,os)) (h3:∀v H',Fr (VW ml vs) H H'->(∀(k i:Nat) (a:Sa) (o:cT),ml[k]?=b3 i->vs[i]?=b3 (.ref a)->os[k]?=b3 o->R7 K (Zp Z ml vs) H' a o)->bB K (Zp Z ml vs) H' (Zp Z ml vs) v r->Q v H'):spVi K ml n F vs H Q
def spV(K:Ag)(ml:List Nat)(n:Nat)(F:cB):Sp:=λvs H Q _=>spVi K ml n F vs H Q
def b7(ml:List Nat)(n:Nat)(ds:List cT):Ev:=ds.mapIdx (λi d=>if i∈ml then Sl.ow d else Sl.va d)++Aj (n-ds.length) Sl.no
noncomputable def SV(ml:List Nat)(δ:Ev):Option (List cT):=ml.mapM λ(i:Nat)=>match(δ[i]? :Option Sl)with
 |some (Sl.ow d)=>b3 d
 |_=>b5
def a8(n:Nat)(ml:List Nat)(g:VS):cB:=λds=>(g (b7 ml n ds)).bind λo=>match o with
 |.rt d δ=>(SV ml δ).map λos=>(d,os)
 |.nx δ=>(SV ml δ).map λos=>(.non,os)
 |_=>b5
theorem FW:∀{ml:List Nat}{δ:Ev}{os:List cT},SV ml δ=b3 os->∀(k i:Nat) (o:cT),ml[k]?=b3 i->os[k]?=b3 o->δ[i]?=b3 (.ow o)
 |[],_,_,h,k,i,o,a,b=>by simp at a
 | j :: ml,δ,os,h,k,i,o,a,b => by
  unfold SV at h;rw[Qp]at h;split at h
  ·rename_i d hd
   cases h2:(ml.mapM λ(i:Nat)=>match(δ[i]? :Option Sl)with
    |some (Sl.ow d)=>b3 d
    |_=>b5:Option (List cT))with
   |none=>rw[h2]at h;cases h
   |some c=>
    rw[h2]at h;cases h;cases k with
    |zero=>
     cases a;cases b;exact hd
    |succ k=>exact FW (ml:=ml) h2 k i o (by simpa using a) (by simpa using b)
  ·cases h
def J6{N:List Sb}{Z:Sa->Prop}{vs:List V}{ds:List cT}(A:Tc K ml Z H vs ds)(B:ds.length<=N.length):∃g:Nat->Option Sa,(∀i a,g i=b3 a↔i∈ml/\vs[i]?=b3 (.ref a))/\aI K ml ⟨Z,VW ml vs,H,g,[]⟩ g H (start N vs) (b7 ml N.length ds):=by
 classical
 let g:Nat->Option Sa:=λi=>if i∈ml then(match vs[i]? with
  |some (.ref a)=>b3 a
  |_=>b5)else b5
 have c:∀i a,g i=b3 a↔i∈ml/\vs[i]?=b3 (.ref a):=λi a=>by
  show(if i∈ml then(match vs[i]? with
   |some (.ref a)=>b3 a
   |_=>b5)else b5)=b3 a↔_
  by_cases hi:i∈ml
  ·rw[if_pos hi]
   constructor
   ·intro h
    split at h
    ·rename_i b x
     cases h;exact⟨hi,x⟩
    ·cases h
   ·rintro ⟨_,h⟩
    rw[h]
  ·rw[if_neg hi]
   exact⟨(λh=>nomatch h),λh=>absurd h.1 hi⟩
 have m:∀a,Nn ⟨Z,VW ml vs,H,g,[]⟩ g a->Zp Z ml vs a:=λa h=>by
  rcases h with h|⟨i,h⟩
  ·exact .inl h
  ·exact .inr ⟨i,(c i a).mp h⟩
 have t:∀(i:Nat) (s:Sl),(b7 ml N.length ds)[i]?=b3 s->(∃d,ds[i]?=b3 d/\s=if i∈ml then .ow d else .va d)∨s=.no:=λi s h=>by
  unfold b7 at h;by_cases hi:i<ds.length
  ·rw [Ah (by simpa using hi),Mf]at h
   cases q:ds[i]? with
   |none=>rw[q]at h;cases h
   |some d=>rw[q]at h;cases h;exact .inl ⟨d,rfl,rfl⟩
  ·rw [Am (by simpa using hi),Dk]at h
   split at h
   ·cases h;exact .inr rfl
   ·cases h
 have k:∀(i:Nat) (v:V),vs[i]?=b3 v->(start N vs)[i]?=b3 (b3 v):=λi v h=>by unfold start;have hi:i<vs.length:=(Ai.mp h).1;rw[Ah (by simpa using hi),Ef,h];rfl
 refine⟨g,c,?_,λi d q=>?_,λi d q=>?_,λi a q=>?_,λi j a q1 q2=>?_,λi a q=>?_,A.zin,Fr.refl _ _,⟨λi a q=>((c i a).mp q).1,λi _=>rfl⟩,λa q=>?_,λp u=>nomatch u⟩
 ·unfold start b7
  have:=A.len
  simp;lia
 ·rcases t i _ q with⟨e,h1,h2⟩|h
  ·by_cases hi:i∈ml
   ·rw[if_pos hi]at h2;cases h2
   ·rw[if_neg hi]at h2
    cases h2;obtain⟨v,f,r⟩:=A.va i d hi h1;exact⟨v,k i v f,r.mono m m⟩
  ·cases h
 ·rcases t i _ q with⟨e,h1,h2⟩|h
  ·by_cases hi:i∈ml
   ·rw[if_pos hi]at h2
    cases h2;obtain⟨a,f,w,_⟩:=A.ow i d hi h1;exact⟨a,(c i a).mpr ⟨hi,f⟩,k i _ f,w.mono m⟩
   ·rw[if_neg hi]at h2;cases h2
  ·cases h
 ·obtain⟨hi,f⟩:=(c i a).mp q
  have hl:=A.mem i hi;refine⟨ds[i],?_⟩;unfold b7;rw[Ah (by simpa using hl),Mf];simp[hl,hi]
 ·exact A.inj i j a ((c i a).mp q1).1 ((c j a).mp q2).1 ((c i a).mp q1).2 ((c j a).mp q2).2
 ·obtain⟨hi,f⟩:=(c i a).mp q
  refine⟨λz=>?_,.inl ⟨i,hi,f⟩⟩;obtain⟨y,l,_,n⟩:=A.ow i (ds[i]'(A.mem i hi)) hi (by simp[A.mem i hi]);rw[f]at l;cases l;exact n z
 ·obtain⟨i,hi,f⟩:=q
  obtain⟨y,l,w,n⟩:=A.ow i (ds[i]'(A.mem i hi)) hi (by simp[A.mem i hi]);rw[f]at l;cases l;obtain⟨o,q,_⟩:=w.soft;exact⟨o,q⟩
def Sx{N ps:List Sb}{vs:List V}{Q:VK}{E:XK}(t:ps.length<=N.length)(h:spV K ml ps.length (a8 N.length ml g) vs H Q E):V5 K ml g {nx:=λ_ H'=>Q .non H',rt:=Q} (start N vs) H:=by
 obtain⟨Z,ds,r,os,B,AV,c,k⟩:=h;obtain⟨q,n,G⟩:=J6 (N:=N) AV (by rw[B];exact t);unfold a8 at c;obtain⟨o,h1,c⟩:=Aa.mp c;refine⟨_,q,_,o,G,h1,?_⟩;have fin:∀(δ':Ev) (v:V) (f:St) (H':Hp) (p:Nat->Option Sa),SV ml δ'=b3 os->aI K ml ⟨Z,VW ml vs,H,q,[]⟩ p H' f δ'->bB K (rz ⟨Z,VW ml vs,H,q,[]⟩) H' (rz ⟨Z,VW ml vs,H,q,[]⟩) v r->Q v H':=λδ' v f H' p A l m=>by
  have hz:∀a,Zp Z ml vs a->rz ⟨Z,VW ml vs,H,q,[]⟩ a:=λa h=>by
   rcases h with h|⟨i,hi,e⟩
   ·exact .inl h
   ·exact .inr ⟨i,(n i a).mpr ⟨hi,e⟩⟩
  refine k v H' l.frm (λkk i a o z F D=>?_) (m.mono hz hz);have hd:=FW A kk i o z D;obtain⟨I,y,_,w⟩:=l.ow i o hd;have hi:i∈ml:=Cm z;have:=(l.par.2 i hi).trans ((n i a).mpr ⟨hi,F⟩)
  rw[this]at y;cases y;refine w.mono λb u=>?_;rcases u with u|⟨j,x,C⟩
  ·exact .inl u
  ·exact .inr ⟨j,(l.par.2 j x).trans ((n j b).mpr ⟨x,C⟩)⟩
 cases o with
 |rt d δ'=>
  have c:(SV ml δ').map (λos=>(d,os))=b3 (r,os):=c;cases h2:SV ml δ' with
  |none=>rw[h2]at c;cases c
  |some s=>
   rw[h2]at c;cases c;exact λv f H' p l m=>fin δ' v f H' p h2 l m
 |nx δ'=>
  have c:(SV ml δ').map (λos=>(cT.non,os))=b3 (r,os):=c;cases h2:SV ml δ' with
  |none=>rw[h2]at c;cases c
  |some s=>
   rw[h2]at c;cases c;exact λf H' p l=>fin δ' .non f H' p h2 l .non
 |bk δ'=>cases c
 |ct δ'=>cases c
def OY.okV{P:Az}{w:Sg}{mg:Sb->Option Rz}{base:Si}{x qual:Sb}{st:Sj}{f:Sa}{fd:Ch}{N ps:List Sb}{k:Nat}(F:OY K x qual st f fd)(S:aA N ps (cJ st))(b:ps.length<=N.length)(e:∀(a:Rz) (A:Cb) (outer:List Env) (s:Ad) (H:Hp) (E:XK),Z4 k (A.deeper (envOfC qual (cJ st) s.heap.objs.size f a))->W1 (TK CX0 P w K mg base N qual (cJ st) f a A outer s H E).nox (bH st) (V5 K ml g)):YV P w K mg base CX0 (k+1) f fd ps (spV K ml ps.length (a8 N.length ml g)):=by refine F.ok S (λvs H Q E h=>?_) (λa A outer s H vs Q E c h=>⟨_,e a A outer s H E c,Sx b h⟩);obtain⟨Z,ds,r,os,d,AV,_⟩:=h;rw[AV.len,d]
noncomputable def LU:List (Option Nat)->List cT->Nat->Option (List cT)
 |some k::_,ds,0=>b3 (ds.take k)
 |none::sh,_::ds,j+1=>LU sh ds j
 |some k::sh,ds,j+1=>LU sh (ds.drop k) j
 |_,_,_=>b5
theorem P9.getL{sub:Sa->Option (List V)}{N:Sa->Prop}:∀{xs vs:List V}{sh:List (Option Nat)}{ds es:List cT}{j:Nat},P9 sub xs sh vs->b6 K N H vs ds->LU sh ds j=b3 es->∃p zs,xs[j]?=b3 (.ref p)/\sub p=b3 zs/\b6 K N H zs es
 |_,_,_,_,_,_,.nil,_,h=>by simp[LU]at h
 |_,_,_,_,_,0,.val _ _,_,h=>by simp[LU]at h
 |_,_,_,_,_,j+1,.val _ t,.cons _ r,h=>by obtain⟨p,zs,d,c,b⟩:=P9.getL (j:=j) t r (by simpa[LU]using h);exact⟨p,zs,by simpa using d,c,b⟩
 |_,_,_,ds,_,0,.lst (p:=p) (zs:=zs) hs _ _,r,h=>by
  simp only[LU,Oj]at h;subst h;have:=r.take zs.length
  rw[Gz]at this;exact⟨p,zs,rfl,hs,this⟩
 |_,_,_,ds,_,j+1,.lst (zs:=zs) _ _ t,r,h=>by
  have:=r.drop zs.length
  rw[Fq]at this;obtain⟨p,a,d,c,b⟩:=P9.getL (j:=j) t this (by simpa[LU]using h);exact⟨p,a,by simpa using d,c,b⟩
def part(δ:Ev)(j k:Nat):Option cT:=match δ[j]? with
 |some (.ow (.nst sh ds))=>(LU sh ds k).map cT.lst
 |_=>b5
def UU{j k:Nat}(h:part δ j k=b3 d):∃sh ds es,δ[j]?=b3 (.ow (.nst sh ds))/\LU sh ds k=b3 es/\d=.lst es:=by
 unfold part at h;split at h
 ·rename_i sh ds e
  obtain⟨es,h1,h2⟩:=An.mp h;exact⟨sh,ds,es,e,h1,h2.symm⟩
 ·cases h
inductive AV where
 |d (d:cT)|o (j:Nat)|p (j k:Nat)
inductive XZ(K:Ag)(N:Sa->Prop)(H:Hp)(σ:St):List V->List AV->Prop
 |nil:XZ K N H σ [] []
 |d {v:V}{vs:List V}{d:cT}{as:List AV}:bB K N H N v d->XZ K N H σ vs as->XZ K N H σ (v::vs) (.d d::as)
 |o {v:V}{vs:List V}{j:Nat}{as:List AV}:σ[j]?=b3 (b3 v)->XZ K N H σ vs as->XZ K N H σ (v::vs) (.o j::as)
 |p {v:V}{vs us:List V}{j k:Nat}{x:Sa}{sub:Sa->Option (List V)}{as:List AV}:σ[j]?=b3 (b3 (.ref x))->H x=b3 (.nst us sub)->us[k]?=b3 v->XZ K N H σ vs as->XZ K N H σ (v::vs) (.p j k::as)
abbrev WO:=Ev->Option (List AV×Ev)
structure ResG(K:Ag)(ml:List Nat)(B:Bs)(O:Nat->Option Sa)(H:Hp)(σ:St)(pu:Bool)(H':Hp)(δ':Ev)(vs:List V)(as:List AV):Prop where
 sta:aI K ml B O H' σ δ'
 frm:Fr (OA O) H H'
 pur:pu=ba->aM H H'
 rep:XZ K (Nn B O) H' σ vs as
inductive TAGi(K:Ag)(ml:List Nat)(pu:Bool)(f:WO)(σ:St)(H:Hp)(Q:List V->Hp->Prop):Prop
 |mk (B:_) (O:_) (δ:_) (as:_) (δ':_) (h0:aI K ml B O H σ δ) (h1:f δ=b3 (as,δ')) (h2:∀vs H',ResG K ml B O H σ pu H' δ' vs as->Q vs H'):TAGi K ml pu f σ H Q
def KM(K:Ag)(ml:List Nat)(pu:Bool)(f:WO):TA:=λσ H Q=>TAGi K ml pu f σ H Q
def bZ:WO:=λδ=>b3 ([],δ)
noncomputable def aE(f:VF)(fs:WO):WO:=λδ=>(f δ).bind λp=>(fs p.2).map λq=>(.d p.1::q.1,q.2)
noncomputable def slot(δ:Ev)(j:Nat):Option cT:=match δ[j]? with
 |some (.va d)=>b3 d
 |some (.ow d)=>b3 d
 |_=>b5
def aO(j:Nat)(fs:WO):WO:=λδ=>(slot δ j).bind λ_=>(fs δ).map λq=>(.o j::q.1,q.2)
def cL:PA X [] (KM K ml ba bZ):=ZX.imp λσ H Q a=>by obtain⟨B,O,δ,d,δ',S,q,k⟩:=a;cases q;exact k [] H ⟨S,Fr.refl _ _,λ_=>aM.refl _,.nil⟩
def cM{fs:WO}(j:PE X a (TV K ml pa ba ba fa))(i:PA X es (KM K ml ps fs))(h:SE X a es:=by rfl):PA X (a::es) (KM K ml (pa&&ps) (aE fa fs)):=(bL j i h).imp λσ H Q e=>by obtain⟨B,O,δ,as,c,S,q,k⟩:=e;unfold aE at q;obtain⟨⟨x,δ1⟩,h1,q⟩:=Aa.mp q;have q:((fs δ1).map λq=>(AV.d x::q.1,q.2))=b3 (as,c):=q;obtain⟨p2,h2,q⟩:=An.mp q;cases q;refine⟨B,O,δ,x,δ1,S,h1,λl H1 b=>⟨B,O,δ1,_,_,b.sta,h2,λvs H2 R2=>k _ H2 ⟨R2.sta,b.frm.trans R2.frm,λz=>?_,.d (b.rep.fr R2.frm (λa z=>.inr z) λa z=>.inr z) R2.rep⟩⟩⟩;obtain⟨g,f⟩:=(Af _ _).mp z;exact(b.pur g).trans (R2.pur f)
def J5{j:Nat}{d:cT}(h:slot δ j=b3 d):δ[j]?=b3 (.va d)∨δ[j]?=b3 (.ow d):=by
 unfold slot at h;split at h
 ·cases h;exact .inl (by assumption)
 ·cases h;exact .inr (by assumption)
 ·cases h
def aI.slot(S:aI K ml B O H σ δ){j:Nat}{d:cT}(h:slot δ j=b3 d):∃v,σ[j]?=b3 (b3 v):=by
 rcases J5 h with h|h
 ·obtain⟨v,e,_⟩:=S.va j d h
  exact⟨v,e⟩
 ·obtain⟨a,_,e,_⟩:=S.ow j d h
  exact⟨_,e⟩
def aY{fs:WO}{j:Nat}(h:PE X a (ZH j))(g:PA X es (KM K ml ps fs))(f:SE X a es:=by rfl):PA X (a::es) (KM K ml ps (aO j fs)):=(bL h g f).imp λσ H Q c=>by obtain⟨B,O,δ,as,b,S,q,k⟩:=c;unfold aO at q;obtain⟨d,h1,q⟩:=Aa.mp q;have q:((fs δ).map λq=>(AV.o j::q.1,q.2))=b3 (as,b):=q;obtain⟨p2,h2,q⟩:=An.mp q;cases q;obtain⟨v,e⟩:=S.slot h1;exact⟨v,e,B,O,δ,_,_,S,h2,λvs H2 R2=>k _ H2 ⟨R2.sta,R2.frm,R2.pur,.o e R2.rep⟩⟩
theorem XZ.length:∀{N:Sa->Prop}{vs:List V}{as:List AV},XZ K N H σ vs as->vs.length=as.length
 |_,_,_,.nil=>rfl
 |_,_,_,.d _ t=>congrArg (· +1) (XZ.length t)
 |_,_,_,.o _ t=>congrArg (· +1) (XZ.length t)
 |_,_,_,.p _ _ _ t=>congrArg (· +1) (XZ.length t)
theorem XZ.getD:∀{N:Sa->Prop}{vs:List V}{as:List AV}{i:Nat}{d:cT},XZ K N H σ vs as->as[i]?=b3 (.d d)->∃v,vs[i]?=b3 v/\bB K N H N v d
 |_,_,_,_,_,.nil,e=>by simp at e
 |_,_,_,0,_,.d h _,e=>by simp at e;subst e;exact⟨_,rfl,h⟩
 |_,_,_,0,_,.o h _,e=>by simp at e
 |_,_,_,0,_,.p _ _ _ _,e=>by simp at e
 |_,_,_,i+1,_,.p _ _ _ t,e=>by obtain⟨u,h1,h2⟩:=XZ.getD (i:=i) t (by simpa using e);exact⟨u,by simpa using h1,h2⟩
 |_,_,_,i+1,_,.d _ t,e=>by obtain⟨u,h1,h2⟩:=XZ.getD (i:=i) t (by simpa using e);exact⟨u,by simpa using h1,h2⟩
 |_,_,_,i+1,_,.o _ t,e=>by obtain⟨u,h1,h2⟩:=XZ.getD (i:=i) t (by simpa using e);exact⟨u,by simpa using h1,h2⟩
theorem XZ.getP:∀{N:Sa->Prop}{vs:List V}{as:List AV}{i j k:Nat},XZ K N H σ vs as->as[i]?=b3 (.p j k)->∃v x us sub,vs[i]?=b3 v/\σ[j]?=b3 (b3 (.ref x))/\H x=b3 (.nst us sub)/\us[k]?=b3 v
 |_,_,_,_,_,_,.nil,e=>by simp at e
 |_,_,_,0,_,_,.d h _,e=>by simp at e
 |_,_,_,0,_,_,.o h _,e=>by simp at e
 |_,_,_,0,_,_,.p h1 h2 a _,e=>by simp at e;obtain⟨rfl,rfl⟩:=e;exact⟨_,_,_,_,rfl,h1,h2,a⟩
 |_,_,_,i+1,_,_,.d _ t,e=>by obtain⟨v,x,us,sub,h⟩:=XZ.getP (i:=i) t (by simpa using e);exact⟨v,x,us,sub,by simpa using h⟩
 |_,_,_,i+1,_,_,.o _ t,e=>by obtain⟨v,x,us,sub,h⟩:=XZ.getP (i:=i) t (by simpa using e);exact⟨v,x,us,sub,by simpa using h⟩
 |_,_,_,i+1,_,_,.p _ _ _ t,e=>by obtain⟨v,x,us,sub,h⟩:=XZ.getP (i:=i) t (by simpa using e);exact⟨v,x,us,sub,by simpa using h⟩
theorem XZ.getO:∀{N:Sa->Prop}{vs:List V}{as:List AV}{i j:Nat},XZ K N H σ vs as->as[i]?=b3 (.o j)->∃v,vs[i]?=b3 v/\σ[j]?=b3 (b3 v)
 |_,_,_,_,_,.nil,e=>by simp at e
 |_,_,_,0,_,.d h _,e=>by simp at e
 |_,_,_,0,_,.o h _,e=>by simp at e;subst e;exact⟨_,rfl,h⟩
 |_,_,_,0,_,.p _ _ _ _,e=>by simp at e
 |_,_,_,i+1,_,.p _ _ _ t,e=>by obtain⟨u,h1,h2⟩:=XZ.getO (i:=i) t (by simpa using e);exact⟨u,by simpa using h1,h2⟩
 |_,_,_,i+1,_,.d _ t,e=>by obtain⟨u,h1,h2⟩:=XZ.getO (i:=i) t (by simpa using e);exact⟨u,by simpa using h1,h2⟩
 |_,_,_,i+1,_,.o _ t,e=>by obtain⟨u,h1,h2⟩:=XZ.getO (i:=i) t (by simpa using e);exact⟨u,by simpa using h1,h2⟩
def argD(δ:Ev):AV->Option cT
 |.d d=>b3 d
 |.o j=>slot δ j
 |.p j k=>part δ j k
def WW(δ:Ev):List AV->Option (List cT)
 |[]=>b3 []
 |a::as=>(argD δ a).bind λd=>(WW δ as).map λds=>d::ds
theorem IT:∀{as:List AV}{ds:List cT},WW δ as=b3 ds->as.length=ds.length/\∀(i:Nat) (d:cT),ds[i]?=b3 d->∃a,as[i]?=b3 a/\argD δ a=b3 d
 |[],ds,h=>by cases h;exact⟨rfl,λi d e=>by simp at e⟩
 | a :: as,ds,h => by
  unfold WW at h;obtain⟨d,h1,h⟩:=Aa.mp h;cases h2:WW δ as with
  |none=>simp[h2]at h
  |some k=>
   simp only[Ay,h2]at h;cases h;obtain⟨l,g⟩:=IT h2;refine⟨by simp[l],λi e c=>?_⟩;cases i with
   |zero=>cases c;exact⟨a,rfl,h1⟩
   |succ i=>
    obtain⟨b,j,f⟩:=g i e (by simpa using c);exact⟨b,by simpa using j,f⟩
noncomputable def WF:List AV->List Nat
 |[]=>[]
 |.d _::as=>WF as
 |.o j::as=>j::WF as
 |.p j _::as=>j::WF as
theorem SK:∀{as:List AV}{i j:Nat},as[i]?=b3 (.o j)->j∈WF as
 |[],_,_,e=>by simp at e
 |.d _::as,0,j,e=>by simp at e
 |.o k::as,0,j,e=>by simp at e;subst e;exact Bj
 |.d _::as,i+1,j,e=>SK (as:=as) (i:=i) (by simpa using e)
 |.o k::as,i+1,j,e=>At _ (SK (as:=as) (i:=i) (by simpa using e))
 |.p _ _::as,0,j,e=>by simp at e
 |.p _ _::as,i+1,j,e=>At _ (SK (as:=as) (i:=i) (by simpa using e))
theorem PJ:∀{as:List AV}{i j k:Nat},as[i]?=b3 (.p j k)->j∈WF as
 |[],_,_,_,e=>by simp at e
 |.d _::as,0,j,_,e=>by simp at e
 |.o _::as,0,j,_,e=>by simp at e
 |.p a b::as,0,j,_,e=>by simp at e;rw[e.1];exact Bj
 |.d _::as,i+1,j,_,e=>PJ (as:=as) (i:=i) (by simpa using e)
 |.o k::as,i+1,j,_,e=>At _ (PJ (as:=as) (i:=i) (by simpa using e))
 |.p _ _::as,i+1,j,_,e=>At _ (PJ (as:=as) (i:=i) (by simpa using e))
theorem FI:∀{as:List AV}{j:Nat},j∈WF as->(∃i:Nat,as[i]?=b3 (AV.o j))∨∃i k:Nat,as[i]?=b3 (AV.p j k)
 |[],_,h=>nomatch h
 |.d _::as,j,h=>by
  rcases FI (as:=as) h with⟨i,e⟩|⟨i,k,e⟩
  ·exact .inl ⟨i+1,by simpa using e⟩
  ·exact .inr ⟨i+1,k,by simpa using e⟩
 | .o k :: as,j,h => by
  rcases Ar.mp h with e|e
  ·exact .inl ⟨0,by rw[e];rfl⟩
  ·rcases FI (as:=as) e with⟨i,e⟩|⟨i,k,e⟩
   ·exact .inl ⟨i+1,by simpa using e⟩
   ·exact .inr ⟨i+1,k,by simpa using e⟩
 | .p k b :: as,j,h => by
  rcases Ar.mp h with e|e
  ·exact .inr ⟨0,b,by rw[e];rfl⟩
  ·rcases FI (as:=as) e with⟨i,e⟩|⟨i,k,e⟩
   ·exact .inl ⟨i+1,by simpa using e⟩
   ·exact .inr ⟨i+1,k,by simpa using e⟩
theorem LV:∀{as:List AV}{i k j:Nat},(WF as).Nodup->as[i]?=b3 (.o j)->as[k]?=b3 (.o j)->i=k
 |[],_,_,_,_,e,_=>by simp at e
 |.d _::as,0,_,j,_,e,_=>by simp at e
 |.d _::as,_+1,0,j,_,_,e=>by simp at e
 |.d _::as,i+1,k+1,j,n,b,a=>congrArg (· +1) (LV (as:=as) n (by simpa using b) (by simpa using a))
 |.p _ _::as,0,_,j,_,e,_=>by simp at e
 |.p _ _::as,_+1,0,j,_,_,e=>by simp at e
 |.p _ _::as,i+1,k+1,j,n,b,a=>congrArg (· +1) (LV (as:=as) (Cj.mp n).2 (by simpa using b) (by simpa using a))
 |.o x::as,0,0,j,_,_,_=>rfl
 |.o x::as,0,k+1,j,n,b,a=>by
  simp at b;subst b;have h:as[k]?=b3 (.o x):=by simpa using a
  exact absurd (SK h) (Cj.mp n).1
 |.o x::as,i+1,0,j,n,b,a=>by
  simp at a;subst a;have h:as[i]?=b3 (.o x):=by simpa using b
  exact absurd (SK h) (Cj.mp n).1
 |.o x::as,i+1,k+1,j,n,b,a=>congrArg (· +1) (LV (as:=as) (Cj.mp n).2 (by simpa using b) (by simpa using a))
theorem M5:∀{as:List AV}{i k j b:Nat},(WF as).Nodup->as[i]?=b3 (.o j)->as[k]?=b3 (.p j b)->False
 |[],_,_,_,_,_,e,_=>by simp at e
 |.d _::as,0,_,_,_,_,e,_=>by simp at e
 |.d _::as,_+1,0,_,_,_,_,e=>by simp at e
 |.d _::as,i+1,k+1,j,b,n,c,a=>M5 (as:=as) (i:=i) (k:=k) n (by simpa using c) (by simpa using a)
 |.o x::as,0,0,_,_,_,_,e=>by simp at e
 |.o x::as,0,k+1,j,b,n,c,a=>by
  simp at c;subst c;have h:as[k]?=b3 (.p x b):=by simpa using a
  exact absurd (PJ h) (Cj.mp n).1
 |.o x::as,_+1,0,_,_,_,_,e=>by simp at e
 |.o x::as,i+1,k+1,j,b,n,c,a=>M5 (as:=as) (i:=i) (k:=k) (Cj.mp n).2 (by simpa using c) (by simpa using a)
 |.p x y::as,0,_,_,_,_,e,_=>by simp at e
 |.p x y::as,i+1,0,j,b,n,c,a=>by
  simp at a;obtain⟨rfl,_⟩:=a;have h:as[i]?=b3 (.o x):=by simpa using c
  exact absurd (SK h) (Cj.mp n).1
 |.p x y::as,i+1,k+1,j,b,n,c,a=>M5 (as:=as) (i:=i) (k:=k) (Cj.mp n).2 (by simpa using c) (by simpa using a)
noncomputable def BL(δ:Ev)(as:List AV)(i:Nat):Bool:=match as[i]? with
 |some (.o j)=>match δ[j]? with
  |some (.ow _)=>ba
  |_=>bb
 |_=>bb
noncomputable def X2(mF:List Nat):List AV->Nat->Bool
 |[],_=>ba
 |.d _::as,i=>X2 mF as (i+1)
 |.o _::as,i=>decide (i∈mF)&&X2 mF as (i+1)
 |.p _ _::_,_=>bb
theorem RG{mF:List Nat}:∀{as:List AV}{k i j b:Nat},X2 mF as k=ba->as[i]? ≠b3 (.p j b)
 |[],_,_,_,_,_=>by simp
 |.d _::as,k,0,j,_,_=>by simp
 |.o _::as,k,0,j,_,_=>by simp
 |.p _ _::_,_,_,_,_,h=>by simp[X2]at h
 |.d _::as,k,i+1,j,_,h=>by
  have:=RG (as:=as) (k:=k+1) (i:=i) (j:=j) (b:=by assumption) h
  simpa using this
 |.o _::as,k,i+1,j,_,h=>by
  simp only[X2,Af]at h;have:=RG (as:=as) (k:=k+1) (i:=i) (j:=j) (b:=by assumption) h.2
  simpa using this
theorem RF{mF:List Nat}:∀{as:List AV}{k i j:Nat},X2 mF as k=ba->as[i]?=b3 (.o j)->k+i∈mF
 |[],_,_,_,_,e=>by simp at e
 |.d _::as,k,0,j,h,e=>by simp at e
 |.p _ _::_,_,_,_,h,_=>by simp[X2]at h
 |.o _::as,k,0,j,h,e=>by simp only[X2,Af,decide_eq_true_eq]at h;exact h.1
 |.d _::as,k,i+1,j,h,e=>by
  have:=RF (as:=as) (k:=k+1) (i:=i) (j:=j) h (by simpa using e)
  rwa[show k+(i+1)=k+1+i by lia]
 |.o _::as,k,i+1,j,h,e=>by
  simp only[X2,Af]at h;have:=RF (as:=as) (k:=k+1) (i:=i) (j:=j) h.2 (by simpa using e)
  rwa[show k+(i+1)=k+1+i by lia]
def PK:cT->Bool
 |.lst ds=>QX ds
 |.dct _ ds=>QX ds
 |.nst _ ds=>QX ds
 |.flt _ _ _ _ ds=>QX ds
 |_=>bb
def R7.kids{N N':Sa->Prop}{a:Sa}(w:R7 K N H a d)(h:PK d=ba):R7 K N' H a d:=by
 cases w with
 |lst q r=>exact .lst q (r.hard h)
 |dct q r=>exact .dct q (r.hard h)
 |nst q r=>exact .nst q (r.hard h)
 |flt q r=>exact .flt q (r.hard h)
noncomputable def UW(as:List AV):List Nat->List cT->Ev->Ev
 |i::is,o::os,δ=>match as[i]? with
  |some (.o j)=>UW as is os (δ.set j (.ow o))
  |_=>UW as is os δ
 |_,_,δ=>δ
theorem PY{as:List AV}:∀{is:List Nat}{os:List cT}{δ:Ev},(UW as is os δ).length=δ.length
 |[],_,_=>rfl
 |_::_,[],_=>rfl
 |i::is,o::os,δ=>by
  unfold UW;split
  ·rw[PY,Dg]
  ·rw[PY]
theorem ME{as:List AV}:∀{is:List Nat}{os:List cT}{δ:Ev}(j:Nat),is.length=os.length->j<δ.length->(∃(k i:Nat) (o:cT),is[k]?=b3 i/\os[k]?=b3 o/\as[i]?=b3 (AV.o j)/\(UW as is os δ)[j]?=b3 (Sl.ow o))∨((∀i∈is,as[i]? ≠b3 (AV.o j))/\(UW as is os δ)[j]?=δ[j]?)
 |[],[],δ,j,_,_=>.inr ⟨(λi h=>nomatch h),rfl⟩
 | i :: is,o :: os,δ,j,hl,d => by
  unfold UW;split
  ·rename_i g l
   rcases ME (is:=is) (os:=os) (δ:=δ.set g (.ow o)) j (by simpa using hl) (by rw[Dg];exact d)with⟨k,a,o',h1,h2,f,e⟩|⟨h1,h2⟩
   ·exact .inl ⟨k+1,a,o',by simpa using h1,by simpa using h2,f,e⟩
   ·by_cases b:j=g
    ·subst b
     rw[Cw d]at h2;exact .inl ⟨0,i,o,rfl,rfl,l,h2⟩
    ·rw[By (Dl b)]at h2
     refine .inr ⟨λa c=>?_,h2⟩;rcases Ar.mp c with z|z
     ·rw[z,l]
      intro w;cases w;exact b rfl
     ·exact h1 a z
  ·rename_i m
   rcases ME (is:=is) (os:=os) (δ:=δ) j (by simpa using hl) d with⟨k,a,o',h1,h2,f,e⟩|⟨h1,h2⟩
   ·exact .inl ⟨k+1,a,o',by simpa using h1,by simpa using h2,f,e⟩
   ·refine .inr ⟨λa c => ?_,h2⟩
    rcases Ar.mp c with z|z
    ·rw[z]
     exact λw=>m j w
    ·exact h1 a z
def T7(mF:List Nat)(as:List AV)(δ:Ev):Bool:=mF.all (BL δ as)&&decide (WF as).Nodup
def U3(mF:List Nat)(as:List AV)(r:cT)(os:List cT):Bool:=(X2 mF as 0 || r.hard)&&(X2 mF as 0 || os.all PK)&&decide (mF.length=os.length)
def cE(n:Nat)(mF:List Nat)(F:cB)(fs:WO):VF:=λδ=>(fs δ).bind λp=>(WW p.2 p.1).bind λds=>if ds.length=n/\T7 mF p.1 p.2=ba then(F ds).bind λq=>if U3 mF p.1 q.1 q.2=ba then b3 (q.1,UW p.1 mF q.2 p.2)else b5 else b5
def VT{n:Nat}{mF:List Nat}{F:cB}{fs:WO}{Q:VK}(h:TV K ml (ps && mF.isEmpty) ba ba (cE n mF F fs) σ H Q):CG (spV K mF n F) [] E0 (KM K ml ps fs) σ H Q:=by
 obtain⟨B,O,δ,d,P,S,q,k⟩:=h;unfold cE at q;obtain⟨⟨as,δ1⟩,h1,q⟩:=Aa.mp q;have q:((WW δ1 as).bind λds=>if ds.length=n/\T7 mF as δ1=ba then(F ds).bind λq=>if U3 mF as q.1 q.2=ba then b3 (q.1,UW as mF q.2 δ1)else b5 else b5)=b3 (d,P):=q;obtain⟨ds,h2,q⟩:=Aa.mp q;have q:(if ds.length=n/\T7 mF as δ1=ba then(F ds).bind λq=>if U3 mF as q.1 q.2=ba then b3 (q.1,UW as mF q.2 δ1)else b5 else b5)=b3 (d,P):=q;split at q
 ·rename_i hc
  obtain⟨⟨r,os⟩,h3,q⟩:=Aa.mp q;have q:(if U3 mF as r os=ba then b3 (r,UW as mF os δ1)else b5)=b3 (d,P):=q;split at q
  ·rename_i V
   cases q;obtain⟨hn,hc⟩:=hc;simp only[T7,Af,decide_eq_true_eq,Fe]at hc;simp only[U3,Af,decide_eq_true_eq]at V;obtain⟨hmu,hnd⟩:=hc;obtain⟨⟨gj,gx⟩,ai⟩:=V;refine⟨B,O,δ,as,δ1,S,h1,λvs H1 R=>?_⟩;show spV K mF n F (vs++[]) H1 Q E0;rw[Bi];obtain⟨W,X⟩:=IT h2;have N:∀i∈mF,∃j a x,as[i]?=b3 (.o j)/\δ1[j]?=b3 (.ow x)/\O j=b3 a/\vs[i]?=b3 (.ref a)/\R7 K (Nn B O) H1 a x:=λi hi=>by
    have:=hmu i hi
    unfold BL at this;split at this
    ·rename_i j ej
     split at this
     ·rename_i x ex
      obtain⟨a,c,m,w⟩:=R.sta.ow j x ex;obtain⟨v,l,C⟩:=R.rep.getO ej;rw[m]at C;cases C;exact⟨j,a,x,ej,ex,c,l,w⟩
     ·cases this
    ·cases this
   have hP:∀a,VW mF vs a->∃i j,i∈mF/\as[i]?=b3 (.o j)/\O j=b3 a:=λa q0=>by obtain⟨i,hi,e⟩:=q0;obtain⟨j,a',x,c,_,m,l,_⟩:=N i hi;rw[e]at l;cases l;exact⟨i,j,hi,c,m⟩
   have U:∀a,VW mF vs a->OA O a:=λa h=>by obtain⟨i,j,_,_,e⟩:=hP a h;exact⟨j,e⟩
   have A:∀a,Zp (λa=>Nn B O a/\∀j∈WF as,O j≠b3 a) mF vs a->Nn B O a:=λa h=>by
    rcases h with h|h
    ·exact h.1
    ·exact .inr (U a h)
   refine⟨λa=>Nn B O a/\∀j∈WF as,O j≠b3 a,ds,_,os,hn,⟨by rw[<-W,R.rep.length],λi hi=>?_,λi x hi e=>?_,λi x hi e=>?_,λi j a hi Z c m=>?_,λa h=>R.sta.nin h.1⟩,h3,λv H2 f2 w2 r2=>?_⟩
   ·obtain⟨j,a,x,c,_⟩:=N i hi
    rw[<-W];exact(Ai.mp c).1
   ·obtain⟨a,c,m⟩:=X i x e
    cases a with
    |d y=>
     cases m;obtain⟨v,l,r⟩:=R.rep.getD c;exact⟨v,l,r.mono A A⟩
    |o j=>
     obtain⟨v,l,C⟩:=R.rep.getO c;refine⟨v,l,?_⟩;rcases J5 m with D|D
     ·obtain⟨v',E,r⟩:=R.sta.va j x D
      rw[C]at E;cases E;exact r.mono A A
     ·obtain⟨a,M,E,w⟩:=R.sta.ow j x D
      rw[C]at E;cases E;refine(w.mono A).rep λz=>?_;rcases z with z|z
      ·exact z.2 j (SK c) M
      ·obtain⟨T,g,f,L,J⟩:=hP a z
       have:j=g:=R.sta.inj j g a M J
       subst this;have:=LV hnd c L
       subst this;exact hi f
    |p j b=>
     obtain⟨v,y,us,sub,l,C,D,E⟩:=R.rep.getP c;obtain⟨sh,ds1,es,M,L,rfl⟩:=UU m;obtain⟨y',J,t,w⟩:=R.sta.ow j _ M;rw[C]at t;cases t;cases w with
     |nst q r=>
      obtain⟨us',ci,s,ow,sp⟩:=q;rw[D]at s;cases s;obtain⟨p,zs,G,Y,rz⟩:=sp.getL r L;rw[E]at G;cases G;refine⟨_,l,.fzm (xs:=zs) (.inr (.inl ⟨y,us,sub,ow p zs Y,D,λz=>?_,Y⟩)) (rz.mono A)⟩;rcases z with z|z
      ·exact z.2 j (PJ c) J
      ·obtain⟨T,g,f,e14,e15⟩:=hP y z
       have:j=g:=R.sta.inj j g y J e15
       subst this;exact M5 hnd e14 c
   ·obtain⟨a,c,m⟩:=X i x e
    obtain⟨j,b,y,l,C,D,E,w⟩:=N i hi;rw[l]at c;cases c;have M:slot δ1 j=b3 y:=by unfold slot;rw[C]
    have m:slot δ1 j=b3 x:=m;rw[M]at m;cases m;exact⟨b,E,w.mono A,λz=>z.2 j (SK l) D⟩
   ·obtain⟨j1,b1,_,l,_,C,D,_⟩:=N i hi
    obtain⟨j2,b2,_,E,_,M,L,_⟩:=N j Z;rw[c]at D;cases D;rw[m]at L;cases L;have:j1=j2:=R.sta.inj j1 j2 a C M
    subst this;exact LV hnd l E
   ·have S2:aI K ml B O H2 σ (UW as mF os δ1):=by
     refine R.sta.call PY (λj=>?_) f2 U;by_cases Z:j<δ1.length
     ·rcases ME (as:=as) (is:=mF) (os:=os) (δ:=δ1) j ai Z with⟨kk,i,o,c,m,l,C⟩|⟨c,m⟩
      ·obtain⟨g,a,x,D,_,E,M,_⟩:=N i (Cm c)
       rw[l]at D;cases D;have w:=w2 kk i a o c M m;refine .inr ⟨a,o,E,C,?_⟩;rcases(Je _ _).mp gx with z|z
       ·refine w.mono λb V => ?_
        by_cases I:∃g∈WF as,O g=b3 b
        ·obtain⟨g,u,L⟩:=I
         obtain⟨T,J⟩:=(FI u).resolve_right λ⟨_,_,e⟩=>RG z e;have f:=RF z J;rw[Li]at f;obtain⟨j'',a'',_,t,_,s,G,_⟩:=N T f;rw[J]at t;cases t;rw[L]at s;cases s;exact .inr ⟨T,f,G⟩
        ·exact .inl ⟨V,λg u e=>I ⟨g,u,e⟩⟩
       ·exact w.kids (Fe.mp z o (Cm m))
      ·refine .inl ⟨m,λa ea hPa => ?_⟩
       obtain⟨i,g,hi,l,C⟩:=hP a hPa;have:j=g:=R.sta.inj j g a ea C
       subst this;exact c i hi l
     ·refine .inl ⟨?_,λa ea => ?_⟩
      ·rw[Dz (by rw[PY];lia),Dz (by lia)]
      ·obtain⟨x,ex⟩:=R.sta.dom j a ea
       exact absurd (Ai.mp ex).1 Z
    refine k v H2 ⟨S2,R.frm.trans (f2.mono U),λz=>?_,?_⟩
    ·obtain⟨z1,z2⟩:=(Af _ _).mp z
     refine(R.pur z1).trans λb o e=>f2 b o e λw=>?_;obtain⟨i,hi,_⟩:=w;rw[List.isEmpty_iff.mp z2]at hi;cases hi
    ·rcases(Je _ _).mp gj with z|z
     ·have hN : ∀ a,Nn B O a -> Zp (λa => Nn B O a /\ ∀ j ∈ WF as,O j ≠ b3 a) mF vs a := λb V => by
       by_cases I:∃g∈WF as,O g=b3 b
       ·obtain⟨g,u,L⟩:=I
        obtain⟨T,J⟩:=(FI u).resolve_right λ⟨_,_,e⟩=>RG z e;have f:=RF z J;rw[Li]at f;obtain⟨j'',a'',_,t,_,s,G,_⟩:=N T f;rw[J]at t;cases t;rw[L]at s;cases s;exact .inr ⟨T,f,G⟩
       ·exact .inl ⟨V,λg u e=>I ⟨g,u,e⟩⟩
      exact r2.mono hN hN
     ·exact r2.hard z
  ·cases q
 ·cases q
def Zq{x:Sb}{kk j n:Nat}{qs:List Sb}{mF:List Nat}{F:cB}{ff:Sa}{p':Pos}{fs:WO}(i:X.K=K)(D:Def X.prog X.w K X.mg X.base x kk qs (spV K mF n F) ff)(c:Z4 j X.A)(hk:kk<=j)(d:Gl X x)(g:PA X (e::es) (KM K ml ps fs))(b:ND x:=by decide)(f:SE X e es:=by rfl)(a:(Ct pos (Ap es X.env)).any (·.1)=bb:=by rfl):PE X (.Call (.Name x p') (e::es) [] pos) (TV K ml (ps&&mF.isEmpty) ba ba (cE n mF F fs)):=by subst i;exact(PU D c hk d g b f a).imp λ_ _ _ h=>VT h
end
section
variable{X:Cx}{K:Ag}{ml:List Nat}{e a b c:Sf}{es:List Sf}{pi pt pe pu bt bi ps bs:Bool}{f:VF}{B B':Bs}{O:Nat->Option Sa}{H H0 H1 H':Hp}{σ:St}{δ δ':Ev}{v:V}{d:cT}{p:Sa}{pos:Pos}{ix:List Nat}{nl:Nat}
def Z8(ix:List Nat)(δ:Ev):Ev:=ix.map λi=>(δ[i]?).getD .no
def K2(nl:Nat):Ev:=Aj nl Sl.no
noncomputable def ZJ(n nl:Nat)(gg:VG)(tb:VB)(fe:VF):List cT->List cT->Ev->Option (List cT×Ev)
 |[],acc,δ=>b3 (acc,δ)
 |d::r,acc,δ=>(gg d (δ++K2 nl)).bind λδ1=>(tb δ1).bind λp=>if p.1=ba then(fe p.2).bind λq=>if acc.length<16777216 then ZJ n nl gg tb fe r (acc++[q.1]) (q.2.take n)else b5 else ZJ n nl gg tb fe r acc (p.2.take n)
noncomputable def YO:List Nat->Ev->Ev->Ev
 |i::is,s::ss,δ=>match s with
  |.ow d=>YO is ss (δ.set i (.ow d))
  |_=>YO is ss δ
 |_,_,δ=>δ
def W5(ix:List Nat)(nl:Nat)(fi:VI)(gg:VG)(tb:VB)(fe:VF):VF:=λδ=>(fi δ).bind λp=>(ZJ ix.length nl gg tb fe p.1 [] (Z8 ix p.2)).map λq=>(.lst q.1,YO ix q.2 p.2)
def U2:VB:=λδ=>b3 (ba,δ)
theorem N4:∀{ix:List Nat}{ss δ:Ev},(YO ix ss δ).length=δ.length
 |[],_,_=>rfl
 |_::_,[],_=>rfl
 |i::is,s::ss,δ=>by
  cases s<;>simp only[YO]<;>rw[N4]<;>try rw[Dg]
theorem RH:∀{ix:List Nat}{ss δ:Ev}(i:Nat),i<δ.length->ix.length=ss.length->(∃(j:Nat) (d:cT),ix[j]?=b3 i/\ss[j]?=b3 (Sl.ow d)/\(YO ix ss δ)[i]?=b3 (Sl.ow d))∨((∀(j:Nat) (d:cT),ix[j]?=b3 i->ss[j]? ≠b3 (Sl.ow d))/\(YO ix ss δ)[i]?=δ[i]?)
 |[],ss,δ,i,hi,hl=>.inr ⟨(λj d h=>by simp at h),rfl⟩
 |k::is,[],δ,i,hi,hl=>by cases hl
 | k :: is,s :: ss,δ,i,hi,hl => by
  have a:is.length=ss.length:=by simpa using hl
  cases s with
  |ow d=>
   simp only[YO];rcases RH (ix:=is) (ss:=ss) (δ:=δ.set k (.ow d)) i (by rw[Dg];exact hi) a with⟨j,d',h1,h2,b⟩|⟨h1,h2⟩
   ·exact .inl ⟨j+1,d',by simpa using h1,by simpa using h2,b⟩
   ·by_cases hk:i=k
    ·subst hk
     rw[Cw hi]at h2;exact .inl ⟨0,d,rfl,rfl,h2⟩
    ·rw[By (Dl hk)]at h2
     refine .inr ⟨λj d' e=>?_,h2⟩;cases j with
     |zero=>cases e;exact absurd rfl hk
     |succ j=>simpa using h1 j d' (by simpa using e)
  |va d=>
   simp only[YO];rcases RH (ix:=is) (ss:=ss) (δ:=δ) i hi a with⟨j,d',h1,h2,b⟩|⟨h1,h2⟩
   ·exact .inl ⟨j+1,d',by simpa using h1,by simpa using h2,b⟩
   ·refine .inr ⟨λj d' e => ?_,h2⟩
    cases j with
    |zero=>simp
    |succ j=>simpa using h1 j d' (by simpa using e)
  |no=>
   simp only[YO];rcases RH (ix:=is) (ss:=ss) (δ:=δ) i hi a with⟨j,d',h1,h2,b⟩|⟨h1,h2⟩
   ·exact .inl ⟨j+1,d',by simpa using h1,by simpa using h2,b⟩
   ·refine .inr ⟨λj d' e => ?_,h2⟩
    cases j with
    |zero=>simp
    |succ j=>simpa using h1 j d' (by simpa using e)
def Oc(ix:List Nat)(O:Nat->Option Sa):Nat->Option Sa:=λj=>(ix[j]?).bind O
def Bc(ix:List Nat)(B:Bs)(O:Nat->Option Sa)(H0:Hp)(D:Sa)(kp:List (V×cT)):Bs:=
 ⟨λa=>(B.Z a∨a=D)∨∃i,O i=b3 a/\i∉ix,OA (Oc ix O),H0,Oc ix O,kp⟩
def NS{D:Sa}{kp:List (V×cT)}:∀a,Nn (Bc ix B O H0 D kp) (Oc ix O) a->Nn B O a∨a=D:=λa h=>by
 rcases h with((h|h)|⟨i,h,_⟩)|⟨j,h⟩
 ·exact .inl (.inl h)
 ·exact .inr h
 ·exact .inl (.inr ⟨i,h⟩)
 ·unfold Oc at h
  cases q:ix[j]? with
  |none=>rw[q]at h;cases h
  |some i=>rw[q]at h;exact .inl (.inr ⟨i,h⟩)
def DQ{D:Sa}{kp:List (V×cT)}:∀a,Nn (B.add D) O a->Nn (Bc ix B O H0 D kp) (Oc ix O) a:=λa h=>by
 rcases h with h|⟨i,h⟩
 ·exact .inl (.inl h)
 ·by_cases hi:i∈ix
  ·obtain⟨j,b⟩:=Lu.mp hi
   exact .inr ⟨j,by unfold Oc;rw[b];exact h⟩
  ·exact .inl (.inr ⟨i,h,hi⟩)
def aI.withKp{kp:List (V×cT)}(S:aI K ml B O H σ δ)(h:∀p∈kp,bB K (Nn B O) H (Nn B O) p.1 p.2):aI K ml {B with kp:=kp} O H σ δ:=
 ⟨S.len,S.va,S.ow,S.dom,S.inj,S.old,S.zin,S.frm,S.par,S.pin,h⟩
def aI.writeZ{D:Sa}{o:HO}{acc:List V}(S:aI K ml B O H σ δ)(k:B.Z D)(hl:H D=b3 (.lst acc))(m:B.H0 D=b5):aI K ml B O (upd H D o) σ δ:=by
 have j:Fr (λb=>b=D) H (upd H D o):=⟨λb u q n=>by
  by_cases c:b=D
  ·subst c
   rw[hl]at q;cases q;exact absurd (n rfl) λz=>z
  ·rw[cH c]
   exact q,(NZ.of hl).upd⟩
 have g:∀b,b=D->Nn B O b:=λb z=>.inl (z▸k);have f:∀b,(∃u,H b=b3 u)->∃u,upd H D o b=b3 u:=λb q0=>by
  obtain⟨u,q⟩:=q0;by_cases c:b=D
  ·exact⟨o,by rw[c];exact cG⟩
  ·exact⟨u,by rw[cH c];exact q⟩
 refine⟨S.len,λi d q=>?_,λi d q=>?_,S.dom,S.inj,S.old,λb h=>f b (S.zin b h),⟨λb u q n=>?_,λb _ _ _ _ _ _ _ _ h=>let ⟨_,_,e⟩:=S.frm.ft _ _ _ _ _ _ _ _ _ h;(NZ.of hl).upd _ _ _ _ _ _ _ _ _ e⟩,S.par,λb h=>f b (S.pin b h),λp l=>(S.kep p l).fr j g g⟩
 ·obtain⟨v,e,r⟩:=S.va i d q
  exact⟨v,e,r.fr j g g⟩
 ·obtain⟨a,e,s,w⟩:=S.ow i d q
  exact⟨a,e,s,w.fr j g λz=>(S.old i a e).1 (z▸k)⟩
 ·have c : b ≠ D := λz => by rw [z,m]at q;cases q
  rw[cH c];exact S.frm b u q n
def JE{j:Nat}{s:Sl}(h:(Z8 ix δ++K2 nl)[j]?=b3 s):(∃i,ix[j]?=b3 i/\s=(δ[i]?).getD .no)∨s=.no:=by
 unfold Z8 K2 at h;by_cases a:j<ix.length
 ·rw [Ah (by simpa using a),Ef]at h
  cases q:ix[j]? with
  |none=>rw[q]at h;cases h
  |some i=>rw[q]at h;cases h;exact .inl ⟨i,rfl,rfl⟩
 ·rw [Am (by simpa using a),Dk]at h
  split at h
  ·cases h;exact .inr rfl
  ·cases h
def EX{i j:Nat}{v:V}(hi:ix[j]?=b3 i)(h:σ[i]?=b3 (b3 v)):(YB ix σ++Aj nl b5)[j]?=b3 (b3 v):=by have a:j<ix.length:=(Ai.mp hi).1;unfold YB;rw[Ah (by simpa using a),Ef,hi];show b3 ((σ[i]?).join)=_;rw[h];rfl
def aI.inner{D:Sa}(S:aI K ml B O H0 σ δ)(b:H0 D=b5)(hnd:ix.Nodup){m:List (V×cT)}(hk:∀p∈m,bB K (Nn B O) H0 (Nn B O) p.1 p.2):
  aI K (Cq ix.length) (Bc ix B O H0 D m) (Oc ix O) (upd H0 D (.lst [])) (YB ix σ++Aj nl b5) (Z8 ix δ++K2 nl) where
 len:=by simp[YB,Z8,K2]
 va := λj d e => by
  rcases JE e with⟨i,hi,q⟩|q
  ·have q:δ[i]? =b3 (.va d):=by
    cases w:δ[i]? with
    |none=>rw[w]at q;cases q
    |some s=>rw[w]at q;rw[show s=.va d from q.symm]
   obtain⟨v,c,r⟩:=S.va i d q;exact⟨v,EX hi c,(r.away b _ _ NS NS).same (cK b)⟩
  ·cases q
 ow := λj d e => by
  rcases JE e with⟨i,hi,q⟩|q
  ·have q:δ[i]? =b3 (.ow d):=by
    cases w:δ[i]? with
    |none=>rw[w]at q;cases q
    |some s=>rw[w]at q;rw[show s=.ow d from q.symm]
   obtain⟨a,c,g,w⟩:=S.ow i d q;refine⟨a,by unfold Oc;rw[hi];exact c,EX hi g,?_⟩;cases w with
   |lst f r=>exact .lst (cK b _ _ f) ((r.away b _ _ NS).same (cK b))
   |dct f r=>exact .dct (cK b _ _ f) ((r.away b _ _ NS).same (cK b))
   |nst f r=>exact .nst (f.same (cK b)) ((r.away b _ _ NS).same (cK b))
   |flt f r=>exact .flt (f.same (cK b)) ((r.away b _ _ NS).same (cK b))
  ·cases q
 dom:=λj a e=>by unfold Oc at e;obtain⟨i,hi,e⟩:=Aa.mp e;obtain⟨d,q⟩:=S.dom i a e;refine⟨d,?_⟩;have x:j<ix.length:=(Ai.mp hi).1;unfold Z8;rw[Ah (by simpa using x),Ef,hi];show b3 ((δ[i]?).getD .no)=_;rw[q];rfl
 inj:=λj k a c g=>by
  unfold Oc at c g;cases hi:ix[j]? with
  |none=>rw[hi]at c;cases c
  |some i=>
   cases hk:ix[k]? with
   |none=>rw[hk]at g;cases g
   |some t=>
    rw[hi]at c;rw[hk]at g;have:i=t:=S.inj i t a c g
    subst this;obtain⟨A,q1⟩:=Ai.mp hi;obtain⟨y,q2⟩:=Ai.mp hk;exact(Pk hnd).mp (q1.trans q2.symm)
 old:=λj a e=>by
  have l:=e;unfold Oc at l;cases hi:ix[j]? with
  |none=>rw[hi]at l;cases l
  |some i=>
   rw[hi]at l;refine⟨λz=>?_,.inl ⟨j,e⟩⟩;rcases z with(z|z)|⟨t,z,n⟩
   ·exact(S.old i a l).1 z
   ·obtain⟨o,q⟩:=S.nin (.inr ⟨i,l⟩)
    rw[z,b]at q;cases q
   ·have:i=t:=S.inj i t a l z
    subst this;exact n (Cm hi)
 zin:=λa h=>by
  rcases h with(h|h)|⟨i,h,_⟩
  ·obtain⟨o,q⟩:=S.zin a h
   exact⟨o,cK b _ _ q⟩
  ·exact⟨_,by rw[h];exact cG⟩
  ·obtain⟨o,q⟩:=S.nin (.inr ⟨i,h⟩)
   exact⟨o,cK b _ _ q⟩
 frm:=(cK b).fr
 par:=⟨λj a e=>by
  have e:(ix[j]?).bind O=b3 a:=e;cases hi:ix[j]? with
  |none=>rw[hi]at e;cases e
  |some i=>exact Fj.mpr (Ai.mp hi).1,λj _=>rfl⟩
 pin:=λa q0=>by obtain⟨j,e⟩:=q0;unfold Oc at e;obtain⟨i,hi,e⟩:=Aa.mp e;obtain⟨o,q⟩:=S.nin (.inr ⟨i,e⟩);exact⟨o,cK b _ _ q⟩
 kep:=λp u=>((hk p u).away b _ _ NS NS).same (cK b)
def aI.turn{l:Nat->Option Sa}{f:St}{n:Nat}{m:St}(S:aI K (Cq n) B l H f δ)(C:∀j,n<=j->B.mu j=b5)(x:m.length=n)(o:f.take n=m)(D:n<=δ.length):aI K (Cq n) B B.mu H (m++Aj nl b5) (δ.take n++K2 nl):=by
 have z:∀j,j<n->l j=B.mu j:=λj b=>S.par.2 j (Fj.mpr b);have c:∀j a,B.mu j=b3 a->l j=b3 a:=λj a e=>by rw[z j (Fj.mp (S.par.1 j a e))];exact e
 have g:∀a,Nn B B.mu a->Nn B l a:=λa h=>by
  rcases h with h|⟨j,h⟩
  ·exact .inl h
  ·exact .inr ⟨j,c j a h⟩
 have y:∀(j:Nat) (s:Sl),(δ.take n++K2 nl)[j]?=b3 s->(j<n/\δ[j]?=b3 s)∨s=.no:=λj s h=>by
  have hl:(δ.take n).length=n:=by rw[Dj];lia
  by_cases b:j<n
  ·rw [Ah (by rw [hl];exact b),Dd b]at h
   exact .inl ⟨b,h⟩
  ·unfold K2 at h
   rw[Am (by rw[hl];lia),Dk]at h;split at h
   ·cases h;exact .inr rfl
   ·cases h
 have u:∀(j:Nat) (v:V),j<n->f[j]?=b3 (b3 v)->(m++Aj nl b5)[j]?=b3 (b3 v):=λj v b e=>by rw[Ah (by rw[x];exact b),<-o,Dd b];exact e
 refine⟨?_,λj d e=>?_,λj d e=>?_,λj a e=>?_,λj k a i t=>S.inj j k a (c j a i) (c k a t),λj a e=>S.old j a (c j a e),S.zin,S.frm,⟨S.par.1,λj _=>rfl⟩,S.pin,λp A=>(S.kep p A).mono g g⟩
 ·simp[x,K2,Dj]
  lia
 ·rcases y j _ e with⟨b,e⟩|e
  ·obtain⟨v,i,r⟩:=S.va j d e
   exact⟨v,u j v b i,r.mono g g⟩
  ·cases e
 ·rcases y j _ e with⟨b,e⟩|e
  ·obtain⟨a,i,t,w⟩:=S.ow j d e
   exact⟨a,(z j b)▸i,u j _ b t,w.mono g⟩
  ·cases e
 ·have b:=Fj.mp (S.par.1 j a e)
  obtain⟨d,q⟩:=S.dom j a (c j a e);refine⟨d,?_⟩;rw[Ah (by rw[Dj];lia),Dd b];exact q
def R9(ix:List Nat)(σ:St):(YB ix σ).length=ix.length:=by simp[YB]
def nb{a:St}(hl:ix.length<=a.length)(h:∀i∈Cq ix.length,a[i]?=(YB ix σ++Aj nl b5)[i]?):a.take ix.length=YB ix σ:=by
 refine List.ext_getElem? λj=>?_;by_cases b:j<ix.length
 ·rw[Dd b,h j (Fj.mpr b),Ah (by rw[R9];exact b)]
 ·rw[Dz (by rw[Dj];lia),Dz (by rw[R9];lia)]
def gI{a:St}(m3:∀i∈Cq ix.length,a[i]?=(YB ix σ++Aj nl b5)[i]?):ix.length<=a.length:=by
 by_cases hz:ix.length=0
 ·lia
 ·have b : ix.length-1 < ix.length := by lia
  have:=m3 (ix.length-1) (Fj.mpr b)
  have c:(YB ix σ++Aj nl b5)[ix.length-1]? ≠b5:=by rw[Ah (by rw[R9];exact b)];simp[YB,b]
  rw[<-this]at c;have d:ix.length-1<a.length:=Nat.lt_of_not_le λz=>c (List.getElem?_eq_none_iff.mpr z);lia
def iB(K:Ag)(J:It)(a:List (V×cT))(ds:List cT)(H0:Hp)(b:Bool):Prop:=∀(N:Sa->Prop) (H:Hp),(∀p∈a,bB K N H N p.1 p.2)->(b=ba->aM H0 H)->
 (∀(i:Nat) (d:cT),ds[i]?=b3 d->J.go i H/\∀x H',J.yld i H x H'->aM H H'/\bB K N H' N x d)/\J.stop ds.length H
inductive TIVq(K:Ag)(ml:List Nat)(pu b:Bool)(f:VI)(σ:St)(H:Hp)(R:It->Hp->Prop):Prop
 |mk (B:_) (O:_) (δ:_) (ds:_) (δ':_) (h0:aI K ml B O H σ δ) (h1:f δ=b3 (ds,δ')) (h2:∀J kps H',aI K ml {B with kp:=kps++B.kp} O H' σ δ'->Fr (OA O) H H'->(pu=ba->aM H H')->iB K J kps ds H' b->R J H'):TIVq K ml pu b f σ H R
def j6{fi:VI}{gg:VG}{tb:VB}{fe:VF}(hnd:ix.Nodup){Q:VK}(h:TN K ml (pi&&pt&&pe) (W5 ix nl fi gg tb fe) σ H Q):Ti ix nl (TIVq K ml pi (pt&&pe) fi) (TGV K (Cq ix.length) gg) (TB K (Cq ix.length) pt tb) (TV K (Cq ix.length) pe ba ba fe) σ H Q:=by
 obtain⟨B,O,δ,d,δ2,S,q,k⟩:=h;unfold W5 at q;obtain⟨⟨ds,δ1⟩,h1,q⟩:=Aa.mp q;have q:((ZJ ix.length nl gg tb fe ds [] (Z8 ix δ1)).map λq=>(cT.lst q.1,YO ix q.2 δ1))=b3 (d,δ2):=q;obtain⟨⟨res,l⟩,h2,q⟩:=An.mp q;cases q;refine⟨B,O,δ,ds,δ1,S,h1,λJ f H0 y f0 p0 wk D u=>?_⟩;have hDO:∀j,Oc ix O j≠b3 D:=λj e=>by unfold Oc at e;obtain⟨i,hi,e⟩:=Aa.mp e;obtain⟨o,q⟩:=y.nin (.inr ⟨i,e⟩);rw[u]at q;cases q
 have eh:∀kp j,ix.length<=j->(Bc ix B O H0 D kp).mu j=b5:=λkp j T=>by show(ix[j]?).bind O=b5;rw[Dz T];rfl
 refine⟨λi m acc H1=>m=ds.length-i/\i<=ds.length/\∃(g:List cT) (c:Ev),c.length=ix.length/\acc.length=g.length∧
   aI K (Cq ix.length) (Bc ix B O H0 D (f++acc.zip g)) (Oc ix O) H1 (YB ix σ++Aj nl b5) (c++K2 nl)/\H1 D=b3 (.lst acc)/\((pt&&pe)=ba->aM H0 H1)∧
   ZJ ix.length nl gg tb fe (ds.drop i) g c=b3 (res,l),
  ⟨ds.length,rfl,Ee _,[],Z8 ix δ1,by simp[Z8],rfl,by rw[List.zip_nil_left,Bi];exact y.unkeep.inner u hnd λp t=>y.kep p (Bo _ t),cG,λ_=>cK u,h2⟩,?_⟩
 rintro i m acc H1 ⟨rfl,hi,g,c,R,X,N,I,d9,hc⟩;have w:=wk (Nn (Bc ix B O H0 D (f++acc.zip g)) (Oc ix O)) H1 (λp t=>N.kep p (Bo _ t)) d9;by_cases F:i<ds.length
 ·obtain ⟨go,yl⟩ := w.1 i ds[i] (by simp [F])
  rw[Gy F]at hc;simp only[ZJ]at hc;obtain⟨P,g1,hc⟩:=Aa.mp hc;obtain⟨⟨kk,s⟩,g2,hc⟩:=Aa.mp hc;refine .inr ⟨go,λbp H'=>∃(g:List cT) (c:Ev),c.length=ix.length/\bp.length=g.length∧
   aI K (Cq ix.length) (Bc ix B O H0 D (f++bp.zip g)) (Oc ix O) H' (YB ix σ++Aj nl b5) (c++K2 nl)/\H' D=b3 (.lst bp)/\((pt&&pe)=ba->aM H0 H')∧
   ZJ ix.length nl gg tb fe (ds.drop (i+1)) g c=b3 (res,l),λbp H' w'=>⟨ds.length-(i+1),by lia,rfl,F,w'⟩,λx H2 hy=>?_⟩
  obtain⟨Y,rx⟩:=yl x H2 hy;refine⟨_,_,_,ds[i],P,N.same Y,rx,g1,λσ3 O3 S3 m3=>?_⟩;have E:=gI m3;have r:=nb E m3;refine⟨r,_,_,P,kk,s,S3,g2,λH4 L=>?_⟩;have W:H4 D=b3 (.lst acc):=L.frm _ _ (Y _ _ I) λz=>by
   obtain⟨j,e⟩:=z;have:=(L.sta.old j D e).1
   exact absurd (.inl (.inr rfl)) this
  have ln4:ix.length<=s.length:=by rw[<-L.sta.len];exact E
  cases kk with
  |false=>
   rw[if_neg Ea]at hc;refine HL ⟨g,s.take ix.length,by rw[Dj];lia,X,L.sta.turn (eh _) (R9 ix σ) r ln4,W,λz=>?_,hc⟩;exact((d9 z).trans Y).trans (L.pur ((Af _ _).mp z).1)
  |true=>
   rw[if_pos rfl]at hc;obtain⟨⟨dv,C⟩,g3,hc⟩:=Aa.mp hc;split at hc
   ·rename_i hz
    refine HM ⟨_,_,s,dv,C,L.sta,g3,λv H5 A=>?_⟩;have V:H5 D=b3 (.lst acc):=A.frm _ _ W λz=>by
     obtain⟨j,e⟩:=z;have:=(A.sta.old j D e).1
     exact absurd (.inl (.inr rfl)) this
    have ln5:ix.length<=C.length:=by rw[<-A.sta.len];exact E
    have S6:=A.sta.turn (nl:=nl) (eh _) (R9 ix σ) r ln5;have hv:bB K (Nn (Bc ix B O H0 D (f++acc.zip g)) (Oc ix O)) H5 (Nn (Bc ix B O H0 D (f++acc.zip g)) (Oc ix O)) v dv:=by
     have hN:∀a,Nn (Bc ix B O H0 D (f++acc.zip g)) (Oc ix O) a->av (Bc ix B O H0 D (f++acc.zip g)) O3 ba a:=λa h=>by
      rcases h with h|⟨j,h⟩
      ·exact .inl h
      ·refine .inr ⟨j,?_⟩
       have T:j∈Cq ix.length:=A.sta.par.1 j a h;rw[A.sta.par.2 j T];exact h
     exact A.rep.mono hN hN
    have S7:=S6.withKp (kp:=f++(acc++[v]).zip (g++[dv])) λp t=>by
     rw[List.zip_append X,<-Av]at t;rcases Ci.mp t with z|z
     ·exact S6.kep p z
     ·rw[Al.mp (show p∈[(v,dv)] from z)]
      exact hv
    refine⟨V,by rw[X,Ce];exact hz,g++[dv],C.take ix.length,by rw[Dj];lia,by simp[X],?_,cG,λz=>?_,hc⟩
    ·exact S7.writeZ (.inl (.inr rfl)) V u
    ·intro b o e
     have G:b≠D:=λz=>by rw[z,u]at e;cases e
     rw[cH G];obtain⟨z1,z2⟩:=(Af _ _).mp z;exact(((d9 z).trans Y).trans ((L.pur z1).trans (A.pur z2))) b o e
   ·cases hc
 ·have e : i = ds.length := by lia
  subst e;rw[Lb]at hc;cases hc;refine .inl ⟨w.2,k D H1 ?_⟩;have fP:Fr (OA (Oc ix O)) H0 H1:=N.frm;have U:∀a,OA (Oc ix O) a->OA O a:=λa q0=>by
   obtain⟨j,e⟩:=q0;unfold Oc at e;cases hi:ix[j]? with
   |none=>rw[hi]at e;cases e
   |some i=>rw[hi]at e;exact⟨i,e⟩
  have SL:=y.unkeep.laid (o:=.lst acc) u;have fL:Fr (OA (Oc ix O)) (upd H0 D (.lst acc)) H1:=⟨λb o e n=>by
   by_cases G:b=D
   ·subst G
    rw[cG]at e;cases e;exact I
   ·rw[cH G]at e
    exact fP b o e n,λb _ _ _ _ _ _ _ _ e=>by
   by_cases G:b=D
   ·subst G
    rw[cG]at e;cases e
   ·rw[cH G]at e
    exact fP.ft _ _ _ _ _ _ _ _ _ e⟩
  refine⟨SL.call (N4) (λi=>?_) fL U,f0.trans (fP.mono U),λz=>?_,.lst I (UL X λp t=>(N.kep p (Bt _ t)).mono DQ DQ),y.unkeep.new u,y.fresh u⟩
  ·by_cases eo:i<δ1.length
   ·rcases RH (ix:=ix) (ss:=l) (δ:=δ1) i eo R.symm with⟨j,x,e1,Z,e3⟩|⟨e1,Z⟩
    ·have e4:(l++K2 nl)[j]? =b3 (.ow x):=by rw[Ah (Ai.mp Z).1];exact Z
     obtain⟨a,e5,_,w⟩:=N.ow j x e4;refine .inr ⟨a,x,?_,e3,w.mono DQ⟩;unfold Oc at e5;rw[e1]at e5;exact e5
    ·refine .inl ⟨Z,λa ea ⟨j,M⟩ => ?_⟩
     obtain⟨x,ex⟩:=N.dom j a M;unfold Oc at M;cases hi:ix[j]? with
     |none=>rw[hi]at M;cases M
     |some i'=>
      rw[hi]at M;have:i=i':=y.inj i i' a ea M
      subst this;have T:j<l.length:=by rw[R];exact(Ai.mp hi).1
      rw[Ah T]at ex;exact e1 j x hi ex
   ·refine .inl ⟨?_,λa ea => ?_⟩
    ·rw[Dz (by rw[N4];lia),Dz (by lia)]
    ·obtain⟨x,ex⟩:=y.dom i a ea
     exact absurd (Ai.mp ex).1 eo
  ·simp only[Af]at z
   exact(p0 z.1.1).trans (d9 (by simp[z.1.2,z.2]))
def cX{fi:VI}{gg:VG}{tb:VB}{fe:VF}(hnd:ix.Nodup){Q:VK}(h:TN K ml (pi&&pt&&pe) (W5 ix nl fi gg tb fe) σ H Q):Ti ix nl (TIV K ml pi fi) (TGV K (Cq ix.length) gg) (TB K (Cq ix.length) pt tb) (TV K (Cq ix.length) pe ba ba fe) σ H Q:=
 let ⟨B,O,δ,ds,δ',S,e,k⟩:=j6 hnd h
 ⟨B,O,δ,ds,δ',S,e,λJ a H' b f p w=>k J a H' b f p λN H1 z _=>w N H1 z⟩
def jr{Q:Bool->Hp->Prop}(h:TB K ml ba U2 σ H Q):tYes σ H Q:=by obtain⟨B,O,δ,k,δ',S,q,w⟩:=h;cases q;exact w H (ResB.refl S)
def Tu{Y:Cx}{t:VB}(h:PT Y c (TB K ml pt t)):PTs Y [c] (TB K ml pt t):=mI h
def VD{Y:Cx}:PTs Y [] (TB K ml ba U2):=λaa s σ H Q I hw=>gQ aa s σ H Q I (jr hw)
end
abbrev aL(P:Az)(w:Sg)(K:Ag)(mg:Sb->Option Rz)(base:Si)(x:Sb)(k:Nat)(ps:List Sb)(mF:List Nat)(F:cB)(f:Sa):Prop:=Def P w K mg base x k ps (spV K mF ps.length F) f
section
variable{X:Cx}{K:Ag}{ml:List Nat}{e a b c:Sf}{es:List Sf}{pa ta ia pb tb ib pc tc ic pu bt bi ps bs:Bool}{fa fb fc f:VF}{B B':Bs}{O:Nat->Option Sa}{H H0 H1 H':Hp}{σ:St}{δ δ':Ev}{v:V}{d:cT}{p:Sa}{pos:Pos}
def b4{x:Sb}(a:Gl X x)(h:∃u v,X.mg x=b3 u/\bA v u/\∀N H M,bB K N H M v d)(hd:ND x:=by decide):PE X (.Name x pos) (TV K ml ba ba ba (fC d)):=by obtain⟨u,v,h1,h2,b⟩:=h;exact AF (hW a h1 h2 hd) b
def Xm(K:Ag):R2:=λx y H Q=>∃a b xs ys,x=.ref a/\y=.ref b/\UO K H a xs/\UO K H b ys/\xs.length+ys.length<=sizeLine∧
 (xs=[]->Q (.ref b) H)/\(xs≠[]->ys=[]->Q (.ref a) H)/\(xs≠[]->ys≠[]->∀p,H p=b5->Q (.ref p) (upd H p (.tup (xs++ys))))
def fR:WV X (Fh .Add) (Xm X.K):=by
 intro aa s σ H x y v u Q I t r h;obtain⟨a,b,xs,ys,rfl,rfl,C,B,hz,q0,q1,q2⟩:=h;cases t;cases r;obtain⟨its,g,l,_⟩:=I.tuple C;obtain⟨E,f,p2,_⟩:=I.tuple B;by_cases i:xs=[]
 ·subst i
  have D:its=[]:=g.nil_iff.mpr rfl;subst D;obtain⟨⟨cls,dd,data,p⟩,m,hc,n,hd⟩:=id l;obtain⟨⟨G,k,data2,j⟩,c,e,A,d⟩:=id p2;simp only at hc hd e d;subst hc hd e d;exact Lo ⟨_,m,rfl⟩ ⟨_,c,rfl⟩ Kz Ng Hx Hq (Hi _ _)
   (tuple_addW0 a b _ E.toArray n A dd k p j (by simp)) ⟨m,c,⟨.ref b,H,I,rfl,q0 rfl⟩⟩
 ·refine HT.zHW l p2 (λz => i (g.nil_iff.mp z)) (λz => ⟨.ref a,H,I,rfl,q1 i (f.nil_iff.mp z)⟩) (λz => ?_) (by rw [<- g.length,<- f.length];exact hz)
  refine⟨.ref s.heap.objs.size,_,I.laid (t':=s.toks) (o:=.tup (xs++ys)) (λb F q=>Ae _ q) (Ax _) ?_,rfl,q2 i (λw=>z (f.nil_iff.mpr w)) _ (I.hok.fresh (Ax _))⟩;exact⟨by rw[Ao];exact hz,_,g.append f,Kg _ _⟩
def Uv(K:Ag):R2:=λx y H Q=>∃l b xs zs,x=.ref l/\y=.ref b/\XV K H l xs/\XV K H b zs/\xs.length+zs.length<=sizeLine/\∀p,H p=b5->Q (.ref p) (upd H p (.lst (xs++zs)))
def eT:WV X (Fh .Add) (Uv X.K):=by
 intro aa s σ H x y v u Q I p o h;obtain⟨l,b,xs,zs,rfl,rfl,z,A,hz,q⟩:=h;cases p;cases o;obtain⟨its,r,t,_⟩:=I.list z;obtain⟨i,j,p2,_⟩:=I.list A;obtain⟨⟨cls,dd,data,m⟩,n,k,hc,_,hd⟩:=id t;obtain⟨⟨C,g,data2,e⟩,w,a,d,_,c⟩:=id p2;simp only at hc hd d c;subst hc hd d c;have B:its.toArray++i.toArray=(its++i).toArray:=by simp
 have hl:=r.length;have f:=j.length;refine Lo ⟨_,k,rfl⟩ ⟨_,a,rfl⟩ noFill_list_add seq_list_add PySem.F.slot_list_add PySem.F.entry_list_add (PySem.F.args_list_add_2 _ _) (list_addW l b its.toArray i.toArray n w dd g m e (by rw[Ak,Ak,<-hl,<-f];exact hz)) ⟨k,a,?_⟩;rw[B];exact⟨.ref _,_,I.lnew (t':=s.toks) (r.append j) (by rw[Ao];lia),rfl,q _ I.fresh⟩
def Ut(K:Ag):R2:=λx y H Q=>((DZ (λi j=>.int (i+j)) x y H Q∨Xm K x y H Q)∨Uv K x y H Q)∨∃i j,x=.str i/\y=.str j/\i.length+j.length<=sizeLine/\Q (.str (i++j)) H
def ZZ(h:X.K=K:=by rfl):WV X (Fh .Add) (Ut K):=by subst h;exact((zKW.or fR).or eT).or DS
noncomputable def aR:cT->cT->Option cT
 |.int i,.int j=>b3 (.int (i+j))
 |.tup ds,.tup es=>if ds.length+es.length<=16777216 then b3 (.tup (ds++es))else b5
 |.lst ds,.lst es=>if ds.length+es.length<=16777216 then b3 (.lst (ds++es))else b5
 |.str x,.str y=>if x.length+y.length<=16777216 then b3 (.str (x++y))else b5
 |_,_=>b5
def bB.tupE{N M:Sa->Prop}{ds:List cT}(h:bB K N H M v (.tup ds)):∃a xs,v=.ref a/\UO K H a xs/\b6 K N H xs ds:=by
 cases h.onT with
 |tup q r=>exact⟨_,_,rfl,q,r⟩
def bB.lstE{N M:Sa->Prop}{ds:List cT}(h:bB K N H M v (.lst ds)):∃a xs,v=.ref a/\XV K H a xs/\b6 K N H xs ds:=by
 cases h.onL with
 |lst q n r=>exact⟨_,_,rfl,XV.of q,r⟩
 |fzm q r=>exact⟨_,_,rfl,q.sq,r⟩
def aU:OpC K (Ut K) aR:=by
 intro H N M M' x y d e c Q n m h k;cases d with
 |int i=>
  cases e with
  |int j=>
   cases h;cases n.onI;cases m.onI;exact .inl (.inl (.inl ⟨_,_,rfl,rfl,k _ _ (aM.refl _) λ_ _=>.int _⟩))
  |_=>cases h
 |str i=>
  cases e with
  |str j=>
   simp only[aR]at h;split at h
   ·cases h
    cases n.onS;cases m.onS;exact .inr ⟨_,_,rfl,rfl,by rw[Ce];assumption,k _ _ (aM.refl _) λ_ _=>.str _⟩
   ·cases h
  |_=>cases h
 |tup ds=>
  cases e with
  |tup es=>
   simp only[aR]at h;split at h
   ·rename_i hz
    cases h;obtain⟨a,xs,rfl,q1,g⟩:=n.tupE;obtain⟨b,ys,rfl,q2,f⟩:=m.tupE;refine .inl (.inl (.inr ⟨a,b,xs,ys,rfl,rfl,q1,q2,by rw[g.length,f.length,Ce];exact hz,λz=>?_,λt s=>?_,λt s p l=>?_⟩))
    ·subst z
     have:ds=[]:=Kq.mp g.length.symm
     subst this;exact k _ _ (aM.refl _) λM r=>.tup q2 f
    ·subst s
     have:es=[]:=Kq.mp f.length.symm
     subst this;rw[Bi]at k;exact k _ _ (aM.refl _) λM r=>.tup q1 g
    ·exact k _ _ (cK l) λM r=>.tup (UO.of cG) ((g.append f).same (cK l))
   ·cases h
  |_=>cases h
 |lst ds=>
  cases e with
  |lst es=>
   simp only[aR]at h;split at h
   ·rename_i hz
    cases h;obtain⟨a,xs,rfl,q1,g⟩:=n.lstE;obtain⟨b,ys,rfl,q2,f⟩:=m.lstE;exact .inl (.inr ⟨a,b,xs,ys,rfl,rfl,q1,q2,by rw[g.length,f.length,Ce];exact hz,λp l=>k _ _ (cK l) λM r=>.lst cG (λz=>by obtain⟨o,q⟩:=r _ z;rw[l]at q;cases q) ((g.append f).same (cK l))⟩)
   ·cases h
  |_=>cases h
 |_=>cases h
def Vm:Ag->R2:=λ_=>rI CMul λi j=>.int (i*j)
def QM(h:X.K=K:=by rfl):WV X (Fh .Mult) (Vm K):=hU
abbrev SS:=oMul
def T6:OpC K (Vm K) SS:=by intro H N M M' x y d e c Q b a h k;exact eV H N N M M' x y d e c Q b a h λv f=>k v H (aM.refl _) λM _=>f _ _ _
noncomputable def U8:cT->Option aQ
 |.int i=>b3 (.inl i)
 |.str x=>b3 (.inr x)
 |_=>b5
def bB.key{N M:Sa->Prop}{k:aQ}(h:bB K N H M v d)(e:U8 d=b3 k):v=kV k:=by
 cases h<;>first
  |(cases e;rfl)
  |cases e
noncomputable def bJ(ks:List aQ)(ds:List cT)(k:aQ):Option cT:=match ks,ds with
 |k'::ks,d::ds=>if k'=k then b3 d else bJ ks ds k
 |_,_=>b5
theorem PL{N:Sa->Prop}{k:aQ}:∀{kvs:List (aQ×V)}{ds:List cT},b6 K N H (kvs.map Fb) ds->(∃v d,RA kvs k=b3 v/\bJ (kvs.map Ed) ds k=b3 d/\bB K N H N v d)∨(RA kvs k=b5/\bJ (kvs.map Ed) ds k=b5)
 |[],_,.nil=>.inr ⟨rfl,rfl⟩
 | (k',v) :: kvs,_,.cons h t => by
  by_cases hk:k'=k
  ·refine .inl ⟨v,_,P5 (p:=(k',v)) hk,?_,h⟩
   simp[bJ,hk]
  ·rcases PL (k:=k) t with⟨a,d',h1,h2,b⟩|⟨h1,h2⟩
   ·exact .inl ⟨a,d',(SX (p:=(k',v)) hk).trans h1,by simpa[bJ,hk]using h2,b⟩
   ·exact .inr ⟨(SX (p:=(k',v)) hk).trans h1,by simpa[bJ,hk]using h2⟩
def iq(f:X.A.units+1<cLine):AN X (λx y H Q=>∃a v,x=.ref a/\NY H a y (b3 v)/\Q v H):=by intro value b aa s σ H x y v u Q I e d h i;obtain⟨a,w,rfl,g,q⟩:=h;cases e;exact Rb (E4 I g) PySem.F.slot_dict_getitem.lookup (gF f I g d λw' k j c=>⟨w,H,j,c,q⟩) i
def rIxA(K:Ag):R2:=λx y H Q=>(rIx K x y H Q∨∃a v,x=.ref a/\NY H a y (b3 v)/\Q v H)∨∃a k D v,x=.ref a/\y=.str k/\KTab K a D/\Fp k D=b3 v/\Q v H
def kIxA(a:X.A.units+1<cLine)(h:X.K=K:=by rfl):AN X (rIxA K):=by subst h;exact(zLH.or (iq a)).or lC
def bV:cT->cT->Option cT
 |.tup ds,.int i=>UR ds i
 |.lst ds,.int i=>UR ds i
 |.dct ks ds,e=>(U8 e).bind (bJ ks ds)
 |.str z,.int i=>if z.length<=16777216 then(UR z.cps.toList i).map λc=>.str ⟨#[c]⟩else b5
 |_,_=>b5
theorem N9{N:Sa->Prop}{k:Sb}:∀{D:List (Sb×V)}{ds:List cT},b6 K N H (D.map Fb) ds->(∃v d,Fp k D=b3 v/\bJ (D.map λp=>.inr p.1) ds (.inr k)=b3 d/\bB K N H N v d)∨(Fp k D=b5/\bJ (D.map λp=>.inr p.1) ds (.inr k)=b5)
 |[],_,.nil=>.inr ⟨rfl,rfl⟩
 | (k',v) :: D,_,.cons h t => by
  by_cases hk:k'=k
  ·subst hk
   exact .inl ⟨v,_,by simp[Fp],by simp[bJ],h⟩
  ·have a : ¬ k = k' := λz => hk z.symm
   rcases N9 (k:=k) t with⟨b,d',h1,h2,c⟩|⟨h1,h2⟩
   ·exact .inl ⟨b,d',by simpa[Fp,hk,a]using h1,by simpa[bJ,hk]using h2,c⟩
   ·exact .inr ⟨by simpa[Fp,hk,a]using h1,by simpa[bJ,hk]using h2⟩
theorem FM{i:Int}:∀{D:List (Sb×V)}{ds:List cT},bJ (D.map λp=>.inr p.1) ds (.inl i)=b5
 |[],_=>by simp[bJ]
 |_::_,[]=>by simp[bJ]
 |p::D,d::ds=>by simpa[bJ]using FM (D:=D) (ds:=ds)
def jP:OpI K (rIxA K) bV:=by
 intro H N N' M M' x y d e c Q g f h k;have seq:∀ds i,WZ d=b3 ds->e=.int i->UR ds i=b3 c->rIxA K x y H Q:=λds i h1 h2 b=>by
  subst h2;cases f.onI;obtain⟨a,xs,rfl,sq,r⟩:=g.seq h1;obtain⟨v,m,l⟩:=dE r b;rcases sq with sq|sq
  ·exact .inl (.inl (.inl ⟨a,xs,i,v,rfl,rfl,sq,m,k v l⟩))
  ·exact .inl (.inl (.inr (.inl ⟨a,xs,i,v,rfl,rfl,sq,m,k v l⟩)))
 cases d with
 |tup ds=>
  cases e with
  |int i=>exact seq ds i rfl rfl h
  |_=>cases h
 |lst ds=>
  cases e with
  |int i=>exact seq ds i rfl rfl h
  |_=>cases h
 |str z=>
  cases e with
  |int i=>
   simp only[bV]at h;split at h
   ·obtain⟨ch,hc,h⟩:=An.mp h
    cases h;cases g.onS;cases f.onI;exact .inl (.inl (.inr (.inr ⟨z,i,ch,rfl,rfl,by rw[Ce];assumption,hc,k _ (.str _)⟩)))
   ·cases h
  |_=>cases h
 |dct ks ds=>
  simp only[bV]at h;obtain⟨kk,hk,h⟩:=Aa.mp h;have h:bJ ks ds kk=b3 c:=h;have o:=f.key hk;subst o;cases g.onD with
  |dct q n r j=>
   subst j;rcases PL (k:=kk) r with⟨v,d',h1,h2,b⟩|⟨h1,h2⟩
   ·rw[h]at h2
    cases h2;exact .inl (.inr ⟨_,v,rfl,h1▸NY.k q,k v b⟩)
   ·rw[h]at h2;cases h2
  |ktb T r j=>
   subst j;cases kk with
   |inl i=>rw[FM]at h;cases h
   |inr x=>
    rcases N9 (k:=x) r with⟨v,d',h1,h2,b⟩|⟨h1,h2⟩
    ·rw[h]at h2
     cases h2;exact .inr ⟨_,x,_,v,rfl,rfl,T,h1,k v b⟩
    ·rw[h]at h2;cases h2
 |_=>cases h
noncomputable def WY(δ:Ev)(i:Nat):Option (List aQ×List cT):=match δ[i]? with
 |some (.ow (.dct ks ds))=>b3 (ks,ds)
 |_=>b5
def RO{i:Nat}{ks:List aQ}{ds:List cT}(h:WY δ i=b3 (ks,ds)):δ[i]?=b3 (.ow (.dct ks ds)):=by
 unfold WY at h;split at h
 ·cases h;assumption
 ·cases h
def HD(i:Nat)(fk fx:VF):VF:=λδ=>(WY δ i).bind λ_=>(fk δ).bind λp=>(fx p.2).bind λq=>(U8 p.1).bind λk=>(WY q.2 i).map λz=>((bJ z.1 z.2 k).getD q.1,q.2)
def Yq{i:Nat}{fk fx:VF}{af ae:Pos}(N:X.A.units+1<cLine)(j:PE X a (ZH i))(hk:PE X b (TV K ml pa ta ia fk))(M:PE X c (TV K ml pb ba ba fx))(m:M2 X a "get" af b c ae):
  PE X (.Call (.Attribute a "get" af) [b,c] [] ae) (TV K ml (pa&&pb) ba ba (HD i fk fx)):=(nJ N j hk M m).imp λσ H Q h=>by
 obtain⟨B,O,δ,d,E,S,q,k⟩:=h;unfold HD at q;cases s:WY δ i with
 |none=>rw[s]at q;cases q
 |some J=>
  obtain⟨g,x⟩:=J;rw[s]at q;cases h1:fk δ with
  |none=>simp[h1]at q
  |some L=>
   obtain⟨y,δ1⟩:=L;simp only[Ay,h1]at q;cases h2:fx δ1 with
   |none=>simp[h2]at q
   |some p2=>
    obtain⟨z,f⟩:=p2;simp only[Ay,h2]at q;cases p:U8 y with
    |none=>simp[p]at q
    |some kk=>
     simp only[Ay,p]at q;cases n:WY f i with
     |none=>simp[n]at q
     |some F=>
      obtain⟨ks,ds⟩:=F;simp only[n]at q;cases q;obtain⟨l,U,T,w⟩:=S.ow i _ (RO s);refine⟨.ref l,T,l,rfl,?_,B,O,δ,y,δ1,S,h1,λY H1 e=>⟨B,O,δ1,z,_,e.sta,h2,λW H2 R2=>?_⟩⟩
      ·generalize hw:cT.dct g x=dd at w
       cases w with
       |lst _ _=>cases hw
       |dct q _=>exact .inl ⟨_,.inl (.inl q)⟩
       |nst _ _=>cases hw
       |flt _ _=>cases hw
      ·have R:=e.rep.key p
       subst R;obtain⟨Z,D,_,C⟩:=R2.sta.ow i _ (RO n);rw[U]at D;cases D;have fin:∀o,bB K (Nn B O) H2 (Nn B O) (o:V) ((bJ ks ds kk).getD z)->Q o H2:=λo j=>k o H2 ⟨R2.sta,e.frm.trans R2.frm,λz=>by obtain⟨I,G⟩:=(Af _ _).mp z;exact(e.pur I).trans (R2.pur G),j⟩
       generalize hw:cT.dct ks ds=dd at C;cases C with
       |lst _ _=>cases hw
       |nst _ _=>cases hw
       |flt _ _=>cases hw
       |dct q r=>
        cases hw;refine⟨_,NY.k q,fin _ ?_⟩;rcases PL (k:=kk) r with⟨v,d',u,t,P⟩|⟨u,t⟩
        ·rw[u,t];exact P
        ·rw[u,t];exact R2.rep
noncomputable def YT:List aQ->List cT->aQ->cT->List aQ×List cT
 |k'::ks,d::ds,k,v=>if k'=k then(k'::ks,v::ds)else let r:=YT ks ds k v;(k'::r.1,d::r.2)
 |_,_,k,v=>([k],[v])
def J2(i:Nat)(fk fv:VF):VS:=λδ=>(fv δ).bind λp=>(WY p.2 i).bind λ_=>(fk p.2).bind λq=>(U8 q.1).bind λk=>(WY q.2 i).bind λz=>if z.1.length<16777216/\z.1.Nodup then b3 (.nx (q.2.set i (.ow (let r:=YT z.1 z.2 k p.1;.dct r.1 r.2))))else b5
theorem J1{N:Sa->Prop}{k:aQ}{v:V}(h:bB K N H N v d):∀{kvs:List (aQ×V)}{ds:List cT},(kvs.map Ed).Nodup->b6 K N H (kvs.map Fb) ds->(XR kvs k v).map Ed=(YT (kvs.map Ed) ds k d).1/\b6 K N H ((XR kvs k v).map Fb) (YT (kvs.map Ed) ds k d).2
 |[],_,_,.nil=>⟨rfl,.cons h .nil⟩
 | (k',u) :: kvs,_,a,.cons f t => by
  obtain⟨c,b⟩:=Cj.mp a;by_cases hk:k'=k
  ·subst hk
   have e:XR ((k',u)::kvs) k' v=(k',v)::kvs:=by
    unfold XR;rw[if_pos (by simp)];simp only[Be,if_true];congr 1;refine(List.map_congr_left λp g=>?_).trans (List.map_id _);have:p.1≠k':=λz=>c (Ek.mpr ⟨p,g,z⟩)
    simp[this]
   rw[e];exact⟨by simp[YT],by simpa[YT]using b6.cons h t⟩
  ·obtain⟨h1,h2⟩:=J1 (k:=k) h b t
   have e:XR ((k',u)::kvs) k v=(k',u)::XR kvs k v:=by
    unfold XR;simp only[Hs,hk,decide_false,Rf];split
    ·simp[hk]
    ·rfl
   rw[e];exact⟨by simpa[YT,hk]using h1,by simpa[YT,hk]using b6.cons f h2⟩
def IF{N:Sa->Prop}{l:Sa}{o:HO}{xs:List V}{ds:List cT}{kvs:List (aQ×V)}(c:H l=b3 (.dK kvs))(e:N l)(h:b6 K N H xs ds):b6 K N (upd H l o) xs ds:=
 h.fr (P:=λb=>b=l) ⟨λb u q n=>by
  by_cases d:b=l
  ·subst d
   rw[c]at q;cases q;exact absurd (n rfl) λz=>z
  ·rw[cH d]
   exact q,(NZ.of c).upd⟩ λa z=>z▸e
def IM{i:Nat}{fk fv:VF}{ag:Pos}(G:X.A.units+1<cLine)(J:PE X a (ZH i))(hk:PE X b (TV K ml pa ta ia fk))(F:PE X c (TV K ml pb ba ba fv))(I:Fu c (b3 (.Subscript a b ag)) pos.line X.env=pure bb):
  PS X (.Assign [.Subscript a b ag] c pos) (V5 K ml (J2 i fk fv)):=(gS G J hk F I).imp λD σ H g=>by
 obtain⟨B,O,δ,o,S,q,k⟩:=g;unfold J2 at q;obtain⟨⟨z,δ1⟩,h1,q⟩:=Aa.mp q;have q:((WY δ1 i).bind λ_=>(fk δ1).bind λq=>(U8 q.1).bind λk=>(WY q.2 i).bind λd=>if d.1.length<16777216/\d.1.Nodup then b3 (Ou.nx (q.2.set i (.ow (let r:=YT d.1 d.2 k z;.dct r.1 r.2))))else b5)=b3 o:=q;cases m:WY δ1 i with
 |none=>rw[m]at q;cases q
 |some x=>
 obtain⟨E,Q⟩:=x;rw[m]at q;cases h2:fk δ1 with
 |none=>simp[h2]at q
 |some p2=>
  obtain⟨y,e⟩:=p2;simp only[Ay,h2]at q;cases j:U8 y with
  |none=>simp[j]at q
  |some kk=>
   simp only[Ay,j]at q;cases h:WY e i with
   |none=>simp[h]at q
   |some v=>
    obtain⟨ks,ds⟩:=v;simp only[h,Ay]at q;split at q
    ·rename_i hz
     cases q;refine⟨B,O,δ,z,δ1,S,h1,λt H1 p=>?_⟩;obtain⟨l,n,P,_⟩:=p.sta.ow i _ (RO m);refine⟨.ref l,P,B,O,δ1,y,e,p.sta,h2,λR H2 R2=>?_⟩;have N:=R2.rep.key j;subst N;obtain⟨T,u,_,s⟩:=R2.sta.ow i _ (RO h);rw[n]at u;cases u;generalize hw:cT.dct ks ds=dd at s;cases s with
     |lst _ _=>cases hw
     |nst _ _=>cases hw
     |flt _ _=>cases hw
     |dct f r=>
      cases hw;have C:=p.rep.fr R2.frm (λa z=>.inr z) λa z=>.inr z;obtain⟨M,L⟩:=J1 (k:=kk) C hz.2 r;refine⟨l,_,rfl,DPut.k f (by rw[Ce];simpa using hz.1),k σ _ O (R2.sta.wrote n (λz=>z) (.of f) ?_)⟩;have w:R7 K (Nn B O) (upd H2 l (.dK (XR _ kk t))) l (.dct ((XR _ kk t).map Ed) _):=.dct cG (IF f (.inr ⟨i,n⟩) L);rw[M]at w;exact w
    ·cases q
end
section
variable{X:Cx}{K:Ag}{ml:List Nat}{e a b c:Sf}{es:List Sf}{pa ta ia pb tb ib pc tc ic pu bt bi ps bs:Bool}{fa fb fc f:VF}{B B':Bs}{O:Nat->Option Sa}{H H0 H1 H':Hp}{σ:St}{δ δ':Ev}{v:V}{d:cT}{p:Sa}{pos:Pos}
def F3(i:Nat)(fi fv:VF):VS:=λδ=>(fv δ).bind λp=>(V3 p.2 i).bind λ_=>(fi p.2).bind λq=>(V3 q.2 i).bind λds=>match q.1 with
 |.int k=>(KQ ds.length k).map λj=>.nx (q.2.set i (.ow (.lst (ds.set j p.1))))
 |_=>b5
def We{i:Nat}{fi fv:VF}{ag:Pos}(N:X.K=K)(C:PE X a (ZH i))(hi:PE X b (TV K ml pa ta ia fi))(x:PE X c (TV K ml pb ba ba fv))(E:∀v,assign (.Subscript a b ag) X.env v=(do
   let e<-Gv [v] (eval a X.env)
   let f<-Gv [v,e] (eval b X.env)
   Lk ag
   Gv [v,e,f] (Mp e f v)
   release [v,e,f] []):=by intro _;rfl)
  (A:Ff [.Subscript a b ag] c pos.line X.env=pure bb:=by rfl) (hw:Fg [.Subscript a b ag] c X.env=pure b5:=by rfl)
  (h1:(Sh [.Subscript a b ag] X.env).map (·.2)=[assign (.Subscript a b ag) X.env]:=by rfl):PS X (.Assign [.Subscript a b ag] c pos) (V5 K ml (F3 i fi fv)):=
 (OS x (DV C hi Xz E) A hw h1).imp λD σ H g => by
  obtain⟨B,O,δ,o,S,q,k⟩:=g;unfold F3 at q;obtain⟨⟨z,δ1⟩,h1,q⟩:=Aa.mp q;cases m:V3 δ1 i with
  |none=>simp[m]at q
  |some J=>
   simp only[Ay,m]at q;cases h2:fi δ1 with
   |none=>simp[h2]at q
   |some p2=>
    obtain⟨y,d⟩:=p2;simp only[Ay,h2]at q;cases h:V3 d i with
    |none=>simp[h]at q
    |some ds=>
     simp only[h,Ay]at q;cases y with
     |int kk=>
      have q:((KQ ds.length kk).map λj=>Ou.nx (d.set i (.ow (.lst (ds.set j z)))))=b3 o:=q;obtain⟨j,F,q⟩:=An.mp q;cases q;refine⟨B,O,δ,z,δ1,S,h1,λL H1 p=>?_⟩;obtain⟨l,n,I,_⟩:=p.sta.ow i _ (RP m);refine⟨.ref l,I,B,O,δ1,_,d,p.sta,h2,λu H2 R2=>?_⟩;have G:u=.int kk:=by exact R2.rep.onI
      subst G;obtain⟨M,s,_,t⟩:=R2.sta.ow i _ (RP h);rw[n]at s;cases s;cases t with
      |lst hl r=>
       have w:=p.rep.fr R2.frm (λa z=>.inr z) λa z=>.inr z;refine⟨l,_,kk,j,rfl,rfl,hl,by rw[r.length];exact F,k σ _ O (R2.sta.wrote n (λz=>z) (.of hl) (.lst cG (NV (ys:=[]) hl (.inr ⟨i,n⟩) (r.set w j))))⟩
     |_=>cases q
def rIsB(neg:Bool):R2:=λx y H Q=>∃k,y=.bl k/\Q (.bl (if neg then !decide (x=.bl k)else decide (x=.bl k))) H
def ma:WV X (Cu .IsNot) (rIsB ba):=by
 intro aa s σ H x y v u Q I a b h;obtain⟨k,rfl,q⟩:=h;cases b;have e:(v==Ge k)=decide (x=V.bl k):=by
  cases x<;>first
   |(cases a;first|rfl|(rename_i z;cases z<;>cases k<;>rfl))
   |(obtain⟨t,rfl⟩:=a;rfl)
 exact wpAny_isNot_plain (by cases x<;>first|(cases a;cases k<;>rfl)|(obtain⟨t,rfl⟩:=a;cases k<;>rfl)) (by rw[e];exact⟨.bl _,H,I,rfl,q⟩)
noncomputable def isBl(k:Bool):cT->Bool
 |.bl x=>x==k
 |_=>bb
def BP:cT->cT->Option cT
 |d,.bl k=>b3 (.bl (!isBl k d))
 |_,_=>b5
def dX{N M:Sa->Prop}{k:Bool}(h:bB K N H M v d):decide (v=V.bl k)=isBl k d:=by
 cases h<;>simp[isBl];rename_i b;cases b<;>cases k<;>rfl
def Xr:N0 K (rIsB ba) BP:=by
  intro H N N' M M' x y d e c Q b a h k;cases a<;>first
    | (cases h
       refine⟨_,rfl,?_⟩;simp only[if_true];rw[dX b];exact k _ λ_ _ _=>.bl _)
    |(simp[BP]at h)
end
section
variable{prog:Az}{w:Sg}{A:Cb}{E:Rz->Ad->Prop}{s:Ad}
def Q0{it t:Sa}{i:Nat}{items:Array Rz}{x:Rz}{Q:Rz->Ad->Prop}(a:s.heap.IsTupleIter it t i)(e:s.heap.IsTuple t items)(d:items[i]?=b3 x)(f:∀h',h'.IsTupleIter it t (i+1)->Er it s.heap h'->Q x {s with heap:=h'}):Sd (Se prog w) A (Ca (.ref it)) Q E s:=by obtain⟨l,c,j,b⟩:=id a;obtain⟨k,g,_,m,h⟩:=e;unfold Ca;refine Ac (Cs (name:=Bq "__next__") a.typeIs Fc (Eo Fc a.typeIs Jf ?_ (Im _)));show Sd _ _ (field (Bk it) 0>>=_) _ _ s;refine Ac (Eb c b (x:=.ref t) rfl ?_);show Sd _ _ (if(Bk t== .none)=ba then _ else _) _ _ s;rw[if_neg (show¬(Bk t==Value.none)=ba from Ea)];show Sd _ _ (field (Bk it) 1>>=_) _ _ s;refine Ac (Eb c b (x:=.int i 0) rfl ?_);show Sd _ _ (seqItems? (Bk t)>>=_) _ _ s;refine Ac (Fs g h ?_);simp only[d,Kh];refine Ac (wpAny_setField c b (by simp) (Aq ⟨x,rfl,Aq (f _ ⟨_,Go _ c (Obj.isFreed_of_fields (Nk b _)),(Obj.cls_mapFields ..).trans j,?_⟩ (Mt ..))⟩));rw[Nk b];simp[rawInt]
def PM{it t:Sa}{i:Nat}{items:Array Rz}{Q:Rz->Ad->Prop}(f:A.handled=b5)(b:s.heap.IsTupleIter it t i)(h:s.heap.IsTuple t items)(g:items[i]?=b5)(j:∀h' e,Jd it s.heap h'->(∃o,h'.get? e=b3 o/\o.cls=.type "StopIteration")->E (.ref e) {s with heap:=h'}):Sd (Se prog w) A (Ca (.ref it)) Q E s:=by
 obtain⟨p,c,r,d⟩:=id b;obtain⟨n,k,_,q,l⟩:=h;unfold Ca;refine Ac (Cs (name:=Bq "__next__") b.typeIs Fc (Eo Fc b.typeIs Jf ?_ (Im _)));show Sd _ _ (field (Bk it) 0>>=_) _ _ s;refine Ac (Eb c d (x:=.ref t) rfl ?_);show Sd _ _ (if(Bk t== .none)=ba then _ else _) _ _ s;rw[if_neg (show¬(Bk t==Value.none)=ba from Ea)];show Sd _ _ (field (Bk it) 1>>=_) _ _ s;refine Ac (Eb c d (x:=.int i 0) rfl ?_);show Sd _ _ (seqItems? (Bk t)>>=_) _ _ s;refine Ac (Fs k l ?_);simp only[g,Kh];refine Ac (Mc (Ac (wpAny_setField c d (by simp) ?_)));show Sd _ _ (newExc (Ip "StopIteration") []>>=_) _ _ _;refine Ac ?_;unfold newExc newTuple;refine Ac (Dv ?_ (by size_fits));refine Ac (m:=firstArgMember _ _) (wpAny_of_eq (a:=Value.none) (by first|rfl|(unfold firstArgMember;rfl)) (Dv ?_ (by size_fits)));unfold raiseNew;refine Ac (wpAny_handled ?_);first|rw[f]|rw[show A.in1.handled=b5 from f]
 refine Ac (Aq (wpAny_throw (j _ _ (((Mt ..).extBut.push _).push _) ⟨_,Aw _ rfl,rfl⟩)))
end
def li{prog:Az}{w:Sg}{A:Cb}(f:A.handled=b5)(it t:Sa)(d:t≠it)(items:Array Rz):
  Draws prog w A it [it,t] items.size (λi v=>items[i]?=b3 v) (λi h=>h.IsTupleIter it t i/\h.IsTuple t items) where
 live:=λ_ _ st=>let ⟨o,c,_⟩:=st.1;⟨o,c⟩
 frame:=λ_ _ _ st hk=>⟨st.1.at λo e=>hk it (by simp) o e,by obtain⟨o,c,r⟩:=st.2;exact⟨o,hk t (by simp) o c,r⟩⟩
 item:=λi s Q E hi st g=>Q0 st.1 st.2 (x:=items[i]) (by simp[hi]) λh' a b=>g _ h' s.toks (by simp[hi]) ⟨a,st.2.extBut b.extBut d⟩ b
 done:=λs Q E st j=>PM f st.1 st.2 (by simp) j
section
variable{X:Cx}{aa:List (Sa×Sk)}{σ:St}{H:Hp}{s:Ad}{h':Si}
def b9.turnedL{t':Nat}{fp:List Sa}(I:b9 X aa σ H s)(k:∀b o,b∉fp->s.heap.get? b=b3 o->h'.get? b=b3 o)(there:∀b∈fp,∃o,h'.get? b=b3 o)(d:∀b∈fp,KI X aa H b):b9 X aa σ H {s with heap:=h',toks:=t'}:=by
 have a:∀b u,H b=b3 u->b∉fp:=λb u e z=>by rw[(d b z).1]at e;cases e
 have i:X.env.locals∉fp:=λz=>(d _ z).2.1 rfl;refine I.step (g':=s.gens) (d':=s.drawn) (ch:=fp) (λb h=>?_) (λb o _ _ hc e _=>k b o hc e) (λb o _ _ hc e _=>⟨o.slots,k b o hc e⟩) (λ_ _ _ _ n=>n)
  (λb o hc e=>⟨o,k b o hc e⟩) (λ_ _ e=>e) (λ_ _ _ e=>e) (λb ps e=>⟨#[],by rw[e];simp⟩) (λm g=>?_) (λb u e=>?_) I.bare
 ·obtain⟨_,f1,f2,f3,l,j⟩:=d b h
  exact⟨f3,f1,l,j⟩
 ·obtain⟨o,es,p,f,r⟩:=g
  exact⟨o,es,p,k _ o i f,r⟩
 ·refine (I.hok b u e).stay (λc v hc q => k c v ?_ q) (λ_ q => q) λ_ _ q => q
  rcases hc with z|z
  ·rw[z];exact a b u e
  ·exact a c _ z
end
section
variable{X:Cx}{aa:List (Sa×Sk)}{σ:St}{H:Hp}{s:Ad}{h':Si}
def b9.turnedL'{t':Nat}{fp:List Sa}(I:b9 X aa σ H s)(k:∀b o,b∉fp->s.heap.get? b=b3 o->h'.get? b=b3 o)(d:∀b∈fp,KI X aa H b):b9 X aa σ H {s with heap:=h',toks:=t'}:=by
 have a:∀b u,H b=b3 u->b∉fp:=λb u e z=>by rw[(d b z).1]at e;cases e
 have i:X.env.locals∉fp:=λz=>(d _ z).2.1 rfl;refine I.step (g':=s.gens) (d':=s.drawn) (ch:=fp) (λb h=>?_) (λb o _ _ hc e _=>k b o hc e) (λb o _ _ hc e _=>⟨o.slots,k b o hc e⟩) (λ_ _ _ _ n=>n)
  (λb o hc e=>⟨o,k b o hc e⟩) (λ_ _ e=>e) (λ_ _ _ e=>e) (λb ps e=>⟨#[],by rw[e];simp⟩) (λm g=>?_) (λb u e=>?_) I.bare
 ·obtain⟨_,f1,f2,f3,l,j⟩:=d b h
  exact⟨f3,f1,l,j⟩
 ·obtain⟨o,es,p,f,r⟩:=g
  exact⟨o,es,p,k _ o i f,r⟩
 ·refine (I.hok b u e).stay (λc v hc q => k c v ?_ q) (λ_ q => q) λ_ _ q => q
  rcases hc with z|z
  ·rw[z];exact a b u e
  ·exact a c _ z
end
def IS(K:Ag)(tup:Bool)(H:Hp)(a:Sa)(xs:List V):Prop:=if tup=ba then UO K H a xs else XV K H a xs
def OZ(tup:Bool)(h:Si)(a:Sa)(items:Array Rz):Prop:=if tup=ba then h.IsTuple a items else h.IsList a items
def TJ(tup:Bool)(h:Si)(it a:Sa)(i:Nat):Prop:=if tup=ba then h.IsTupleIter it a i else h.IsListIter it a i
def Uu{prog:Az}{w:Sg}{A:Cb}(b:A.handled=b5)(tup:Bool)(it t:Sa)(a:t≠it)(items:Array Rz):Draws prog w A it [it,t] items.size (λi v=>items[i]?=b3 v) (λi h=>TJ tup h it t i/\OZ tup h t items):=by
 cases tup with
 |true=>exact li b it t a items
 |false=>exact Draws.list b it t a items
def OZ.lt{tup:Bool}{h:Si}{a:Sa}{items:Array Rz}(s:OZ tup h a items):a<h.objs.size:=by
 cases tup with
 |true=>obtain⟨o,e,_⟩:=s;exact As e
 |false=>obtain⟨o,e,_⟩:=s;exact As e
def b9.srcA{X:Cx}{aa:List (Sa×Sk)}{σ:St}{H:Hp}{s:Ad}{a:Sa}{xs:List V}{tup:Bool}(I:b9 X aa σ H s)(h:IS X.K tup H a xs):∃its:List Rz,bI xs its/\OZ tup s.heap a its.toArray/\xs.length<=sizeLine:=by
 cases tup with
 |true=>
  obtain⟨its,r,p,z⟩:=I.tuple h;exact⟨its,r,p,z⟩
 |false=>
  obtain⟨its,r,p,z⟩:=I.list h;exact⟨its,r,p.isList,z⟩
def b9.sq_inj{X:Cx}{aa:List (Sa×Sk)}{σ:St}{H:Hp}{s:Ad}{a:Sa}{xs ys:List V}{tup:Bool}(I:b9 X aa σ H s)(h:IS X.K tup H a xs)(h':IS X.K tup H a ys):xs=ys:=by
 cases tup with
 |true=>exact I.tuple_inj h h'
 |false=>exact I.list_inj h h'
def TJ.at{tup:Bool}{h h':Si}{it a:Sa}{i:Nat}(st:TJ tup h it a i)(k:∀o,h.get? it=b3 o->h'.get? it=b3 o):TJ tup h' it a i:=by
 cases tup with
 |true=>exact Heap.IsTupleIter.at st k
 |false=>exact Heap.IsListIter.at st k
def TJ.obj{tup:Bool}{h:Si}{it a:Sa}{i:Nat}(st:TJ tup h it a i):∃o,h.get? it=b3 o/\∀v,o.data≠ .cell v:=by
 cases tup with
 |true=>
  obtain⟨o,e,c,d⟩:=st;exact⟨o,e,λv z=>by rw[d]at z;cases z⟩
 |false=>
  obtain⟨o,e,c,d⟩:=st;exact⟨o,e,λv z=>by rw[d]at z;cases z⟩
def Ite(K:Ag)(tup:Bool)(a:Sa):It:=
 ⟨λi H=>∃xs x,IS K tup H a xs/\xs[i]?=b3 x,λi H v H'=>∃p x,(∀xs,IS K tup H a xs->xs[i]?=b3 x)/\H p=b5/\H'=upd H p (.tup [.int i,x])/\v=.ref p,λi H=>∃xs,IS K tup H a xs/\xs.length=i⟩
def lY{P:Az}{w:Sg}{K:Ag}{es:List Sf}{k:Nat}{pos:Pos}(tup:Bool)(a e it:Sa)(g:e≠it)(O:a≠e)(C:a≠it):
  CV P w K (.Tuple es k pos) (Ite K tup a) [e,it] e (λi h=>(∃f,IsEnum h e it i f)/\TJ tup h it a i) where
 mem:=by simp
 obj:=λi h st b c=>by
  obtain⟨⟨f,j⟩,hi⟩:=st;rcases Ar.mp c with z|z
  ·subst z
   exact⟨_,j,λv z=>by cases z⟩
  ·have:=Al.mp z
   subst this;exact hi.obj
 keep:=λi h h' st kk=>by obtain⟨⟨f,j⟩,hi⟩:=st;exact⟨⟨f,kk e (by simp) _ j⟩,hi.at λo q=>kk it (by simp) o q⟩
 item:=by
  intro X Q hw R hc i aa s σ H E I t st N;subst Q hw R;obtain⟨⟨f,j⟩,hi⟩:=st;obtain⟨xs,x,G,r⟩:=N;obtain⟨its,F,l,hz⟩:=I.srcA G;have L:i<its.toArray.size:=by
   have:=(Ai.mp r).1
   have:=F.length
   simp only[Ak];lia
  have M:X.A.in1.handled=b5:=I.ok.hd hc;refine wpAny_pyNext_enum_itemD (Uu M tup it a C its.toArray) j ⟨hi,l⟩ L g (by simp[g,Dl O]) λu h1 tk m Z p Y hsz hk=>⟨_,rfl,?_⟩;refine wpAny_letOwnedTupleGo_enum (s:={s with heap:=h1,toks:=tk+1}) Z λh2 y d=>?_;have d:Er e h1 h2:=d;obtain⟨n,J,V⟩:=F.get r;have m:its.toArray[i]?=b3 u:=m;rw[List.getElem?_toArray,J]at m;have m:=Bx m;subst m;have kk:∀b o,b∉[e,it]->s.heap.get? b=b3 o->h2.get? b=b3 o:=λb o c q=>by have D:b≠e:=λz=>c (by simp[z]);have S:b≠it:=λz=>c (by simp[z]);exact(d.2 b D).trans (hk b o D S q)
  have dw:h2.get? s.heap.objs.size=b3 {cls:=.type "tuple",data:=.seq #[.int i tk,n]}:=(d.2 _ (Hg (As j))).trans Y;have bh:H s.heap.objs.size=b5:=I.hok.fresh (Ax _);have T:∀b∈[e,it],b<s.heap.objs.size:=λb c=>by
   rcases Ar.mp c with z|z
   ·rw[z];exact As j
   ·rw[Al.mp z]
    obtain⟨o,q,_⟩:=hi.obj;exact As q
  have I0:b9 X aa σ (upd H s.heap.objs.size (.tup [.int i,x])) {s with heap:=s.heap.push {cls:=.type "tuple",data:=.seq #[.int i tk,n]},toks:=tk}:=
   I.laid (λb o q=>Ae _ q) (Ax _) ⟨by show 2<=sizeLine;decide,[.int i tk,n],.cons ⟨tk,rfl⟩ (.cons V .nil),Kg _ _⟩
  have I1:b9 X aa σ (upd H s.heap.objs.size (.tup [.int i,x])) {s with heap:=h2,toks:=tk+1}:=by
   refine b9.turnedL (s:={s with heap:=s.heap.push {cls:=.type "tuple",data:=.seq #[.int i tk,n]},toks:=tk}) (h':=h2) (t':=tk+1) (fp:=[e,it]) I0 (λb o c q=>?_) (λb c=>?_) λb c=>⟨by rw[cH (Bl (T b c))];exact(t b c).1,(t b c).2⟩
   ·by_cases B:b=s.heap.objs.size
    ·subst B
     have q:(s.heap.push {cls:=.type "tuple",data:=.seq #[.int i tk,n]}).get? s.heap.objs.size=b3 o:=q;rw[Aw _ rfl]at q;cases q;exact dw
    ·exact kk b o c ((Ol _ _ _ B).symm.trans q)
   ·rcases Ar.mp c with z|z
    ·rw[z];exact⟨_,y⟩
    ·rw[Al.mp z]
     obtain⟨o,q,_⟩:=p.1.obj;exact⟨o,(d.2 it (Dl g)).trans q⟩
  refine⟨.ref s.heap.objs.size,upd H s.heap.objs.size (.tup [.int i,x]),?_,rfl,⟨_,x,λys W=>by rw[I.sq_inj W G];exact r,bh,rfl,rfl⟩,⟨⟨_,by simpa using y⟩,p.1.at λo q=>(d.2 it (Dl g)).trans q⟩,λb c=>?_⟩
  ·exact I1
  ·rw[cH (Bl (T b c))]
   exact(t b c).1
 done:=by
  intro X Q hw R hc i aa s σ H E I t st N;subst Q hw R;obtain⟨⟨f,j⟩,hi⟩:=st;obtain⟨xs,G,r⟩:=N;obtain⟨its,F,l,hz⟩:=I.srcA G;have M:X.A.in1.handled=b5:=I.ok.hd hc;have hn:its.toArray.size=i:=by rw[Ak,<-F.length];exact r
  refine wpAny_pyNext_enum_endD (Uu M tup it a C its.toArray) j ⟨by rw[hn];exact hi,l⟩ λh1 U=>⟨rfl,?_⟩;obtain⟨f0,f1,f2,f3,f4,f5⟩:=t it (by simp);exact I.turned (t':=s.toks) (λb o c q=>U b o c q) f0 f1 f3 f4 f5
 self:=λ_ i _ _ _ st h=>Om st.1.choose_spec h
def km(a:Sa)(items:Array Rz)(n:Nat)(dd:Option Sa)(f:Array (Option Rz)):Meets (Gk.«enumerate.__new__» ⟨[.type "enumerate",.ref a],[]⟩) (λ_ R s=>s.heap.get? a=b3 {cls:=.type "tuple",dict:=dd,data:=.seq items n,slots:=f}∧R (.ok (.ret (.ref (s.heap.push {cls:=.type "tuple_iterator",data:=.fields #[.ref a,.int 0 0]}).objs.size))) {s with heap:=(s.heap.push {cls:=.type "tuple_iterator",data:=.fields #[.ref a,.int 0 0]}).push {cls:=.type "enumerate",data:=.fields #[.none,.bool bb,.ref s.heap.objs.size,rawInt 0,.none,.none]}}):=by
 refine .of_wp λprog w A R s h=>?_;obtain⟨i,g,d,tk,os⟩:=s;obtain⟨b,h⟩:=h;have j:=sub_enumerate;have e:Heap.IsTuple (Qf ⟨i,g,d,tk,os⟩) a items:=⟨_,b,rfl,n,rfl⟩;wp_walk using Bg b
 refine wpAny_stack_any λst=>Aq ?_;split
 ·rename_i c _ _ _ _ _
  cases (c==Ip "enumerate")<;>(wp_walk using Bg b,Hn e;exact⟨_,rfl,h⟩)
 ·wp_walk using Bg b,Hn e
  exact⟨_,rfl,h⟩
def C3{prog:Az}{w:Sg}{A:Cb}{E:Rz->Ad->Prop}{s:Ad}{a:Sa}{items:Array Rz}{tup:Bool}{Q:Rz->Ad->Prop}(d:OZ tup s.heap a items)(h:∀h',IsEnum h' (s.heap.objs.size+1) s.heap.objs.size 0 .none->TJ tup h' s.heap.objs.size a 0->(∀b o,s.heap.get? b=b3 o->h'.get? b=b3 o)->Q (.ref (s.heap.objs.size+1)) {s with heap:=h'}):Sd (Se prog w) A (call (.type "enumerate") [.ref a]) Q E s:=by
 cases tup with
 |false=>exact call_enumerate_list d λh' k j _ a4=>h h' k j a4
 |true=>
  obtain⟨⟨i,dd,g,e⟩,f,hc,n,hd⟩:=d;replace hc:i=.type "tuple":=hc
  replace hd:g=.seq items n:=hd
  subst hc hd;have hz:(s.heap.push {cls:=.type "tuple_iterator",data:=.fields #[.ref a,.int 0 0]}).objs.size=s.heap.objs.size+1:=Di ..;refine callType_new F.called_enumerate (by decide) (F.typeCall_enumerate_1 _) (F.newCall_enumerate_1 _) (λobj=>F.args_object_init_2 obj _) F.entry_enumerate_new (km a items n dd e) ⟨f,?_⟩;show _/\_;rw[hz];have c:=Aw (s.heap.push {cls:=.type "tuple_iterator",data:=.fields #[.ref a,.int 0 0]}) (o:={cls:=.type "enumerate",data:=.fields #[.none,.bool bb,.ref s.heap.objs.size,rawInt 0,.none,.none]}) rfl;rw[hz]at c;exact⟨⟨_,c,rfl⟩,h _ c ⟨_,Ae _ (Aw _ rfl),rfl,rfl⟩ λb o x=>Ae _ (Ae _ x)⟩
def GZ:Bm "enumerate"=b3 (.type "enumerate"):=by decide+kernel
def nq:Bm "zip"=b3 (.type "zip"):=by decide+kernel
section
variable{X:Cx}{K:Ag}{ml:List Nat}{l:Sf}{pu:Bool}{f:VF}{p pos c7:Pos}{es:List Sf}{tk:Nat}{δ:Ev}
def iEnu(K:Ag)(tl:TE):TI:=λσ H R=>tl σ H λx H1=>∃a tup,x=.ref a/\(∃xs,IS K tup H1 a xs)/\R (Ite K tup a) H1
def Zn{tl:TE}(r:Gl X "enumerate")(q:X.mg "enumerate"=b5)(hl:PE X l tl)(k:SE X l []:=by rfl):PI X (.Tuple es tk c7) (.Call (.Name "enumerate" p) [l] [] pos) (iEnu X.K tl):=by
 intro aa s σ H R I h;refine Dq (OK I r q GZ ?_ (by decide) (by decide));refine Ew (ZP (bL hl ZX k pos aa s σ H (λvs H1=>match vs with
  |[x]=>∃a tup,x=.ref a/\(∃xs,IS X.K tup H1 a xs)/\R (Ite X.K tup a) H1
  |_=>False) I h) λus s1 ⟨vs,H1,f,g,q1⟩=>?_) k (by rfl)
 match vs,g,q1 with
 |[x],g,q1=>
  obtain⟨a,tup,rfl,⟨xs,n⟩,t⟩:=q1;obtain⟨u,rfl,m⟩:=Q7 g;cases m;obtain⟨its,w,c,_⟩:=f.srcA n;refine C3 c λh' d i kp=>?_;have v:b9 X aa σ H1 {s1 with heap:=h'}:=f.kept (t':=s1.toks) kp;have o:∀b,s1.heap.objs.size<=b->H1 b=b5:=λb j=>f.hok.fresh j;refine Om d ⟨s1.heap.objs.size+1,[s1.heap.objs.size+1,s1.heap.objs.size],_,Ite X.K tup a,H1,rfl,v,lY tup a (s1.heap.objs.size+1) s1.heap.objs.size (Nat.succ_ne_self _) (λz=>?_) (λz=>?_),⟨⟨_,d⟩,i⟩,λb j=>?_,t⟩
  ·have:=c.lt
   rw[z]at this;exact absurd this (Nat.not_lt_of_le (Hd _))
  ·have:=c.lt
   rw[z]at this;exact absurd this (Db _)
  ·have e:s1.heap.objs.size<=b:=by
    rcases Ar.mp j with z|z
    ·rw[z];exact Hd _
    ·rw[Al.mp z];exact Ax _
   exact f.fpOk e (o b e)
def kC(h:X.K=K){tl:TE}(b:Gl X "enumerate")(a:X.mg "enumerate"=b5)(hl:PE X l tl)(c:SE X l []:=by rfl):PI X (.Tuple es tk c7) (.Call (.Name "enumerate" p) [l] [] pos) (iEnu K tl):=by subst h;exact Zn b a hl c
noncomputable def TL:Nat->List cT->List cT
 |_,[]=>[]
 |i,d::ds=>.tup [.int i,d]::TL (i+1) ds
def BD(f:VF):VI:=λδ=>(f δ).bind λp=>(WZ p.1).map λds=>(TL 0 ds,p.2)
theorem E6:∀{ds:List cT}{n i:Nat}{d:cT},(TL n ds)[i]?=b3 d->∃x,ds[i]?=b3 x/\d=.tup [.int (n+i:Nat),x]
 |[],_,_,_,h=>by simp[TL]at h
 |x::ds,n,0,d,h=>by simp[TL]at h;exact⟨x,rfl,h.symm⟩
 |x::ds,n,i+1,d,h=>by
  have h:(TL (n+1) ds)[i]?=b3 d:=by simpa[TL]using h
  obtain⟨y,h1,h2⟩:=E6 h;exact⟨y,by simpa using h1,by rw[h2,show n+1+i=n+(i+1) by lia]⟩
theorem E7:∀(ds:List cT) (n:Nat),(TL n ds).length=ds.length
 |[],_=>rfl
 |_::ds,n=>congrArg (· +1) (E7 ds (n+1))
def KG{a:Sa}{tup:Bool}{ds:List cT}:Walk K (Ite K tup a) [(.ref a,if tup=ba then .tup ds else .lst ds)] (TL 0 ds):=by
 intro N H h;have r:=h _ (Al.mpr rfl);have fin:∀xs,IS K tup H a xs->b6 K N H xs ds->(∀(i:Nat) (d:cT),(TL 0 ds)[i]?=b3 d->(Ite K tup a).go i H/\∀x H',(Ite K tup a).yld i H x H'->aM H H'/\bB K N H' N x d)/\(Ite K tup a).stop (TL 0 ds).length H:=λxs sq r=>by
  refine⟨λi d e=>?_,xs,sq,by rw[r.length,E7]⟩;obtain⟨z,k,rfl⟩:=E6 e;obtain⟨x,c,f⟩:=r.get k;refine⟨⟨xs,x,sq,c⟩,λy H' g=>?_⟩;obtain⟨p,l,j,b,rfl,rfl⟩:=g;have:=j xs sq
  rw[c]at this;cases this;refine⟨cK b,.tup (UO.of cG) (.cons ?_ (.cons (f.same (cK b)) .nil))⟩;rw[Li];exact .int _
 cases tup with
 |true=>
  have r:bB K N H N (.ref a) (.tup ds):=r;cases r.onT with
  |tup sq r=>exact fin _ sq r
 |false=>
  have r:bB K N H N (.ref a) (.lst ds):=r;cases r.onL with
  |lst q n r=>exact fin _ (XV.of q) r
  |fzm q r=>exact fin _ q.sq r
def kK(m:X.K=K)(i:Gl X "enumerate")(g:X.mg "enumerate"=b5)(h:PE X l (TV K ml pu ba ba f))(j:SE X l []:=by rfl):
  PI X (.Tuple es tk c7) (.Call (.Name "enumerate" p) [l] [] pos) (TIV K ml pu (BD f)):=(kC (K:=K) m i g h j).imp λσ H R d=>by
 obtain⟨B,O,δ,ds,δ',S,q,k⟩:=d;unfold BD at q;obtain⟨⟨x,δ1⟩,h1,q⟩:=Aa.mp q;refine⟨B,O,δ,x,δ1,S,h1,λv H1 b=>?_⟩;cases x with
 |lst c=>
  cases q;obtain⟨a,xs,rfl,sq,r⟩:=b.rep.lstE;exact⟨a,bb,rfl,⟨xs,sq⟩,k _ [(.ref a,.lst c)] H1 (b.sta.keepV λp e=>by rw[Al.mp e];exact b.rep) b.frm b.pur (KG (tup:=bb))⟩
 |tup c=>
  cases q;obtain⟨a,xs,rfl,sq,r⟩:=b.rep.tupE;exact⟨a,ba,rfl,⟨xs,sq⟩,k _ [(.ref a,.tup c)] H1 (b.sta.keepV λp e=>by rw[Al.mp e];exact b.rep) b.frm b.pur (KG (tup:=ba))⟩
 |_=>cases q
end
section
variable{prog:Az}{w:Sg}{A:Cb}{E:Rz->Ad->Prop}{s:Ad}
def TJ.ext{tup:Bool}{h h':Si}{it a b:Sa}{i:Nat}(x:TJ tup h it a i)(d:Jd b h h')(c:it≠b):TJ tup h' it a i:=x.at λo e=>d _ _ c e
def OZ.ext{tup:Bool}{h h':Si}{a b:Sa}{xs:Array Rz}(x:OZ tup h a xs)(d:Jd b h h')(c:a≠b):OZ tup h' a xs:=by
 cases tup with
 |true=>obtain⟨o,e,r⟩:=x;exact⟨o,d _ _ c e,r⟩
 |false=>obtain⟨o,e,r⟩:=x;exact⟨o,d _ _ c e,r⟩
def QO{tup:Bool}{it a:Sa}{i:Nat}{xs:Array Rz}{x:Rz}{Q:Rz->Ad->Prop}(hi:TJ tup s.heap it a i)(c:OZ tup s.heap a xs)(b:xs[i]?=b3 x)(d:∀h',TJ tup h' it a (i+1)->Er it s.heap h'->Q x {s with heap:=h'}):Sd (Se prog w) A (Ca (.ref it)) Q E s:=by
 cases tup with
 |true=>exact Q0 hi c b d
 |false=>exact wpAny_nextOf_list_item hi c b d
def JX{tup:Bool}{it a:Sa}{i:Nat}{xs:Array Rz}{Q:Rz->Ad->Prop}(d:A.handled=b5)(hi:TJ tup s.heap it a i)(c:OZ tup s.heap a xs)(b:xs[i]?=b5)(f:∀h' e,Jd it s.heap h'->(∃o,h'.get? e=b3 o/\o.cls=.type "StopIteration")->E (.ref e) {s with heap:=h'}):Sd (Se prog w) A (Ca (.ref it)) Q E s:=by
 cases tup with
 |true=>exact PM d hi c b f
 |false=>exact wpAny_nextOf_list_end d hi c b f
structure ZSt(t1 t2:Bool)(h:Si)(z p q i1 i2 a b:Sa)(k:Nat)(f0:Rz):Prop where
 zip:IsZip h z p q f0
 its:IsPair h p (.ref i1) (.ref i2)
 res:∃u v,IsPair h q u v
 one:TJ t1 h i1 a k
 two:TJ t2 h i2 b k
def AI{H G:Bool}{z p q f e a b:Sa}{k:Nat}{xs ys:Array Rz}{x y:Rz}{Q:Rz->Ad->Prop}(D:Me z p q f e a b)(S:ZSt H G s.heap z p q f e a b k .none)(s1:OZ H s.heap a xs)(s2:OZ G s.heap b ys)(hx:xs[k]?=b3 x)(hy:ys[k]?=b3 y)(hQ:∀h',ZSt H G h' z p q f e a b (k+1) (rawInt s.heap.objs.size)->IsPair h' s.heap.objs.size x y->h'.objs.size=s.heap.objs.size+1->(∀c o,c≠z->c≠q->c≠f->c≠e->s.heap.get? c=b3 o->h'.get? c=b3 o)->Q (.ref s.heap.objs.size) {s with heap:=h'}):Sd (Se prog w) A (Gk.«zip.__next__» ⟨[.ref z],[]⟩) (λfin s'=>∃v,fin=.done (.ret v)/\Q v s') E s:=by
 obtain⟨t,W,⟨u,v,gr⟩,g1,g2⟩:=S;show Sd _ _ (field (Bk z) 2>>=_) _ _ _;refine Ac (Eb t rfl (x:=.bool bb) rfl ?_);show Sd _ _ (field (Bk z) 3>>=_) _ _ _;refine Ac (Eb t rfl (x:=.ref p) rfl (Ac (Fs W rfl ?_)));show Sd _ _ (Du (Bk z)>>=_) _ _ _;refine Ac ?_
 (unfold Du)
 refine Ac (Eb t rfl (x:=.none) rfl (Aq ?_));simp only[if_true];refine Ac (Mc (Ac (Eb t rfl (x:=.ref q) rfl (Ac (Fi t (by simp) λha L i=>Ac ?_)))));have L:IsZip ha z p q .ellipsis:=L;simp only[Qg,Po,Mn,Jb];refine Ac (Ac (Kr ?_));show Sd _ _ (Ca (Bk f)>>=_) _ _ _;refine Ac (QO (g1.ext i.extBut D.i1z) (s1.ext i.extBut D.l1z) hx λhb Z l=>Aq ?_);have U:IsPair hb q u v:=l.extBut _ _ D.TOi1 (i.extBut _ _ D.TOz gr);refine Ac (Fs U rfl (Ac (Il U λhc M j=>Ac (Mu (Aq ?_)))));have M:IsPair hc q x v:=M;refine Ac (Ac (Kr ?_));show Sd _ _ (Ca (Bk e)>>=_) _ _ _;refine Ac (QO (((g2.ext i.extBut D.i2z).ext l.extBut D.i12.symm).ext j.extBut D.TOi2.symm) (((s2.ext i.extBut D.l2z).ext l.extBut D.l2i1).ext j.extBut D.l2TO) hy λhd Y C=>Aq ?_);have T:IsPair hd q x v:=C.extBut _ _ D.TOi2 M;refine Ac (Fs T rfl (Ac (Il T λd I B=>Ac (Mu (Aq (Aq ?_))))));have I:IsPair d q x y:=I;refine Ac (Fs I rfl (Ac (wpAny_newTuple ?_)));have size:d.objs.size=s.heap.objs.size:=by rw[B.1,C.1,j.1,l.1,i.1]
 have R:IsZip d z p q .ellipsis:=B.extBut _ _ D.TOz.symm (C.extBut _ _ D.i2z.symm (j.extBut _ _ D.TOz.symm (l.extBut _ _ D.i1z.symm L)));have V:∀c o,c≠z->c≠q->c≠f->c≠e->s.heap.get? c=b3 o->d.get? c=b3 o:=λc o h J O N g=>B.extBut _ _ J (C.extBut _ _ N (j.extBut _ _ J (l.extBut _ _ O (i.extBut _ _ h g))));have e1:TJ H d f a (k+1):=((Z.ext j.extBut D.TOi1.symm).ext C.extBut D.i12).ext B.extBut D.TOi1.symm;have e2:TJ G d e b (k+1):=Y.ext B.extBut D.TOi2.symm;have ie:IsPair d p (.ref f) (.ref e):=V _ _ D.TIz D.TITO D.TIi1 D.TIi2 W;have m:z<d.objs.size:=As R;show Sd _ _ (Ha (Bk z) (.ref d.objs.size)>>=_) _ _ _;refine Ac ?_
 (unfold Ha)
 have X:IsZip (d.push {cls:=.type "tuple",data:=.seq #[x,y]}) z p q .ellipsis:=Ae _ R;refine Ac (Fi X (by simp) λhg K P=>?_);have K:IsZip hg z p q (rawInt d.objs.size):=K;refine Fi K (by simp) λhk F bk=>?_;have F:IsZip hk z p q (rawInt d.objs.size):=F;have n:∀c o,c≠z->d.get? c=b3 o->hk.get? c=b3 o:=λc o h g=>bk.extBut _ _ h (P.extBut _ _ h (Ae _ g));have tk:IsPair hk d.objs.size x y:=bk.extBut _ _ (Hg m) (P.extBut _ _ (Hg m) (Aw _ rfl));have r:hk.objs.size=d.objs.size+1:=by rw[bk.1,P.1,Di]
 rw[size]at F tk r;refine Aq ⟨_,rfl,?_⟩;show Q (.ref d.objs.size) _;rw[size];exact hQ hk ⟨F,n _ _ D.TIz ie,⟨x,y,n _ _ D.TOz I⟩,e1.at λo g=>n _ o D.i1z g,e2.at λo g=>n _ o D.i2z g⟩ tk r λc o h J O N g=>n c o h (V c o h J O N g)
def Ye{K J:Bool}{z p q t r a b:Sa}{k:Nat}{xs ys:Array Rz}{Q:Fin->Ad->Prop}(M:A.handled=b5)(D:Me z p q t r a b)(S:ZSt K J s.heap z p q t r a b k .none)(s1:OZ K s.heap a xs)(s2:OZ J s.heap b ys)(Z:xs[k]?=b5∨ys[k]?=b5)(N:∀h' e,(∀c o,c≠z->c≠q->c≠t->c≠r->s.heap.get? c=b3 o->h'.get? c=b3 o)->(∃o,h'.get? e=b3 o/\o.cls=.type "StopIteration")->E (.ref e) {s with heap:=h'}):Sd (Se prog w) A (Gk.«zip.__next__» ⟨[.ref z],[]⟩) Q E s:=by
 obtain⟨j,X,⟨u,v,W⟩,O,Y⟩:=S;show Sd _ _ (field (Bk z) 2>>=_) _ _ _;refine Ac (Eb j rfl (x:=.bool bb) rfl ?_);show Sd _ _ (field (Bk z) 3>>=_) _ _ _;refine Ac (Eb j rfl (x:=.ref p) rfl (Ac (Fs X rfl ?_)));show Sd _ _ (Du (Bk z)>>=_) _ _ _;refine Ac ?_
 (unfold Du)
 refine Ac (Eb j rfl (x:=.none) rfl (Aq ?_));simp only[if_true];refine Ac (Mc (Ac (Eb j rfl (x:=.ref q) rfl (Ac (Fi j (by simp) λV n d=>Ac ?_)))));have n:IsZip V z p q .ellipsis:=n;simp only[Qg,Po,Mn,Jb];refine Ac (Ac (Kr ?_));show Sd _ _ (Ca (Bk t)>>=_) _ _ _;cases C:xs[k]? with
 |none=>
  refine Ac (JX M (O.ext d.extBut D.i1z) (s1.ext d.extBut D.l1z) C λF e f ⟨y,h,l⟩=>?_);have I:IsZip F z p q .ellipsis:=f _ _ D.i1z.symm n;have B:e≠z:=λw=>by subst w;rw[I]at h;cases h;simp at l
  exact Fi I (by simp) λhc _ i=>N hc e (λc o m _ G _ g=>i.extBut _ _ m (f _ _ G (d.extBut _ _ m g))) ⟨y,i.extBut _ _ B h,l⟩
 |some x=>
  have T:ys[k]?=b5:=Z.resolve_left λw=>by rw[C]at w;cases w
  refine Ac (QO (O.ext d.extBut D.i1z) (s1.ext d.extBut D.l1z) C λF n1 f=>Aq ?_);have L:IsPair F q u v:=f.extBut _ _ D.TOi1 (d.extBut _ _ D.TOz W);refine Ac (Fs L rfl (Ac (Il L λhc rc i=>Ac (Mu (Aq (Ac (Ac (Kr ?_))))))));show Sd _ _ (Ca (Bk r)>>=_) _ _ _;refine Ac (JX M (((Y.ext d.extBut D.i2z).ext f.extBut D.i12.symm).ext i.extBut D.TOi2.symm) (((s2.ext d.extBut D.l2z).ext f.extBut D.l2i1).ext i.extBut D.l2TO) T λhd e R ⟨y,h,l⟩=>?_);have H:IsZip hd z p q .ellipsis:=R _ _ D.i2z.symm (i.extBut _ _ D.TOz.symm (f.extBut _ _ D.i1z.symm n));have B:e≠z:=λw=>by subst w;rw[H]at h;cases h;simp at l
  exact Fi H (by simp) λU _ P=>N U e (λc o m c2 G c4 g=>P.extBut _ _ m (R _ _ c4 (i.extBut _ _ c2 (f.extBut _ _ G (d.extBut _ _ m g))))) ⟨y,P.extBut _ _ B h,l⟩
def DP{g f:Bool}{z p q e d a b:Sa}{k:Nat}{xs ys:Array Rz}{x y:Rz}{Q:Option Rz->Ad->Prop}(D:Me z p q e d a b)(S:ZSt g f s.heap z p q e d a b k .none)(s1:OZ g s.heap a xs)(s2:OZ f s.heap b ys)(i:xs[k]?=b3 x)(h:ys[k]?=b3 y)(j:∀h',ZSt g f h' z p q e d a b (k+1) (rawInt s.heap.objs.size)->IsPair h' s.heap.objs.size x y->h'.objs.size=s.heap.objs.size+1->(∀c o,c≠z->c≠q->c≠e->c≠d->s.heap.get? c=b3 o->h'.get? c=b3 o)->Q (b3 (.ref s.heap.objs.size)) {s with heap:=h'}):Sd (Se prog w) A (pyNext (.ref z)) Q E s:=by
 have ty:s.TypeIs (.ref z) "zip":=⟨_,S.zip,rfl⟩
 (unfold pyNext)
 exact Ac (Nl (Cs (name:=Bq "__next__") ty Jg (Eo Jg ty Pp (AI D S s1 s2 i h λh' n m l a4=>Aq (j h' n m l a4)) (Oo _))))
def jC{h g:Bool}{z p q f d a b:Sa}{k:Nat}{xs ys:Array Rz}{Q:Option Rz->Ad->Prop}(i:A.handled=b5)(D:Me z p q f d a b)(S:ZSt h g s.heap z p q f d a b k .none)(s1:OZ h s.heap a xs)(s2:OZ g s.heap b ys)(m:xs[k]?=b5∨ys[k]?=b5)(j:∀h',(∀c o,c≠z->c≠q->c≠f->c≠d->s.heap.get? c=b3 o->h'.get? c=b3 o)->Q b5 {s with heap:=h'}):Sd (Se prog w) A (pyNext (.ref z)) Q E s:=by
 have ty:s.TypeIs (.ref z) "zip":=⟨_,S.zip,rfl⟩
 (unfold pyNext)
 refine Ac (Nl (Cs (name:=Bq "__next__") ty Jg (Eo Jg ty Pp (Ye i D S s1 s2 m λh' e kk ⟨o,l,n⟩=>?_) (Oo _))));exact Ac (wpAny_isInstance (T:= "StopIteration") (b:=ba) ⟨o,l,n⟩ isSubtype_stop (Aq (j _ kk)))
end
def mZ(tup:Bool):String:=if tup=ba then "tuple_iterator" else "list_iterator"
noncomputable abbrev zO(tup:Bool)(a:Sa):Sk:={cls:=.type (mZ tup),data:=.fields #[.ref a,.int 0 0]}
def Xk{prog:Az}{w:Sg}{A:Cb}{E:Rz->Ad->Prop}{s:Ad}{tup:Bool}{a:Sa}{xs:Array Rz}{Q:Rz->Ad->Prop}(h:OZ tup s.heap a xs)(b:Q (.ref s.heap.objs.size) {s with heap:=s.heap.push (zO tup a)}):Sd (Se prog w) A (pyIter (.ref a)) Q E s:=by
 cases tup with
 |true=>exact Hn h b
 |false=>exact Gr h b
def OZ.push{tup:Bool}{h:Si}{a:Sa}{xs:Array Rz}(x:OZ tup h a xs)(o:Sk):OZ tup (h.push o) a xs:=by
 cases tup with
 |true=>obtain⟨o,e,r⟩:=x;exact⟨o,Ae _ e,r⟩
 |false=>obtain⟨o,e,r⟩:=x;exact⟨o,Ae _ e,r⟩
def jK(c e:Bool)(a b:Sa)(xs ys:Array Rz):Meets (Gk.«zip.__new__» ⟨[.type "zip",.ref a,.ref b],[]⟩) (λ_ R s=>OZ c s.heap a xs/\OZ e s.heap b ys/\∀h1 h2 i f k,h1=s.heap.push (zO c a)->h2=h1.push (zO e b)->i=h2.push {cls:=.type "tuple",data:=.seq #[.ref s.heap.objs.size,.ref h1.objs.size]}->f=i.push {cls:=.type "tuple",data:=.seq #[.none,.none]}->k=f.push {cls:=.type "zip",data:=.fields #[.none,.bool bb,.bool bb,.ref h2.objs.size,.ref i.objs.size]}->R (.ok (.ret (.ref f.objs.size))) {s with heap:=k}):=by
 refine .of_wp λprog w A R s h=>?_;obtain⟨j,g,d,tk,os⟩:=s;obtain⟨m,l,h⟩:=h;have n:=sub_zip;have k1:OZ c (Qf ⟨j,g,d,tk,os⟩) a xs:=m;have k2:OZ e (Qf ⟨j.push (zO c a),g,d,tk,os⟩) b ys:=OZ.push l _;wp_walk using Xk k1,Xk k2
 exact⟨_,rfl,h _ _ _ _ _ rfl rfl rfl rfl rfl⟩
def ju{prog:Az}{w:Sg}{A:Cb}{E:Rz->Ad->Prop}{s:Ad}{f e:Bool}{a b:Sa}{xs ys:Array Rz}{Q:Rz->Ad->Prop}(K:OZ f s.heap a xs)(J:OZ e s.heap b ys)(h:∀h',ZSt f e h' (s.heap.objs.size+4) (s.heap.objs.size+2) (s.heap.objs.size+3) s.heap.objs.size (s.heap.objs.size+1) a b 0 .none->(∀c o,s.heap.get? c=b3 o->h'.get? c=b3 o)->Q (.ref (s.heap.objs.size+4)) {s with heap:=h'}):Sd (Se prog w) A (call (.type "zip") [.ref a,.ref b]) Q E s:=by
 refine callType_new F.called_zip (by decide) (F.typeCall_zip_2 _ _) (F.newCall_zip_2 _ _) (λobj=>F.args_object_init_3 obj _ _) F.entry_zip_new (jK f e a b xs ys) ⟨K,J,?_⟩;rintro h1 h2 g n d u t r p H;have k:h1.objs.size=s.heap.objs.size+1:=by rw[u,Di]
 have j:h2.objs.size=s.heap.objs.size+2:=by rw[t,Di,k]
 have i:g.objs.size=s.heap.objs.size+3:=by rw[r,Di,j]
 have v:n.objs.size=s.heap.objs.size+4:=by rw[p,Di,i]
 have x:∀c o,n.get? c=b3 o->d.get? c=b3 o:=λc o q=>by rw[H];exact Ae _ q
 have y:∀c o,g.get? c=b3 o->d.get? c=b3 o:=λc o q=>x c o (by rw[p];exact Ae _ q);have z:∀c o,h2.get? c=b3 o->d.get? c=b3 o:=λc o q=>y c o (by rw[r];exact Ae _ q);have B:∀c o,h1.get? c=b3 o->d.get? c=b3 o:=λc o q=>z c o (by rw[t];exact Ae _ q);have I:∀c o,s.heap.get? c=b3 o->d.get? c=b3 o:=λc o q=>B c o (by rw[u];exact Ae _ q);have l:d.get? n.objs.size=b3 {cls:=.type "zip",data:=.fields #[.none,.bool bb,.bool bb,.ref h2.objs.size,.ref g.objs.size]}:=by rw[H];exact Aw _ rfl
 have C:d.get? g.objs.size=b3 {cls:=.type "tuple",data:=.seq #[.none,.none]}:=x _ _ (by rw[p];exact Aw _ rfl);have D:d.get? h2.objs.size=b3 {cls:=.type "tuple",data:=.seq #[.ref s.heap.objs.size,.ref h1.objs.size]}:=y _ _ (by rw[r];exact Aw _ rfl);have m:d.get? h1.objs.size=b3 (zO e b):=z _ _ (by rw[t];exact Aw _ rfl);have G:d.get? s.heap.objs.size=b3 (zO f a):=B _ _ (by rw[u];exact Aw _ rfl);show _/\_;rw[j,i,v]at l;rw[i]at C;rw[k,j]at D;rw[k]at m;rw[v];refine⟨⟨_,l,rfl⟩,h _ ⟨l,D,⟨_,_,C⟩,?_,?_⟩ I⟩
 ·cases f with
  |true=>exact⟨_,G,rfl,rfl⟩
  |false=>exact⟨_,G,rfl,rfl⟩
 ·cases e with
  |true=>exact⟨_,m,rfl,rfl⟩
  |false=>exact⟨_,m,rfl,rfl⟩
def fF(n a b:Nat)(d:a<n)(c:b<n):Me (n+4) (n+2) (n+3) n (n+1) a b:=by
 have f:∀x y:Nat,x<y∨y<x->x≠y:=λx y h=>by lia
 exact⟨f _ _ (by lia),f _ _ (by lia),f _ _ (by lia),f _ _ (by lia),f _ _ (by lia),f _ _ (by lia),f _ _ (by lia),f _ _ (by lia),f _ _ (by lia),f _ _ (by lia),f _ _ (by lia),f _ _ (by lia),f _ _ (by lia),f _ _ (by lia),f _ _ (by lia),f _ _ (by lia),f _ _ (by lia),f _ _ (by lia)⟩
def Itz(K:Ag)(d c:Bool)(a b:Sa):It:=
  ⟨λi H=>∃xs ys x y,IS K d H a xs/\IS K c H b ys/\xs[i]?=b3 x/\ys[i]?=b3 y,λi H v H'=>∃p x y,(∀xs,IS K d H a xs->xs[i]?=b3 x)/\(∀ys,IS K c H b ys->ys[i]?=b3 y)/\H p=b5/\H'=upd H p (.tup [x,y])/\v=.ref p,λi H=>∃xs ys,IS K d H a xs/\IS K c H b ys/\(xs.length<=i∨ys.length<=i)⟩
def iy{P:Az}{w:Sg}{K:Ag}{es:List Sf}{k:Nat}{pos:Pos}(C B:Bool)(z p q l j a b:Sa)(D:Me z p q l j a b):
  CV P w K (.Tuple es k pos) (Itz K C B a b) [z,p,q,l,j] z (λi h=>ZSt C B h z p q l j a b i .none) where
 mem:=by simp
 obj:=λi h st c hc=>by
  simp only[Ar,Br,or_false]at hc;rcases hc with rfl|rfl|rfl|rfl|rfl
  ·exact⟨_,st.zip,λv e=>by cases e⟩
  ·exact⟨_,st.its,λv e=>by cases e⟩
  ·obtain⟨u,v,g⟩:=st.res
   exact⟨_,g,λv e=>by cases e⟩
  ·exact st.one.obj
  ·exact st.two.obj
 keep:=λi h h' st kk=>by obtain⟨u,v,g⟩:=st.res;exact⟨kk z (by simp) _ st.zip,kk p (by simp) _ st.its,⟨u,v,kk q (by simp) _ g⟩,st.one.at λo e=>kk l (by simp) o e,st.two.at λo e=>kk j (by simp) o e⟩
 item:=by
  intro X N hw O hc i aa s σ H E I t st L;subst N hw O;obtain⟨xs,ys,x,y,n,m,T,S⟩:=L;obtain⟨us,J,R,_⟩:=I.srcA n;obtain⟨vs,G,Q,_⟩:=I.srcA m;obtain⟨u,hu,Z⟩:=J.get T;obtain⟨v,hv,Y⟩:=G.get S;refine DP D st R Q (by simpa using hu) (by simpa using hv) λh1 f hp hsz hk=>⟨_,rfl,?_⟩;refine wpAny_letOwnedTupleGo_zip (s:={s with heap:=h1}) f.zip λh2 U F=>?_;have F:Er z h1 h2:=F;have lt:∀c∈[z,p,q,l,j],c<s.heap.objs.size:=λc hc=>by
   simp only[Ar,Br,or_false]at hc;rcases hc with rfl|rfl|rfl|rfl|rfl
   ·exact As st.zip
   ·exact As st.its
   ·obtain⟨u,v,g⟩:=st.res
    exact As g
   ·obtain⟨o,e,_⟩:=st.one.obj
    exact As e
   ·obtain⟨o,e,_⟩:=st.two.obj
    exact As e
  have r:∀c o,c≠z->h1.get? c=b3 o->h2.get? c=b3 o:=λc o M e=>(F.2 c M).trans e;have d:ZSt C B h2 z p q l j a b (i+1) .none:=by obtain⟨W,V,g⟩:=f.res;exact⟨U,r _ _ D.TIz f.its,⟨W,V,r _ _ D.TOz g⟩,f.one.at λo e=>r _ o D.i1z e,f.two.at λo e=>r _ o D.i2z e⟩
  have dw:h2.get? s.heap.objs.size=b3 {cls:=.type "tuple",data:=.seq #[u,v]}:=r _ _ (Hg (lt z (by simp))) hp;have bh:H s.heap.objs.size=b5:=I.hok.fresh (Ax _);have I0:b9 X aa σ (upd H s.heap.objs.size (.tup [x,y])) {s with heap:=s.heap.push {cls:=.type "tuple",data:=.seq #[u,v]},toks:=s.toks}:=
   I.laid (λc o e=>Ae _ e) (Ax _) ⟨by show 2<=sizeLine;decide,[u,v],.cons Z (.cons Y .nil),Kg _ _⟩
  have I1:b9 X aa σ (upd H s.heap.objs.size (.tup [x,y])) {s with heap:=h2,toks:=s.toks}:=by
   refine b9.turnedL (s:={s with heap:=s.heap.push {cls:=.type "tuple",data:=.seq #[u,v]},toks:=s.toks}) (h':=h2) (t':=s.toks) (fp:=[z,p,q,l,j]) I0 (λc o hc e=>?_) (λc hc=>?_) λc hc=>⟨by rw[cH (Bl (lt c hc))];exact(t c hc).1,(t c hc).2⟩
   ·by_cases A:c=s.heap.objs.size
    ·subst A
     have e:(s.heap.push {cls:=.type "tuple",data:=.seq #[u,v]}).get? s.heap.objs.size=b3 o:=e;rw[Aw _ rfl]at e;cases e;exact dw
    ·have e':=(Ol _ _ _ A).symm.trans e
     exact r c o (λw=>hc (by simp[w])) (hk c o (λw=>hc (by simp[w])) (λw=>hc (by simp[w])) (λw=>hc (by simp[w])) (λw=>hc (by simp[w])) e')
   ·simp only[Ar,Br,or_false]at hc
    rcases hc with rfl|rfl|rfl|rfl|rfl
    ·exact⟨_,d.zip⟩
    ·exact⟨_,d.its⟩
    ·obtain⟨u,v,g⟩:=d.res
     exact⟨_,g⟩
    ·obtain⟨o,e,_⟩:=d.one.obj
     exact⟨o,e⟩
    ·obtain⟨o,e,_⟩:=d.two.obj
     exact⟨o,e⟩
  exact⟨.ref s.heap.objs.size,_,I1,rfl,⟨_,x,y,λzs hz=>by rw[I.sq_inj hz n];exact T,λzs hz=>by rw[I.sq_inj hz m];exact S,bh,rfl,rfl⟩,d,λc hc=>by rw[cH (Bl (lt c hc))];exact(t c hc).1⟩
 done:=by
  intro X N hw O hc i aa s σ H E I t st L;subst N hw O;obtain⟨xs,ys,n,m,d6⟩:=L;obtain⟨us,J,R,_⟩:=I.srcA n;obtain⟨vs,G,Q,_⟩:=I.srcA m;have l1:=J.length;have l2:=G.length;have he:us.toArray[i]?=b5∨vs.toArray[i]?=b5:=by
   rcases d6 with z|z
   ·exact .inl (by simp;lia)
   ·exact .inr (by simp;lia)
  refine jC (I.ok.hd hc) D st R Q he λh1 hk=>⟨rfl,?_⟩;have fq:∀c∈[z,q,l,j],c∈[z,p,q,l,j]:=λc hc=>by simp only[Ar,Br,or_false]at hc⊢;rcases hc with w|w|w|w<;>simp[w]
  have I':=b9.turnedL' (s:=s) (h':=h1) (t':=s.toks) (fp:=[z,q,l,j]) I (λc o hc e=>hk c o (λw=>hc (by simp[w])) (λw=>hc (by simp[w])) (λw=>hc (by simp[w])) (λw=>hc (by simp[w])) e) λc hc=>t c (fq c hc);exact I'
 self:=λ_ i _ _ _ st h=>wpAny_pyIter_zip st.zip h
section
variable{X:Cx}{K:Ag}{ml:List Nat}{l m:Sf}{pa ta ia pb tb ib:Bool}{f g:VF}{p pos c7:Pos}{es:List Sf}{tk:Nat}{δ:Ev}
def iZp(K:Ag)(tl e:TE):TI:=λσ H R=>tl σ H λx H1=>e σ H1 λy H2=>∃a b d c,x=.ref a/\y=.ref b/\(∃xs,IS K d H2 a xs)/\(∃ys,IS K c H2 b ys)/\R (Itz K d c a b) H2
def mK{tl q:TE}(F:Gl X "zip")(E:X.mg "zip"=b5)(hl:PE X l tl)(C:PE X m q)(r:SE X l [m]:=by rfl)(o:SE X m []:=by rfl)(n:(Ct pos (Ap [m] X.env)).any (·.1)=bb:=by rfl):PI X (.Tuple es tk c7) (.Call (.Name "zip" p) [l,m] [] pos) (iZp X.K tl q):=by
 intro aa s σ H R I h;refine Dq (OK I F E nq ?_ (by decide) (by decide));refine Ew (ZP (bL hl (bL C ZX o) r pos aa s σ H (λvs H1=>match vs with
  |[x,y]=>∃a b e d,x=.ref a/\y=.ref b/\(∃xs,IS X.K e H1 a xs)/\(∃ys,IS X.K d H1 b ys)/\R (Itz X.K e d a b) H1
  |_=>False) I h) λus s1 ⟨vs,H1,g,i,q1⟩=>?_) r n
 match vs,i,q1 with
 |[x,y],i,q1=>
  obtain⟨a,b,e,d,rfl,rfl,⟨xs,k⟩,⟨ys,j⟩,L⟩:=q1;obtain⟨u,v,rfl,B,A⟩:=GC i;cases B;cases A;obtain⟨us,O,z,_⟩:=g.srcA k;obtain⟨vs,N,t,_⟩:=g.srcA j;refine ju z t λh' st kp=>?_;have M:b9 X aa σ H1 {s1 with heap:=h'}:=g.kept (t':=s1.toks) kp;have J:=z.lt;have G:=t.lt;have D:Me (s1.heap.objs.size+4) (s1.heap.objs.size+2) (s1.heap.objs.size+3) s1.heap.objs.size (s1.heap.objs.size+1) a b:=by exact fF _ a b J G
  refine wpAny_pyIter_zip st.zip ⟨s1.heap.objs.size+4,[s1.heap.objs.size+4,s1.heap.objs.size+2,s1.heap.objs.size+3,s1.heap.objs.size,s1.heap.objs.size+1],_,Itz X.K e d a b,H1,rfl,M,iy e d _ _ _ _ _ a b D,st,λc hc=>?_,L⟩;have f:s1.heap.objs.size<=c:=by simp only[Ar,Br,or_false]at hc;rcases hc with w|w|w|w|w<;>rw[w]<;>first|exact Gc _ _|exact Ax _
  exact g.fpOk f (g.hok.fresh f)
def dH(h:X.K=K){tl c:TE}(f:Gl X "zip")(e:X.mg "zip"=b5)(hl:PE X l tl)(d:PE X m c)(g:SE X l [m]:=by rfl)(b:SE X m []:=by rfl)(a:(Ct pos (Ap [m] X.env)).any (·.1)=bb:=by rfl):PI X (.Tuple es tk c7) (.Call (.Name "zip" p) [l,m] [] pos) (iZp K tl c):=by subst h;exact mK f e hl d g b a
noncomputable def RB:List cT->List cT->List cT
 |d::ds,e::es=>.tup [d,e]::RB ds es
 |_,_=>[]
def iZip(f g:VF):VI:=λδ=>(f δ).bind λp=>(g p.2).bind λq=>(WZ p.1).bind λds=>(WZ q.1).map λes=>(RB ds es,q.2)
theorem GI:∀{ds es:List cT}{i:Nat}{d:cT},(RB ds es)[i]?=b3 d->∃x y,ds[i]?=b3 x/\es[i]?=b3 y/\d=.tup [x,y]
 |[],_,_,_,h=>by simp[RB]at h
 |_::_,[],_,_,h=>by simp[RB]at h
 |x::ds,y::es,0,d,h=>by simp[RB]at h;exact⟨x,y,rfl,rfl,h.symm⟩
 |x::ds,y::es,i+1,d,h=>by obtain⟨b,a,h1,h2,c⟩:=GI (ds:=ds) (es:=es) (i:=i) (d:=d) (by simpa[RB]using h);exact⟨b,a,by simpa using h1,by simpa using h2,c⟩
theorem GJ:∀{ds es:List cT},ds.length<=(RB ds es).length∨es.length<=(RB ds es).length
 |[],_=>.inl (Ee _)
 |_::_,[]=>.inr (Ee _)
 |x::ds,y::es=>by
  rcases GJ (ds:=ds) (es:=es)with h|h
  ·exact .inl (Pq h)
  ·exact .inr (Pq h)
def jL:cT->Bool
 |.tup _=>ba
 |_=>bb
def bB.sqA{N M:Sa->Prop}{H:Hp}{v:V}{d:cT}{ds:List cT}(h:bB K N H M v d)(e:WZ d=b3 ds):∃a tup xs,v=.ref a/\IS K tup H a xs/\b6 K N H xs ds/\tup=jL d:=by
  cases d<;>first
    | (cases e
       obtain⟨a,xs,h1,h2,b⟩:=h.tupE;exact⟨a,ba,xs,h1,h2,b,rfl⟩)
    | (cases e
       obtain⟨a,xs,h1,h2,b⟩:=h.lstE;exact⟨a,bb,xs,h1,h2,b,rfl⟩)
    |cases e
def Wq(hK:X.K=K)(hg:Gl X "zip")(hm:X.mg "zip"=b5)(h:PE X l (TV K ml pa ba ba f))(h':PE X m (TV K ml pb ba ba g))(he:SE X l [m]:=by rfl)(F:SE X m []:=by rfl)
  (D:(Ct pos (Ap [m] X.env)).any (·.1)=bb:=by rfl):PI X (.Tuple es tk c7) (.Call (.Name "zip" p) [l,m] [] pos) (TIV K ml (pa&&pb) (iZip f g)):=(dH (K:=K) hK hg hm h h' he F D).imp λσ H R C=>by
 obtain⟨B,O,δ,ds,s,S,q,k⟩:=C;unfold iZip at q;obtain⟨⟨x,δ1⟩,h1,q⟩:=Aa.mp q;cases h2:g δ1 with
 |none=>simp[h2]at q
 |some p2=>
  obtain⟨y,r⟩:=p2;simp only[Ay,h2]at q;obtain⟨xs,T,q⟩:=Aa.mp q;have q:(WZ y).map (λes=>(RB xs es,r))=b3 (ds,s):=q;obtain⟨ys,Q,q⟩:=An.mp q;cases q;refine⟨B,O,δ,x,δ1,S,h1,λu H1 o=>⟨B,O,δ1,y,_,o.sta,h2,λt H2 R2=>?_⟩⟩;have P:=o.rep.fr R2.frm (λa z=>.inr z) λa z=>.inr z;obtain⟨a,M,us,Y,q1,w1,J⟩:=P.sqA T;obtain⟨b,L,vs,W,q2,w2,I⟩:=R2.rep.sqA Q;refine⟨a,b,M,L,Y,W,⟨us,q1⟩,⟨vs,q2⟩,k _ [(u,x),(t,y)] H2 (R2.sta.keepV λz hz=>?_) (o.frm.trans R2.frm) (λz=>?_) ?_⟩
  ·simp only[Ar,Br,or_false]at hz
   rcases hz with rfl|rfl
   ·exact P
   ·exact R2.rep
  ·obtain⟨z1,z2⟩:=(Af _ _).mp z
   exact(o.pur z1).trans (R2.pur z2)
  ·intro N H h
   obtain⟨a',A,j,f1,f2,f3,f4⟩:=(h (u,x) (by simp)).sqA T;obtain⟨b',v,c,n,G,U,g4⟩:=(h (t,y) (by simp)).sqA Q;have f1:u=.ref a':=f1;have n:t=.ref b':=n;rw[Y]at f1;rw[W]at n;cases f1;cases n;have:A=M:=f4.trans J.symm
   subst this;have:v=L:=g4.trans I.symm
   subst this;refine⟨λi d e=>?_,j,c,f2,G,?_⟩
   ·obtain⟨dx,dy,hx,hy,rfl⟩:=GI e
    obtain⟨ux,ex,rx⟩:=f3.get hx;obtain⟨uy,V,ry⟩:=U.get hy;refine⟨⟨j,c,ux,uy,f2,G,ex,V⟩,λz H' hz=>?_⟩;obtain⟨pp,x',y',c1,c2,E,rfl,rfl⟩:=hz;have d1:=c1 j f2;have Z:=c2 c G;rw[ex]at d1;rw[V]at Z;cases d1;cases Z;exact⟨cK E,.tup (UO.of cG) (.cons (rx.same (cK E)) (.cons (ry.same (cK E)) .nil))⟩
   ·rcases GJ (ds:=xs) (es:=ys)with w|w
    ·exact .inl (by rw[f3.length];exact w)
    ·exact .inr (by rw[U.length];exact w)
end
end L2
namespace L2
open PySem PySem.Spec PyProof.Rows PySem.W
section
variable{prog:Az}{w:Sg}{A:Cb}{E:Rz->Ad->Prop}{s:Ad}
def EA{t:Sa}{items:Array Rz}{Q:List Rz->Ad->Prop}(m:A.handled=b5)(f:IsTup s.heap t items)(h1:1<=items.size)(hz:items.size<=16777216)(n:∀(x:Rz) (c:Si) (tk:Nat),items[0]?=b3 x->(∀b o,s.heap.get? b=b3 o->c.get? b=b3 o)->Q [x,.ref c.objs.size] {s with heap:=c.push {cls:=.type "list",data:=.seq (items.toList.drop 1).toArray},toks:=tk}):Sd (Se prog w) A (Km (.ref t) 2 (b3 1)) Q E s:=by
 have a:t≠s.heap.objs.size:=by obtain⟨o,e,_⟩:=f;exact Bl (As e)
 (unfold Km)
 refine Ac ?_
 (unfold notIterableAtAll)
 refine Ac (wpAny_specialOf f.typeIs slot_tuple_iter.lookup (Aq ?_));simp only[Ec,if_false];refine Ac (Cc (iter_tuple f (Ac (Cc (draw_tuple a 1 0 _ _ ⟨_,Aw _ rfl,rfl,rfl⟩ (f.push _) (by lia) λg ia h=>?_)))));have ta:IsTup g t items:=(f.push _).extBut h.extBut a;have ia:g.IsTupleIter s.heap.objs.size t 1:=ia;obtain⟨F,q,_⟩:=id ia;obtain⟨D,p,_⟩:=id ta;have hsz:g.objs.size=s.heap.objs.size+1:=by rw[h.1,Di]
 have v:((items.toList.drop 0).take 1).length=1:=by simp;lia
 rw[if_neg (show¬((items.toList.drop 0).take 1).length<1 by rw[v];exact Db _)];refine Ac (Cc (kun_collect (s:={s with heap:=g}) (T:= "tuple_iterator") (.inr (.inr (.inr rfl))) (Walks.tuple (A:=A.in1) m s.heap.objs.size t a items) (λj u st=>st.1.typeIs) (k:=1) h1 ⟨ia,ta⟩ (As q) (As p) (λc tk l=>?_) (by rw[Ce];exact hz)));have G:(items.toList.drop 1).length=items.size-1:=by simp
 show Sd _ _ (if(items.toList.drop 1).length<2-1-1 then _ else _) _ _ _;rw[if_neg (Qh _)];show Sd _ _ (newList ((items.toList.drop 1).take ((items.toList.drop 1).length-(2-1-1)))>>=λd=>pure ((items.toList.drop 0).take 1++[d]++(items.toList.drop 1).drop ((items.toList.drop 1).length-(2-1-1)))) _ _ _;have C:(items.toList.drop 1).take ((items.toList.drop 1).length-(2-1-1))=items.toList.drop 1:=Cz (Ax _);have B:(items.toList.drop 1).drop ((items.toList.drop 1).length-(2-1-1))=[]:=Lb;rw[C,B];refine Ac (Dv (Aq ?_) (by show _<=sizeLine;rw[Ce];simp;lia));obtain⟨x,i⟩:∃x,items[0]?=b3 x:=⟨items[0],by simp[show 0<items.size by lia]⟩;have z:(items.toList.drop 0).take 1=[x]:=by
  rw[Qo];have:items.toList[0]?=b3 x:=by simpa using i
  cases hl:items.toList with
  |nil=>rw[hl]at this;cases this
  |cons y r=>rw[hl]at this;cases this;rfl
 rw[z];have keep:∀b o,s.heap.get? b=b3 o->c.get? b=b3 o:=λb o e=>l b o (Bl (As e)) (h.extBut b o (Bl (As e)) (Ae _ e));exact n x c tk i keep
end
section
variable{X:Cx}{K:Ag}{ml:List Nat}{e a b c:Sf}{es:List Sf}{pa ta ia pb tb ib pc tc ic pu bt bi ps bs:Bool}{fa fb fc f:VF}{B B':Bs}{O:Nat->Option Sa}{H H0 H1 H':Hp}{σ:St}{δ δ':Ev}{v:V}{d:cT}{p:Sa}{pos:Pos}
def gZ(K:Ag)(i j:Nat):TG:=λv σ H Q=>∃a x xs,v=.ref a/\UO K H a (x::xs)/\∀p,H p=b5->Q ((σ.set i (b3 x)).set j (b3 (.ref p))) (upd H p (.lst xs))
def lj{i j:Nat}{x y:Sb}{d c ps p:Pos}{k:Nat}(hc:X.calm=ba)(n:X.N.Nodup)(hi:X.N[i]?=b3 x)(E:X.N[j]?=b3 y)(A:Loc X.env.scope x)(t:Loc X.env.scope y)(fx:X.fn x=ba∨X.env.scope.names.lookup x=b3 .local)(F:X.fn y=ba∨X.env.scope.names.lookup y=b3 .local)(hl:(Sh [.Name x d,.Starred (.Name y c) ps] X.env).map (·.2)=[assign (.Name x d) X.env,assign (.Name y c) X.env])(D:(Sh [.Name x d,.Starred (.Name y c) ps] X.env).length=2)(g:(Sh [.Name x d,.Starred (.Name y c) ps] X.env).findIdx? (·.1)=b3 1):PG X (.Tuple [.Name x d,.Starred (.Name y c) ps] k p) (gZ X.K i j):=by
 intro aa s σ H v u Q I r hw;obtain⟨a,z,zs,G,C,q⟩:=hw;subst G;cases r;obtain⟨its,m,B,hz⟩:=I.tuple C;rw[assign_Tuple];refine Ac (Hm ?_)
 (unfold unpack)
 rw[D,g];have l:=m.length;rw[Cg]at l;have e:its.length<=16777216:=by rw[<-Ce,<-l];exact hz
 refine Ac (Cc (EA (I.ok.hd hc) B (by rw[Ak];lia) (by rw[Ak];exact e) λu h tk f kp=>?_));rw[hl];cases m with
 | @cons _ w _ ws rz b=>
  have f:b3 w=b3 u:=by simpa using f
  cases f;have o:b9 X aa σ H {s with heap:=h,toks:=tk}:=I.kept kp;have M:=b9.lnew (s:={s with heap:=h,toks:=tk}) (t':=tk) o b (by rw[Ce];simp only[Cg]at e l;have:=b.length;lia);refine Gi (Ke (WJ M n hi A rz (λP L=>?_) fx));refine Gi (Ke (WJ L n E t (v:=.ref h.objs.size) rfl (λO J=>Kf ⟨_,_,J,q _ (o.hok.fresh (Ax _))⟩) F))
noncomputable def J4(i j:Nat)(f:VF):VS:=λδ=>(f δ).bind λp=>match p.1 with
 |.tup (d::ds)=>b3 (.nx ((p.2.set i (.va d)).set j (.va (.lst ds))))
 |_=>b5
def CQ{i j:Nat}{x y:Sb}{g b sp h:Pos}{k:Nat}(Q:X.K=K)(hc:X.calm=ba)(P:X.N.Nodup)(hi:X.N[i]?=b3 x)(J:X.N[j]?=b3 y)(L:i≠j)(F:Loc X.env.scope x)(E:Loc X.env.scope y)(M:PE X e (TV K ml pu ba ba f))(t:i∉ml:=by decide)(s:j∉ml:=by decide)(fx:LO X x:=by first|exact .inl rfl|exact .inr rfl|assumption)(T:LO X y:=by first|exact .inl rfl|exact .inr rfl|assumption)(hl:(Sh [.Name x g,.Starred (.Name y b) sp] X.env).map (·.2)=[assign (.Name x g) X.env,assign (.Name y b) X.env]:=by rfl)(I:(Sh [.Name x g,.Starred (.Name y b) sp] X.env).length=2:=by rfl)(m:(Sh [.Name x g,.Starred (.Name y b) sp] X.env).findIdx? (·.1)=b3 1:=by rfl)(G:Ff [.Tuple [.Name x g,.Starred (.Name y b) sp] k h] e pos.line X.env=pure bb:=by rfl)(hw:Fg [.Tuple [.Name x g,.Starred (.Name y b) sp] k h] e X.env=pure b5:=by rfl)(h1:(Sh [.Tuple [.Name x g,.Starred (.Name y b) sp] k h] X.env).map (·.2)=[assign (.Tuple [.Name x g,.Starred (.Name y b) sp] k h) X.env]:=by rfl):PS X (.Assign [.Tuple [.Name x g,.Starred (.Name y b) sp] k h] e pos) (V5 K ml (J4 i j f)):=by
 subst Q;refine(OS M (lj hc P hi J F E fx T hl I m) G hw h1).imp λD σ H n=>?_;obtain⟨B,O,δ,o,S,q,k⟩:=n;unfold J4 at q;obtain⟨⟨z,δ1⟩,h1,q⟩:=Aa.mp q;refine⟨B,O,δ,z,δ1,S,h1,λv H1 R=>?_⟩;cases z with
 |tup ds=>
  cases ds with
  |nil=>cases q
  |cons d ds=>
   cases q;obtain⟨a,xs,rfl,sq,r⟩:=R.rep.tupE;cases r with
   | @cons w vs _ _ C A=>
    refine⟨a,w,vs,rfl,sq,λp l=>?_⟩;have U:=(R.sta.same (cK (o:=.lst vs) l)).setVa t (C.same (cK (o:=.lst vs) l));have u:∀c,Nn B (λj=>if j=i then b5 else O j) c->Nn B O c:=NT (o:=b5);refine k _ _ _ (U.setVa s (.lst cG (λz=>R.sta.new l (u _ z)) ((A.same (cK l)).mono u)))
 |_=>cases q
end
end L2
namespace L2
open PySem PySem.Spec PyProof.Rows
section
variable{X:Cx}{K:Ag}{ml:List Nat}{e a b c:Sf}{es:List Sf}{pa ta ia pb tb ib pc tc ic pu bt bi ps bs:Bool}{fa fb fc f:VF}{B B':Bs}{O:Nat->Option Sa}{H H0 H1 H':Hp}{σ:St}{δ δ':Ev}{v:V}{d:cT}{p:Sa}{pos:Pos}
def rInD(K:Ag)(neg:Bool):R2:=λx y H Q=>∃d e ds,Dp K H x d/\Dp K H y e/\(e=.list ds∨e=.tuple ds)/\Ej d=ba/\Ej e=ba/\Q (.bl (if neg then !ds.any (λz=>Iq z d)else ds.any λz=>Iq z d)) H
def P0{d:Mm}(h:Ej d=ba):d.canLay0=ba/\d.depth<=64:=by unfold Ej at h;simp only[Af,decide_eq_true_eq]at h;exact h
def Wl(neg:Bool)(o:X.A.units+64<cLine):WV X (Cu (if neg then .NotIn else .In)) (rInD X.K neg):=by
 intro aa s σ H x y v u Q I l j h;obtain⟨d,e,ds,hd,m,hk,i,g,q⟩:=h;obtain⟨as,h1⟩:=I.reads hd l;obtain⟨bs,h2⟩:=I.reads m j;obtain⟨b,p⟩:=P0 i;obtain⟨f,c⟩:=P0 g;have fin:∀k,(k=if neg then !ds.any (λz=>Iq z d)else ds.any λz=>Iq z d)->EP X aa σ Q (.bool k) s:=λk hk=>by subst hk;exact⟨.bl _,H,I,rfl,q⟩
 rcases hk with rfl|rfl
 ·have hc : Ic ds = ba := by simpa [Gg]using f
  have n:Ez ds<=63:=by simp only[Ii]at c;lia
  have a:X.A.units+1+min (Ez ds) d.depth<cLine:=by have:=Qi (Ez ds) d.depth;lia
  cases neg with
  |false=>exact SeqAt.in_list_reads h2 h1 hc b a (fin _ rfl)
  |true=>exact SeqAt.notIn_list_reads h2 h1 hc b a (fin _ rfl)
 ·have hc : Ic ds = ba := by simpa [Gg]using f
  have n:Ez ds<=63:=by simp only[Ii]at c;lia
  have a:X.A.units+1+min (Ez ds) d.depth<cLine:=by have:=Qi (Ez ds) d.depth;lia
  cases neg with
  |false=>exact SeqAt.in_tuple_reads h2 h1 hc b a (fin _ rfl)
  |true=>exact SeqAt.notIn_tuple_reads h2 h1 hc b a (fin _ rfl)
def HP(a:X.A.units+64<cLine)(h:X.K=K:=by rfl):WV X (Cu .In) (rInD K bb):=by subst h;exact Wl bb a
def HR(a:X.A.units+64<cLine)(h:X.K=K:=by rfl):WV X (Cu .NotIn) (rInD K ba):=by subst h;exact Wl ba a
def inE(d:cT)(ds:List cT):Bool:=(pds ds).any λz=>Iq z d.pd
def UG(neg:Bool)(d e:cT):Option cT:=(WZ e).bind λds=>if(JY d&&JY e)=ba then b3 (.bl (if neg then !inE d ds else inE d ds))else b5
def TW{neg:Bool}:N0 K (rInD K neg) (UG neg):=by
 intro H N N' M M' x y d e c Q g f h k;unfold UG at h;obtain⟨ds,b,h⟩:=Aa.mp h;have h:(if(JY d&&JY e)=ba then b3 (cT.bl (if neg then !inE d ds else inE d ds))else b5)=b3 c:=h;split at h
 ·rename_i a
  cases h;simp only[JY,Af]at a;refine⟨d.pd,e.pd,pds ds,g.dp a.1.1,f.dp a.2.1,?_,a.1.2,a.2.2,k _ λ_ _ _=>.bl _⟩;cases e<;>first
   |(cases b;exact .inr rfl)
   |(cases b;exact .inl rfl)
   |cases b
 ·cases h
def Ys(K:Ag)(td ty:TE):TE:=λσ H Q=>td σ H λx H1=>∃a,x=.ref a/\((IsD H1 a/\ty σ H1 λy H2=>∃o,NY H2 a y o/\Q (o.getD .non) H2)∨∃D,KTab K a D/\ty σ H1 λy H2=>∃k,y=.str k/\Q ((Fp k D).getD .non) H2)
def kQ{af ae:Pos}{td ty:TE}(B:X.A.units+1<cLine)(C:PE X a td)(j:PE X e ty)(m:M1 X a "get" af e ae):PE X (.Call (.Attribute a "get" af) [e] [] ae) (Ys X.K td ty):=by
 intro aa s σ H Q I h;refine Of m.base m.few m.line Kp Dx Lr (ZP (C aa s σ H _ I h) λu s1 ⟨x,H1,d,v,l,ex,q1⟩=>?_);subst ex;obtain rfl:u=Bk l:=v;rcases q1 with⟨hd,q1⟩|⟨D,T,q1⟩
 ·obtain⟨r,p,_⟩:=Uj d hd
  refine⟨r,p,?_⟩;rw[m.trees];refine Gh rfl (Ft (Gj (ZP (j aa s1 σ H1 _ d q1) λw s2 ⟨y,H2,c,f,O,g,q2⟩=>Hz ?_)));exact kD B c g f λw' N M i=>⟨_,H2,M,i,q2⟩
 ·obtain⟨J,o,P,R,hk,hex,S,_⟩:=id T
  refine⟨⟨o,d.kIn _ _ hk,hex.1⟩,λb q=>?_,?_⟩
  ·cases q
   exact⟨o,d.kIn _ _ hk,hex.2.1⟩
  rw[m.trees];refine Gh rfl (Ft (Gj (ZP (j aa s1 σ H1 _ d q1) λw s2 ⟨y,H2,c,f,k,L,q2⟩=>Hz ?_)));subst L;obtain⟨t,rfl⟩:=f;have G:s2.TypeIs (.ref l) "dict":=⟨o,c.kIn _ _ hk,hex.1⟩;refine Eo Dx G Fa ?_ (Hu _ _);show Sd _ _ (dictGet l (.str k t)>>=_) _ _ s2;refine Ac (FK c.kIn T (λd' n F z=>Aq ⟨n,rfl,?_⟩) λE=>?_)
  ·rw[F]at q2
   exact⟨d',H2,c.tok _,z,q2⟩
  ·rw[E]at q2
   show Sd _ _ (Mv l (.str k t)>>=_) _ _ _;unfold Mv;rw[if_neg (by rw[J];exact Ea)];exact Ac (Aq (Aq ⟨.none,rfl,.non,H2,c.tok _,rfl,q2⟩))
def Tw:cT->cT->Option cT
 |.dct ks ds,.str x=>b3 ((bJ ks ds (.inr x)).getD .non)
 |_,_=>b5
def gE{af ae:Pos}(P:X.K=K)(J:X.A.units+1<cLine)(N:PE X a (TV K ml pa ta ia fa))(M:PE X b (TV K ml pb tb ib fb))(m:M1 X a "get" af b ae)(g:(pb || (ta&&ia))=ba:=by rfl):PE X (.Call (.Attribute a "get" af) [b] [] ae) (TV K ml (pa&&pb) ia ia (f2 Tw fa fb)):=by
 subst P;refine(kQ J N M m).imp λσ H Q u=>?_;obtain⟨B,O,δ,d,c,S,q,k⟩:=u;obtain⟨x,δ1,y,h1,h2,C⟩:=QC q;refine⟨B,O,δ,x,δ1,S,h1,λR H1 j=>?_⟩;have fin:∀p H2 (R2:AQ X.K ml B O H1 σ pb tb ib H2 c p y) o,bB X.K (av B O ia) H2 (av B O ia) o d->Q o H2:=λp H2 R2 o L=>k o H2 ⟨R2.sta,j.frm.trans R2.frm,λz=>by obtain⟨i,h⟩:=(Af _ _).mp z;exact(j.pur i).trans (R2.pur h),L.mono (λ_ z=>z) Xj⟩
 cases x with
 |dct ks ds=>
  cases y with
  |str z=>
   cases C;have I:=j.rep;cases I.onD with
   | @dct l kvs t n r F=>
    subst F;refine⟨l,rfl,.inl ⟨.inl ⟨_,Rd.of t⟩,B,O,δ1,_,c,j.sta,h2,λp H2 R2=>?_⟩⟩;have s:=R2.rep;cases s.onS;have G:H2 l=b3 (.dK kvs)/\b6 X.K (av B O ia) H2 (kvs.map Fb) ds:=by
     cases pb with
     |true=>exact⟨R2.pur rfl _ _ t,r.same (R2.pur rfl)⟩
     |false=>
      have g:(ta&&ia)=ba:=by simpa using g
      obtain⟨i,h⟩:=(Af _ _).mp g;subst i h;exact⟨R2.frm _ _ t λw=>absurd (.inr w) n,r.fr R2.frm λa z=>.inr z⟩
    refine⟨_,NY.k (k:=.inr z) G.1,fin _ _ R2 _ ?_⟩;rcases PL (k:=.inr z) G.2 with⟨v,d',f,e,E⟩|⟨f,e⟩
    ·rw[f,e];exact E
    ·rw[f,e];exact .non
   | @ktb l D T r F=>
    subst F;refine⟨l,rfl,.inr ⟨D,T,B,O,δ1,_,c,j.sta,h2,λp H2 R2=>?_⟩⟩;have s:=R2.rep;cases s.onS;refine⟨z,rfl,fin _ _ R2 _ ?_⟩;have r':b6 X.K (av B O ia) H2 (D.map Fb) ds:=by
     cases pb with
     |true=>exact r.same (R2.pur rfl)
     |false=>
      have g:(ta&&ia)=ba:=by simpa using g
      obtain⟨i,h⟩:=(Af _ _).mp g;subst i h;exact r.fr R2.frm λa z=>.inr z
    rcases N9 (k:=z) r' with⟨v,d',f,e,E⟩|⟨f,e⟩
    ·rw[f,e];exact E
    ·rw[f,e];exact .non
  |_=>cases C
 |_=>cases C
end
def Uk:Bm "all"=b3 (.builtin "all"):=by decide+kernel
def Ve:Bm "any"=b3 (.builtin "any"):=by decide+kernel
section
variable{X:Cx}{K:Ag}{ml:List Nat}{e a b c:Sf}{es:List Sf}{pa ta ia pb tb ib pc tc ic pu bt bi ps bs:Bool}{fa fb fc f:VF}{B B':Bs}{O:Nat->Option Sa}{H H0 H1 H':Hp}{σ:St}{δ δ':Ev}{v:V}{d:cT}{p:Sa}{pos:Pos}
def iI{ks:List Bool}{us:List Rz}(r:bI (ks.map V.bl) us){i:Nat}{u:Rz}(h:us[i]?=b3 u):∃k,ks[i]?=b3 k/\u=.bool k:=by
 have hl:=r.length;rw[Ba]at hl;have hi:i<us.length:=(Ai.mp h).1;have e:(ks.map V.bl)[i]?=b3 (.bl ks[i]):=by simp[hl▸hi]
 obtain⟨w,h1,h2⟩:=r.get e;rw[h]at h1;cases h1;exact⟨ks[i],by simp[hl▸hi],h2⟩
def m6{ks:List Bool}:(Cq ks.length).all (λi=>(ks[i]?).getD ba)=ks.all id:=by
 induction ks with
 |nil=>rfl
 |cons k ks a=>
  rw[Cg,Lg,Ks,Rp,Ks,<-a];rfl
def iV{ks:List Bool}:(Cq ks.length).any (λi=>(ks[i]?).getD ba)=ks.any id:=by
 induction ks with
 |nil=>rfl
 |cons k ks a=>
  rw[Cg,Lg,Hs,List.any_map,Hs,<-a];rfl
def MF(K:Ag)(g:List Bool->Bool):RC:=λxs H Q=>∃p ks,xs=[.ref p]/\XV K H p (ks.map V.bl)/\Q (.bl (g ks)) H
def GA{prog:Az}{w:Sg}{A:Cb}{ks:List Bool}{us:List Rz}(r:bI (ks.map V.bl) us):TruthOf prog w A (λi v=>us.toArray[i]?=b3 v) λi=>(ks[i]?).getD ba:=by intro i v s Q E b a;obtain⟨k,h1,rfl⟩:=iI r (by simpa using b);have a:Q ((ks[i]?).getD ba) s:=a;rw[h1]at a;exact Et a
def nk(hc:X.calm=ba):aF X (.builtin "all") (MF X.K λks=>ks.all id):=by
 intro aa s σ H xs us Q I r h;obtain⟨l,ks,rfl,f,q⟩:=h;obtain⟨u,rfl,e⟩:=Q7 r;cases e;obtain⟨its,c,pl,hz⟩:=I.list f;have hl:=pl.isList;have a:l≠s.heap.objs.size:=by obtain⟨o,g,_⟩:=hl;exact Bl (As g)
 have d:=c.length;rw[Ba]at d;refine call_all_walk (Gr hl ⟨_,_,_,_,_,_,_,rfl,Walks.list (show X.A.in1.handled=b5 from I.ok.hd hc) s.heap.objs.size l a its.toArray,⟨⟨_,Aw _ rfl,rfl,rfl⟩,?_⟩,GA c,λh' tk hk=>?_⟩)
 ·obtain⟨o,g,r⟩:=hl
  exact⟨o,Ae _ g,r⟩
 ·rw[Ak,<- d,m6]
  exact⟨.bl _,H,I.kept (t':=tk) λb o g=>hk b o (by simp;exact Bl (As g)) (Ae _ g),rfl,q⟩
def jz(hc:X.calm=ba):aF X (.builtin "any") (MF X.K λks=>ks.any id):=by
 intro aa s σ H xs us Q I r h;obtain⟨l,ks,rfl,f,q⟩:=h;obtain⟨u,rfl,e⟩:=Q7 r;cases e;obtain⟨its,c,pl,hz⟩:=I.list f;have hl:=pl.isList;have a:l≠s.heap.objs.size:=by obtain⟨o,g,_⟩:=hl;exact Bl (As g)
 have d:=c.length;rw[Ba]at d;refine call_any_walk (Gr hl ⟨_,_,_,_,_,_,_,rfl,Walks.list (show X.A.in1.handled=b5 from I.ok.hd hc) s.heap.objs.size l a its.toArray,⟨⟨_,Aw _ rfl,rfl,rfl⟩,?_⟩,GA c,λh' tk hk=>?_⟩)
 ·obtain⟨o,g,r⟩:=hl
  exact⟨o,Ae _ g,r⟩
 ·rw[Ak,<- d,iV]
  exact⟨.bl _,H,I.kept (t':=tk) λb o g=>hk b o (by simp;exact Bl (As g)) (Ae _ g),rfl,q⟩
def kAll(hc:X.calm=ba)(h:X.K=K:=by rfl):aF X (.builtin "all") (MF K λks=>ks.all id):=by subst h;exact nk hc
def kAny(hc:X.calm=ba)(h:X.K=K:=by rfl):aF X (.builtin "any") (MF K λks=>ks.any id):=by subst h;exact jz hc
noncomputable def N6:List cT->Option (List Bool)
 |[]=>b3 []
 |.bl k::ds=>(N6 ds).map λks=>k::ks
 |_=>b5
theorem AS{N:Sa->Prop}:∀{xs:List V}{ds:List cT}{ks:List Bool},b6 K N H xs ds->N6 ds=b3 ks->xs=ks.map V.bl
 |_,_,_,.nil,h=>by cases h;rfl
 | _,_,_,@b6.cons _ _ _ v vs d ds h t,e => by
  cases d with
  |bl k=>
   cases h;have e:(N6 ds).map (λks=>k::ks)=b3 _:=e;cases h2:N6 ds with
   |none=>rw[h2]at e;cases e
   |some a=>
    rw[h2]at e;cases e;rw[AS t h2,Be]
  |_=>cases e
def BM(g:List Bool->Bool):cT->Option cT
 |.lst ds=>(N6 ds).map λks=>.bl (g ks)
 |_=>b5
abbrev oAll:=BM λks=>ks.all id
abbrev oAny:=BM λks=>ks.any id
def Xi{g:List Bool->Bool}:CT K (MF K g) (BM g):=by
 intro H N M x d c Q b h k;cases d with
 |lst ds=>
  have h:(N6 ds).map (λks=>cT.bl (g ks))=b3 c:=h;obtain⟨ks,h1,h⟩:=An.mp h;cases h;obtain⟨a,xs,rfl,sq,r⟩:=b.lstE;have:=AS r h1
  subst this;exact⟨a,ks,rfl,sq,k _ λ_ _ _=>.bl _⟩
 |_=>cases h
def Va:CT K (MF K λks=>ks.all id) oAll:=Xi
def Vn:CT K (MF K λks=>ks.any id) oAny:=Xi
noncomputable def QY:List cT->Option (List Int)
 |[]=>b3 []
 |.int i::ds=>(QY ds).map λns=>i::ns
 |_=>b5
theorem LR{N:Sa->Prop}:∀{xs:List V}{ds:List cT}{ns:List Int},b6 K N H xs ds->QY ds=b3 ns->xs=ns.map V.int
 |_,_,_,.nil,h=>by cases h;rfl
 | _,_,_,@b6.cons _ _ _ v vs d ds h t,e => by
  cases d with
  |int k=>
   cases h;have e:(QY ds).map (λks=>k::ks)=b3 _:=e;cases h2:QY ds with
   |none=>rw[h2]at e;cases e
   |some a=>
    rw[h2]at e;cases e;rw[LR t h2,Be]
  |_=>cases e
theorem F1{N:Sa->Prop}:∀ns:List Int,b6 K N H (ns.map V.int) (ns.map cT.int)
 |[]=>.nil
 |i::ns=>.cons (.int i) (F1 ns)
def P1(ns:List Int):List Int:=ns.mergeSort (λa b=>decide (a<=b))
def F8{d ns:List Int}(h1:d.Perm ns)(h2:d.Pairwise (· <= ·)):d=P1 ns:=by have p:(P1 ns).Perm ns:=List.mergeSort_perm _ _;have s:(P1 ns).Pairwise (λa b=>decide (a<=b)=ba):=List.pairwise_mergeSort (λa b c h1 h2=>by simp at h1 h2⊢;lia) (λa b=>by simp;lia) ns;have s':(P1 ns).Pairwise (· <= ·):=s.imp λh=>of_decide_eq_true h;exact List.Perm.eq_of_pairwise (λa b _ _ h1 h2=>Int.le_antisymm h1 h2) h2 s' (h1.trans p.symm)
def DR:cT->Option cT
 |.lst ds=>(QY ds).bind λns=>if ns.length<64 then b3 (.lst ((P1 ns).map cT.int))else b5
 |_=>b5
def Uc(K:Ag):RC:=λxs H Q=>∃(p:Sa) (ns:List Int),xs=[.ref p]/\XV K H p (ns.map V.int)/\ns.length<64/\∀(l:Sa) (a:List Int),H l=b5->a.Perm ns->a.Pairwise (· <= ·)->Q (.ref l) (upd H l (.lst (a.map V.int)))
def jM(h:X.K=K:=by rfl):aF X (.builtin "sorted") (Uc K):=Yr h
def gG:CalN K (Uc K) DR:=by
 intro H N M x d c Q e h k;cases d with
 |lst ds=>
  have h:((QY ds).bind λns=>if ns.length<64 then b3 (cT.lst ((P1 ns).map cT.int))else b5)=b3 c:=h;obtain⟨ns,h1,h⟩:=Aa.mp h;have h:(if ns.length<64 then b3 (cT.lst ((P1 ns).map cT.int))else b5)=b3 c:=h;split at h
  ·rename_i hl
   cases h;obtain⟨a,xs,rfl,sq,r⟩:=e.lstE;have:=LR r h1
   subst this;refine⟨a,ns,rfl,sq,hl,λl g b h2 f=>?_⟩;have:=F8 h2 f
   subst this;exact k l _ _ b (F1 _) rfl
  ·cases h
 |_=>cases h
end
section
variable{X:Cx}{K:Ag}{ml:List Nat}{e:Sf}{es:List Sf}{pu bt bi bs:Bool}{f:VF}{fs:R8}
def cN(h:PE X e (TV K ml pu bt bi f))(a:(bt&&bi)=ba:=by rfl):PE X e (TV K ml pu ba ba f):=by obtain⟨h1,h2⟩:=(Af _ _).mp a;subst h1 h2;exact h
def Uw(h:PE X e (TV K ml pu bt bi f))(a:bi=ba:=by rfl):PE X e (TV K ml pu bt ba f):=by subst a;exact h
def bN(h:PA X es (GU K ml pu bs fs))(a:bs=ba:=by rfl):PA X es (GU K ml pu ba fs):=by subst a;exact h
def S5{st:Sj}:PS X st (V5 K ml λ_=>b5):=λ_ _ _ _ _ _ ⟨_,_,_,_,_,q,_⟩=>nomatch q
variable{a b c:Sf}{pa ta ia pb tb ib pc tc ic:Bool}{fa fb fc:VF}{pos:Pos}{δ:Ev}
def XS(i j k:Int):Int:=if i<j then(j-i-1)/k+1 else 0
noncomputable def HE(fa fb fc:VF):VF:=λδ=>(fa δ).bind λp=>(fb p.2).bind λq=>(fc q.2).bind λr=>match p.1,q.1,r.1 with
 |.int i,.int j,.int k=>if(0<k/\k<1073741824)/\XS i j k<9223372036854775808 then b3 (.int (XS i j k),r.2)else b5
 |_,_,_=>b5
def KS{i j k:Int}(hk:0<k):0<=XS i j k:=by
 unfold XS;split
 ·have := Lv (show 0 <= j-i-1 by lia) (show 0 <= k by lia)
  lia
 ·lia
def jF{P p2 h:Pos}(W:Gl X "len")(V:X.mg "len"=b5)(R:Bm "len"=b3 (.builtin "len"))(A:Gl X "range")(w:X.mg "range"=b5)(t:Bm "range"=b3 (.type "range"))(Z:PE X a (TV K ml pa ta ia fa))(Y:PE X b (TV K ml pb tb ib fb))(hc:PE X c (TV K ml pc tc ic fc))(G:SE X a [b,c]:=by rfl)(D:SE X b [c]:=by rfl)(C:SE X c []:=by rfl)(v:(Ct h (Ap [b,c] X.env)).any (·.1)=bb:=by rfl)(f:Ap (.Call (.Name "range" p2) [a,b,c] [] h::[]) X.env=(bb,eval (.Call (.Name "range" p2) [a,b,c] [] h) X.env)::Ap [] X.env:=by rfl):PE X (.Call (.Name "len" P) [.Call (.Name "range" p2) [a,b,c] [] h] [] pos) (TV K ml (pa && pb && pc) ba ba (HE fa fb fc)):=
 (PR G4 W V R (bL (OQ EW A w t (bL Z (bL Y (bL hc ZX C) D) G) (by decide) (by decide) G v) ZX f) (by decide) (by decide) f).imp λσ H Q u => by
  obtain⟨B,O,δ,d,r,S,q,k⟩:=u;unfold HE at q;obtain⟨⟨x,δ1⟩,h1,q⟩:=Aa.mp q;cases h2:fb δ1 with
  |none=>simp[h2]at q
  |some p2=>
   obtain⟨y,e⟩:=p2;simp only[Ay,h2]at q;cases E:fc e with
   |none=>simp[E]at q
   |some N=>
    obtain⟨z,o⟩:=N;simp only[Ay,E]at q;cases x with
    |int i=>
     cases y with
     |int j=>
      cases z with
      |int kk=>
       have q:(if(0<kk/\kk<1073741824)/\XS i j kk<9223372036854775808 then b3 (cT.int (XS i j kk),o)else b5)=b3 (d,r):=q;split at q
       ·rename_i g
        cases q;refine⟨B,O,δ,_,δ1,S,h1,λM H1 m=>⟨B,O,δ1,_,e,m.sta,h2,λL H2 R2=>⟨B,O,e,_,_,R2.sta,E,λJ I l=>?_⟩⟩⟩;have e1:M=.int i:=by exact m.rep.onI
        have e2:L=.int j:=by exact R2.rep.onI
        have e3:J=.int kk:=by exact l.rep.onI
        subst e1 e2 e3;refine⟨i,j,kk,rfl,g.1.1,g.1.2,λp U=>?_⟩;obtain⟨n,F⟩:=Hv (KS (i:=i) (j:=j) g.1.1);have T:Gb i j kk=(n:Int):=by rw[<-F];unfold Gb XS;rw[if_pos g.1.1]
        have s:aM I (upd I p (.ext (rngP p i j kk))):=cK U;refine⟨p,i,j,kk,n,rfl,cG,T,?_,?_⟩
        ·have : (2 : Int) ^ 63 = 9223372036854775808 := by decide
         lia
        ·rw[<- F]
         exact k _ _ ⟨l.sta.same s,((m.frm.trans R2.frm).trans l.frm).trans s.fr,λz=>by simp only[Af]at z;exact(((m.pur z.1.1).trans (R2.pur z.1.2)).trans (l.pur z.2)).trans s,.int _⟩
       ·cases q
      |_=>cases q
     |_=>cases q
    |_=>cases q
end
section
variable{X:Cx}{K:Ag}{ml:List Nat}{e a b c:Sf}{pa ta ia pb tb ib pu:Bool}{fa fb fc f:VF}{B:Bs}{O:Nat->Option Sa}{H H':Hp}{σ:St}{δ δ':Ev}{v:V}{d:cT}{p:Sa}{pos:Pos}{ks:List (Option Sf)}{vs:List Sf}
theorem JW:∀{more acc:List (aQ×V)},((acc++more).map Ed).Nodup->UF acc more=acc++more
 |[],acc,_=>by simp[UF]
 |(k,v)::more,acc,a=>by
  have hk:∀q∈acc,q.1≠k:=λq b z=>by rw[Au,Be]at a;exact(Op.mp a).2.2 q.1 (List.mem_map_of_mem b) k (by simp) z
  have c:RA acc k=b5:=by unfold RA;rw[List.find?_eq_none.mpr λq b=>by simpa using hk q b];rfl
  show UF (XR acc k v) more=_;rw[lJ v c,JW (by simpa using a)];simp
abbrev ER:=Ev->Option (List (aQ×cT)×Ev)
inductive TPDi(K:Ag)(ml:List Nat)(pu:Bool)(f:ER)(σ:St)(H:Hp)(Q:List (V×V)->Hp->Prop):Prop
 |mk (B:_) (O:_) (δ:_) (kds:_) (δ':_) (h0:aI K ml B O H σ δ) (h1:f δ=b3 (kds,δ')) (h2:∀(kvs:List (aQ×V)) H',aI K ml B O H' σ δ'->Fr (OA O) H H'->(pu=ba->aM H H')->kvs.map Ed=kds.map Ed->b6 K (Nn B O) H' (kvs.map Fb) (kds.map Fb)->Q (kvs.map λkv=>(kV kv.1,kv.2)) H'):TPDi K ml pu f σ H Q
def TPD(K:Ag)(ml:List Nat)(pu:Bool)(f:ER)(σ:St)(H:Hp)(Q:List (V×V)->Hp->Prop):Prop:=TPDi K ml pu f σ H Q
def PPV(X:Cx)(K:Ag)(ml:List Nat)(pu:Bool)(pos:Pos)(ks:List (Option Sf))(vs:List Sf)(f:ER):Prop:=∃a,PPs X pos ks vs a/\∀σ H Q,TPD K ml pu f σ H Q->IK a σ H Q
def Tb:ER:=λδ=>b3 ([],δ)
def OR(fk fv:VF)(fs:ER):ER:=λδ=>(fk δ).bind λp=>(U8 p.1).bind λk=>(fv p.2).bind λq=>(fs q.2).map λr=>((k,q.1)::r.1,r.2)
def ky:PPV X K ml ba pos [] [] Tb:=⟨[],dC,λσ H Q a=>by obtain⟨B,O,δ,b,δ',S,q,k⟩:=a;cases q;exact k [] H S (Fr.refl _ _) (λ_=>aM.refl _) rfl .nil⟩
def MS{fs:ER}(hk:PE X a (TV K ml pa ta ia fa))(s:PE X b (TV K ml pb ba ba fb))(t:PPV X K ml pu pos ks vs fs):PPV X K ml (pa&&pb&&pu) pos (b3 a::ks) (b::vs) (OR fa fb fs):=by
 obtain⟨n,h1,h2⟩:=t;refine⟨_,lP hk s h1,λσ H Q ⟨B,O,δ,r,l,S,q,k⟩=>?_⟩;unfold OR at q;obtain⟨⟨x,δ1⟩,w,q⟩:=Aa.mp q;cases i:U8 x with
 |none=>simp[i]at q
 |some kk=>
  simp only[Ay,i]at q;cases h:fb δ1 with
  |none=>simp[h]at q
  |some e=>
   obtain⟨y,c⟩:=e;simp only[Ay,h]at q;cases g:fs c with
   |none=>simp[g]at q
   |some p=>
    obtain⟨u,j⟩:=p;simp only[g]at q;cases q;refine⟨B,O,δ,x,δ1,S,w,λD H1 d=>⟨B,O,δ1,y,c,d.sta,h,λm H2 R2=>h2 _ _ _ ⟨B,O,c,u,_,R2.sta,g,λkvs C A f3 e f o=>?_⟩⟩⟩;have v:=d.rep.key i;subst v;refine k ((kk,m)::kvs) C A ((d.frm.trans R2.frm).trans f3) (λz=>?_) (by simp[f]) (.cons (R2.rep.fr f3 (λa z=>.inr z) λa z=>.inr z) o);simp only[Af]at z;exact((d.pur z.1.1).trans (R2.pur z.1.2)).trans (e z.2)
noncomputable def AZ(fs:ER):VF:=λδ=>(fs δ).bind λp=>if(p.1.map Ed).Nodup/\p.1.length<=15 then b3 (.dct (p.1.map Ed) (p.1.map Fb),p.2)else b5
def mh{fs:ER}(h:PPV X K ml pu pos ks vs fs)(P:ks.all (·.isSome)=ba)(hl:ks.length=vs.length)(L:ks≠[])(D:ks.length<=15):PE X (.Dict ks vs pos) (TN K ml pu (AZ fs)):=by
 obtain⟨G,h1,h2⟩:=h;refine(kO h1 P hl L D).imp λσ H Q ⟨B,O,δ,d,δ',S,q,k⟩ p m=>?_;unfold AZ at q;obtain⟨⟨c,δ1⟩,N,q⟩:=Aa.mp q;have q:(if(c.map Ed).Nodup/\c.length<=15 then b3 (cT.dct (c.map Ed) (c.map Fb),δ1)else b5)=b3 (d,δ'):=q;split at q
 ·rename_i E
  cases q;have U:=S.laid (o:=.dK []) m;refine h2 _ _ _ ⟨B.add p,O,δ,c,_,U,N,λkvs H2 j f2 p2 hk r=>?_⟩;have A:¬OA O p:=λ⟨i,w⟩=>(j.old i p w).1 (.inr rfl);have s:H2 p=b3 (.dK []):=f2 _ _ cG λw=>absurd w A;have R:kvs.length=c.length:=by
   have:=congrArg List.length hk
   simpa using this
  refine⟨s,kvs,rfl,by rw[R];exact E.2,?_⟩;have J:UF [] kvs=kvs:=JW (acc:=[]) (by simpa[hk]using E.1);rw[J];have F:(B.add p).Z p:=.inr rfl;have y:Fr (λb=>b=p) H2 (upd H2 p (.dK kvs)):=⟨λb u q n=>by
   by_cases l:b=p
   ·subst l
    rw[s]at q;cases q;exact absurd (n rfl) λz=>z
   ·rw[cH l]
    exact q,(NZ.of s).upd⟩
  have t:∀b,b=p->Nn (B.add p) O b:=λb w=>.inl (w▸F);have w:R7 K (Nn (B.add p) O) (upd H2 p (.dK kvs)) p (.dct (kvs.map Ed) (c.map Fb)):=.dct cG (r.fr y t);rw[hk]at w;have T:aI K ml (B.add p) O (upd H2 p (.dK kvs)) σ δ':=by
   have x:∀b,(∃u,H2 b=b3 u)->∃u,upd H2 p (.dK kvs) b=b3 u:=λb q0=>by
    obtain⟨u,q⟩:=q0;by_cases l:b=p
    ·exact⟨_,by rw[l];exact cG⟩
    ·exact⟨u,by rw[cH l];exact q⟩
   refine⟨j.len,λi d q=>?_,λi d q=>?_,j.dom,j.inj,j.old,λb h=>x b (j.zin b h),⟨λb u q n=>?_,λb _ _ _ _ _ _ _ _ h=>let ⟨_,_,e⟩:=j.frm.ft _ _ _ _ _ _ _ _ _ h;(NZ.of s).upd _ _ _ _ _ _ _ _ _ e⟩,j.par,λb h=>x b (j.pin b h),λz hz=>(j.kep z hz).fr y t t⟩
   ·obtain⟨v,e,r⟩:=j.va i d q
    exact⟨v,e,r.fr y t t⟩
   ·obtain⟨a,e,M,w⟩:=j.ow i d q
    exact⟨a,e,M,w.fr y t λz=>(j.old i a e).1 (z▸F)⟩
   ·have l : b ≠ p := λz => by have q:B.H0 b=b3 u:=q;rw[z,S.fresh m]at q;cases q
    rw[cH l];exact j.frm b u q n
  have I:∀b C dx f g p' q xs ys,H b=b3 (.flt C dx f g p' q xs ys)->∃us ws,upd H2 p (.dK kvs) b=b3 (.flt C dx f g p' q us ws):=λb _ _ _ _ _ _ _ _ e=>by
   have l:b≠p:=λz=>by rw[z,m]at e;cases e
   rw[cH l];exact f2.ft _ _ _ _ _ _ _ _ _ (cK m _ _ e)
  refine k p _ ⟨T,⟨λb o e n=>?_,I⟩,λz=>?_,w,S.new m,S.fresh m⟩
  ·have l : b ≠ p := λz => by rw [z,m]at e;cases e
   rw[cH l];exact f2 b o (cK m _ _ e) n
  ·intro b o e
   have l:b≠p:=λz=>by rw[z,m]at e;cases e
   rw[cH l];exact p2 z b o (cK m _ _ e)
 ·cases q
end
theorem QB:∀(names:List (Sb×So)) (n:Nat) (acc:List (Sb×Sa)),Sm n names acc=Sm n names []++acc
 |[],_,_=>rfl
 | (x,k) :: r,n,acc => by
  unfold Sm;split
  ·rw[QB r (n+1) ((x,n)::acc),QB r (n+1) [(x,n)]]
   simp
  ·exact QB r n acc
theorem C5:∀{names:List (Sb×So)}{n:Nat}{x:Sb}{c:Sa},(x,c)∈Sm n names []->(x,Ck)∈names
 |[],_,_,_,h=>nomatch h
 | (y,k) :: r,n,x,c,h => by
  unfold Sm at h;split at h
  ·rename_i hk
   rw[QB]at h;rcases Ci.mp h with h|h
   ·exact At _ (C5 h)
   ·cases Al.mp h
    rw[show k=Ck from beq_iff_eq.mp hk];exact Bj
  ·exact At _ (C5 h)
theorem C4:∀{names:List (Sb×So)}{n:Nat}{x:Sb},(x,Ck)∈names->∃c,(x,c)∈Sm n names []
 | (y,k) :: r,n,x,h => by
  unfold Sm;rcases Ar.mp h with e|h
  ·cases e
   rw[if_pos (by decide),QB];exact⟨n,Bt _ (Al.mpr rfl)⟩
  ·split
   ·rw[QB]
    obtain⟨c,hc⟩:=C4 (n:=n+1) h;exact⟨c,Bo _ hc⟩
   ·exact C4 h
theorem LY:∀{l:List (Sb×Sa)}{x:Sb}{c:Sa},(x,c)∈l->∃b,l.lookup x=b3 b
 | (y,d) :: r,x,c,h => by
  rw[Bw];cases a:x==y with
  |true=>exact⟨d,rfl⟩
  |false=>
   rcases Ar.mp h with e|h
   ·cases e
    simp at a
   ·exact LY h
theorem YJ:∀{l m:List (Sb×Sa)}{x:Sb}{c:Sa},(l++m).lookup x=b3 c->l.lookup x=b3 c∨(l.lookup x=b5/\m.lookup x=b3 c)
 |[],_,_,_,h=>.inr ⟨rfl,h⟩
 |(y,d)::r,m,x,c,h=>by
  rw[Dt,Bw]at h;rw[Bw];cases a:x==y with
  |true=>rw[a]at h;exact .inl h
  |false=>rw[a]at h;exact YJ h
theorem QA:∀{l m:List (Sb×Sa)}{x:Sb},l.lookup x=b5->(l++m).lookup x=m.lookup x
 |[],_,_,_=>rfl
 |(y,d)::r,m,x,h=>by
  rw[Bw]at h;rw[Dt,Bw];cases a:x==y with
  |true=>rw[a]at h;cases h
  |false=>rw[a]at h;exact QA h
def FS{M:Ss}{A:Cb}{E:Rz->Ad->Prop}{s:Ad}{scope:Sq}{globals:Sa}{c:List (Sb×Sa)}{qual:Sb}{outer:Env}{Q:Env->Ad->Prop}(d:Q (newEnv scope s.heap.objs.size globals (Sm (s.heap.objs.size+1) scope.names c) qual b5 .none (b3 outer) builtinsNs) {s with heap:=Qj (s.heap.push {cls:=.type "dict",data:=.dict #[]}) scope.names}):Sd M A (Mo scope globals c [] qual b5 .none (b3 outer)) Q E s:=by simp only[Mo,Ni,if_true];refine Ac (wpAny_alloc ?_);refine Ac (wpAny_layCells _ (λname kind b=>by cases a:kind==Ck<;>simp[a]) _ _ _ _ ?_);rw[show({s with heap:=s.heap.push {cls:=.type "dict",data:=.dict #[]}}:Ad).heap.objs.size=s.heap.objs.size+1 from Di ..];rw[Mn];exact Ac (Aq (Aq d))
theorem SO:∀{l m:List (Sb×Sa)}{x:Sb}{c:Sa},l.lookup x=b3 c->(l++m).lookup x=b3 c
 |(y,d)::r,m,x,c,h=>by
  rw[Bw]at h;rw[Dt,Bw];cases a:x==y with
  |true=>rw[a]at h;exact h
  |false=>rw[a]at h;exact SO h
structure GL(X:Cx)(N':List Sb)(ix:List Nat)(scope:Sq):Prop where
 kind:scope.kind=.function
 cel:∀y∈scope.names,y.2=.cell->scope.names.lookup y.1=b3 .cell
 names:∀y∈scope.names,y.2=.local->scope.names.lookup y.1=b3 .local
 free:∀y∈scope.names,y.2=.free->X.env.kindOf y.1=b3 .cell∨X.env.kindOf y.1=b3 .free
 nd:N'.Nodup
 cap:∀j,j<ix.length->N'[j]?=(ix[j]?).bind λi=>X.N[i]?
 capf:∀x∈N'.take ix.length,scope.names.lookup x=b3 .free
noncomputable def Y1(X:Cx)(N':List Sb)(scope:Sq)(cl:List (Sb×Sa))(s1:Ad)(H1:Hp)(fp:List Sa):Cx:=
 {X with N:=N',s₀:=s1,H₀:=H1,env:=compEnvC scope cl s1.heap.objs.size X.env,outer:=X.stack,stack:=X.stack,ex:=fp,fn:=λx=>scope.names.lookup x==b3 Ck,pn:=[],xe:=λ_ _=>False}
theorem UK{env:Env}{x:Sb}:∀{l:List (Sb×So)},((l.map λ(n,k)=>if(k==Bu&&env.scope.kind== .function&&env.kindOf n==b3 .cell)then(n,Ck)else(n,k)).lookup x=b3 .cell∨(l.map λ(n,k)=>if(k==Bu&&env.scope.kind== .function&&env.kindOf n==b3 .cell)then(n,Ck)else(n,k)).lookup x=b3 .free)->(x,Bu)∈l∨(x,Ck)∈l
 |[],h=>by rcases h with z|z<;>cases z
 | (n,k) :: r,h => by
  have h:Fk x ((if(k==Bu&&env.scope.kind== .function&&env.kindOf n==b3 .cell)=ba then(n,Ck)else(n,k))::r.map λ(n,k)=>if(k==Bu&&env.scope.kind== .function&&env.kindOf n==b3 .cell)then(n,Ck)else(n,k))=b3 .cell∨
   Fk x ((if(k==Bu&&env.scope.kind== .function&&env.kindOf n==b3 .cell)=ba then(n,Ck)else(n,k))::r.map λ(n,k)=>if(k==Bu&&env.scope.kind== .function&&env.kindOf n==b3 .cell)then(n,Ck)else(n,k))=b3 .free:=h
  by_cases hc:(k==Bu&&env.scope.kind== .function&&env.kindOf n==b3 .cell)=ba
  ·rw[if_pos hc]at h
   by_cases a:x=n
   ·subst a
    have hk:k=.free:=by simp only[Af]at hc;exact beq_iff_eq.mp hc.1.1
    subst hk;exact .inl Bj
   ·have b:(x==n)=bb:=beq_eq_false_iff_ne.mpr a
    simp only[Bw,b]at h;rcases UK (env:=env) h with z|z
    ·exact .inl (At _ z)
    ·exact .inr (At _ z)
  ·rw[if_neg hc]at h
   by_cases a:x=n
   ·subst a
    rw[Dy]at h;rcases h with z|z
    ·cases z;exact .inr Bj
    ·cases z;exact .inl Bj
   ·have b:(x==n)=bb:=beq_eq_false_iff_ne.mpr a
    simp only[Bw,b]at h;rcases UK (env:=env) h with z|z
    ·exact .inl (At _ z)
    ·exact .inr (At _ z)
def C7{X:Cx}{aa:List (Sa×Sk)}{σ:St}{H2:Hp}{s2:Ad}{E:Rz->Ad->Prop}{tg iter elt:Sf}{ifs:List Sf}{scope:Sq}{pos:Pos}{N':List Sb}{ix:List Nat}{nl:Nat}{g:TG}{tt:TT}{te:TE}{cl:List (Sb×Sa)}{J:It}{fp:List Sa}{it:Sa}{tn:Nat->Si->Prop}{Q:V->Hp->Prop}{RR:Rz->Sa->Result->Ad->Prop}(hc:X.calm=ba)(S:GL X N' ix scope)(hnl:N'.length=ix.length+nl)(cj:∀x c,cl.lookup x=b3 c->X.env.cells.lookup x=b3 c)(eu:∀x,(x,Bu)∈scope.names->∃c,cl.lookup x=b3 c)(blk:∀(cl:List (Sb×Sa)) (s1:Ad) (H1:Hp) (fp:List Sa),Blk (Y1 X N' scope cl s1 H1 fp) tg ifs elt g tt te)(I2:b9 X aa σ H2 s2)(T:CV X.prog X.w X.K tg J fp it tn)(st2:tn 0 s2.heap)(f2:∀b∈fp,KI X aa H2 b)(h:∀D,H2 D=b5->Vu D ix nl J g tt te σ H2 λH'=>Q (.ref D) H')(fin:∀(D C:Sa) (s':Ad) (H':Hp),b9 X aa σ H' s'->(∃m,s'.heap.Ns C m)->C≠X.env.locals->(∀x c,X.env.cells.lookup x=b3 c->c≠C)->(∀(k:St) (P:Ad) (h'':Si),b9 X aa k H' P->Er C P.heap h''->b9 X aa k H' {P with heap:=h''})->Q (.ref D) H'->RR (.ref D) C (.ok .next) s'):Sd (Se X.prog X.w) X.A (newList []) (λacc t=>Sd (Se X.prog X.w) X.A (Mo scope X.env.globals cl [] X.env.qual b5 .none (b3 X.env)) (λfz s₄=>Ij (Se X.prog X.w) X.A (.compStart (.ListComp elt [⟨tg,iter,ifs,0⟩] scope pos) 0 (.ref it) acc {fz with scope:=relabel scope X.env}) (RR acc fz.locals) s₄) E t) E s2:=by
 refine Dv (FS ?_);dsimp only;have f:b9 X aa σ (upd H2 s2.heap.objs.size (.lst [])) {s2 with heap:=s2.heap.push {cls:=.type "list",dict:=b5,data:=.seq ([]:List Rz).toArray}}:=
  I2.lnew (t':=s2.toks) (ys:=[]) (its:=[]) .nil (Ee _)
 have hDn:H2 s2.heap.objs.size=b5:=I2.hok.fresh (Ax _);obtain⟨W,⟨m0,w0⟩,turn⟩:=h _ hDn;generalize hs1:({s2 with heap:=s2.heap.push {cls:=.type "list",dict:=b5,data:=.seq ([]:List Rz).toArray}}:Ad)=s1 at f;have cz:s2.heap.push {cls:=.type "list",dict:=b5,data:=.seq ([]:List Rz).toArray}=s1.heap:=by rw[<-hs1]
 rw[cz];have H:∀b o,s1.heap.get? b=b3 o->(Qj (s1.heap.push {cls:=.type "dict",data:=.dict #[]}) scope.names).get? b=b3 o:=λb o e=>pushCells_keeps _ _ _ _ (Ae _ e);have G:(Qj (s1.heap.push {cls:=.type "dict",data:=.dict #[]}) scope.names).Ns s1.heap.objs.size (λ_=>b5):=(Heap.Ns.new s1.heap (.type "dict")).keeps λb o e=>pushCells_keeps _ _ _ _ e;have L:=cellsFrom_ok scope.names (s1.heap.push {cls:=.type "dict",data:=.dict #[]}) (s1.heap.objs.size+1) [] ⟨λ_ _ hm=>(nomatch hm),Oh⟩ (by rw[Di];exact Ax _);rw[Di]at L;generalize hz1:Qj (s1.heap.push {cls:=.type "dict",data:=.dict #[]}) scope.names=B at H G L;rw[QB];generalize hnc:Sm (s1.heap.objs.size+1) scope.names []=s at L;have F:∀x c,s.lookup x=b3 c->(x,Ck)∈scope.names/\B.IsCell c b5/\s1.heap.objs.size+1<=c:=λx c e=>by have hm:=Cr e;exact⟨C5 (n:=s1.heap.objs.size+1) (by rw[hnc];exact hm),L.empty x c hm⟩
 have nch:∀x,(x,Ck)∈scope.names->∃c,s.lookup x=b3 c:=λx h=>by obtain⟨c,hc⟩:=C4 (n:=s1.heap.objs.size+1) h;rw[hnc]at hc;exact LY hc
 have ed:∀b∈fp,b<s2.heap.objs.size:=λb a=>by obtain⟨o,e,_⟩:=T.obj _ _ st2 b a;exact As e
 have ef:s1.heap.objs.size=s2.heap.objs.size+1:=by rw[<-cz,Di]
 have g5:∀b o,s2.heap.get? b=b3 o->s1.heap.get? b=b3 o:=λb o e=>by rw[<-cz];exact Ae _ e
 have d8:∀x c,cl.lookup x=b3 c->c<s1.heap.objs.size:=λx c e=>by obtain⟨v,q⟩:=f.cell x c (cj x c e);exact q.lt
 have i9:∀b∈QW X.stack,b<s1.heap.objs.size:=λb a=>by obtain⟨_,o,ho,_⟩:=(f.stack).mem a;exact As ho
 have R:(Y1 X N' scope (s++cl) s1 (upd H2 s2.heap.objs.size (.lst [])) fp).Ok:=by
  refine⟨f.ok.mod,S.kind,f.ok.glob,f.ok.blt,Ax _,λx y c e1 O=>?_,λx hx=>?_,λx c hf e=>?_,f.ok.hd,f.ok.frames,.inl rfl,λb a=>⟨?_,λx c e=>?_⟩,λb o e=>?_,Ei f.ok.bsz f.sz,λb o e a=>?_,λb a hb2=>?_,f.stack,f.stkFree⟩
  ·rcases YJ e1 with n1|⟨_,Z⟩
   ·rcases YJ O with n2|⟨_,o2⟩
    ·exact PySem.name_of_addr L.apart (Cr n1) (Cr n2)
    ·exact absurd (Bb (d8 y c o2) (Ie (F x c n1).2.2)) (Db _)
   ·rcases YJ O with n2|⟨_,o2⟩
    ·exact absurd (Bb (d8 x c Z) (Ie (F y c n2).2.2)) (Db _)
    ·exact f.ok.inj x y c (cj x c Z) (cj y c o2)
  ·cases q:s.lookup x with
   |some c=>exact⟨c,SO q⟩
   |none=>
    rcases UK hx with h|h
    ·obtain⟨c,hc⟩:=eu x h
     exact⟨c,(QA q).trans hc⟩
    ·obtain⟨c,hc⟩:=nch x h
     rw[q]at hc;cases hc
  ·have hx:(x,Ck)∈scope.names:=Cr (beq_iff_eq.mp hf)
   obtain⟨c',M⟩:=nch x hx;have:=SO (m:=cl) M
   have e:(s++cl).lookup x=b3 c:=e;rw[this]at e;cases e;exact Ie (F x c M).2.2
  ·exact Bl (Bb (ed b a) (by show s2.heap.objs.size<=s1.heap.objs.size;rw[ef];exact Hd _))
  ·rcases YJ e with n1|⟨_,Z⟩
   ·have h1:=ed b a
    have h2:=(F x c n1).2.2;rw[ef]at h2;exact λz=>absurd (z▸h2) (Nat.not_le_of_lt (Bb h1 (Ei (Hd _) (Hd _))))
   ·exact(f2 b a).2.2.2.2.1 x c (cj x c Z)
  ·exact f.bs b o e
  ·have:=(f2 b a)
   obtain⟨o',e',_⟩:=T.obj _ _ st2 b a;have hlt:=Bb (As e) f.ok.bsz;rcases this.2.2.2.1 with z|z
   ·exact f.ok.noex b o e z
   ·exact absurd (Bb hlt z) (Db _)
  ·rcases Ar.mp (f.stkSub b hb2)with z|z
   ·exact(f2 b a).2.1 z
   ·exact(f2 b a).2.2.1 z
 have dh:(YB ix σ++Aj nl b5).length=N'.length:=by rw[Ao,Bp,hnl];simp[YB]
 have IY:b9 (Y1 X N' scope (s++cl) s1 (upd H2 s2.heap.objs.size (.lst [])) fp) [] (YB ix σ++Aj nl b5) (upd H2 s2.heap.objs.size (.lst [])) {s2 with heap:=B}:=by
  refine⟨R,?_,I2.bare,Un.kept H,⟨_,G,λj x v e1 O e3=>?_⟩,λx c e=>?_,f.hok.fresh (Ax _),λx c e=>?_,λp hp=>absurd (show p∈([]:List (Sa×Sk)) from hp) (by simp),f.hok.kept H,dh⟩
  ·show s2.os=s1.os
   rw[<-hs1]
  ·have U:j<ix.length:=by
    by_cases U:j<ix.length
    ·exact U
    ·exfalso
     have hl:(YB ix σ).length=ix.length:=by simp[YB]
     rw[Am (by rw[hl];lia),Dk]at O;split at O<;>cases O
   have hl:(YB ix σ).length=ix.length:=by simp[YB]
   rw[Ah (by rw[hl];exact U)]at O;have hci:=S.cap j U;obtain⟨i,hi⟩:∃i,ix[j]?=b3 i:=⟨ix[j],by simp[U]⟩;rw[hi]at hci;have hNi:X.N[i]?=b3 x:=by
    have:N'[j]?=X.N[i]? :=hci
    rw[<-this];exact e1
   have hσ:σ[i]?=b3 (b3 v):=by
    unfold YB at O;rw[Ef,hi]at O;have Y:(σ[i]?).join=b3 v:=by simpa using O
    cases q:σ[i]? with
    |none=>rw[q]at Y;cases Y
    |some o=>rw[q]at Y;rw[show o=b3 v from Y]
   have hfl:scope.names.lookup x=b3 .free:=S.capf x (by rw[Lu];exact⟨j,by rw[Dd U];exact e1⟩)
   have bh:(x,Bu)∈scope.names:=Cr hfl;have hpk:X.env.kindOf x=b3 .cell∨X.env.kindOf x=b3 .free:=by exact S.free (x,.free) bh rfl
   have gd:Vis X.env.scope x:=by
    rcases hpk with z|z
    ·exact .inr (.inl z)
    ·exact .inr (.inr z)
   obtain⟨m,hn,gv⟩:=f.loc;obtain⟨u,ru,l⟩:=gv i x v hNi hσ gd;refine⟨u,ru,?_⟩;rcases l with⟨hk,_⟩|⟨hk,c,ec,z⟩
   ·rcases hpk with q|q<;>rw[hk]at q<;>cases q
   ·obtain⟨c',M⟩:=eu x bh
    have:c'=c:=by
     have:=cj x c' M
     rw[ec]at this;exact(Bx this).symm
    subst this;have gu:s.lookup x=b5:=by
     cases q:s.lookup x with
     |none=>rfl
     |some d=>
      have:=S.cel (x,.cell) (F x d q).1 rfl
      rw[hfl]at this;cases this
    refine .inr ⟨PZ hfl,c',(QA gu).trans M,?_⟩
    ·obtain⟨o,ho,hd⟩:=z
     exact⟨o,H _ _ ho,hd⟩
  ·rcases YJ e with n1|⟨_,Z⟩
   ·exact⟨b5,(F x c n1).2.1⟩
   ·obtain⟨v,o,ho,hd⟩:=f.cell x c (cj x c Z)
    exact⟨v,o,H _ _ ho,hd⟩
  ·rcases YJ e with n1|⟨_,Z⟩
   ·exact f.hok.fresh (Ie (F x c n1).2.2)
   ·exact f.freeC x c (cj x c Z)
 have back:∀{pY:List (Sa×Sk)}{k:St}{H':Hp}{s':Ad},b9 (Y1 X N' scope (s++cl) s1 (upd H2 s2.heap.objs.size (.lst [])) fp) pY k H' s'->b9 X aa σ H' s':=λ{pY k H' s'} J'=>
  f.call' J'.os J'.base J'.hok J'.bare λb a=>⟨(f2 b a).2.2.2.1,(f2 b a).2.1,(f2 b a).2.2.2.2.1,(f2 b a).2.2.2.2.2⟩
 have stat:∀{H':Hp}{pY:List (Sa×Sk)},(∀b∈fp,H' b=b5)->pY=[]->∀b∈fp,KI (Y1 X N' scope (s++cl) s1 (upd H2 s2.heap.objs.size (.lst [])) fp) pY H' b:=λ{H' pY} hn hp b a=>by subst hp;refine⟨hn b a,(R.exf b a).1,R.exfs b a,.inl a,(R.exf b a).2,λp hp=>absurd (show p∈([]:List (Sa×Sk)) from hp) (by simp)⟩
 have st1:tn 0 B:=T.keep 0 s2.heap B st2 λb a o e=>H b o (g5 b o e);have fr1:∀b∈fp,(upd H2 s2.heap.objs.size (.lst [])) b=b5:=λb a=>by rw[cH (Bl (ed b a))];exact(f2 b a).1
 have loop:∀t:Ad,t={s2 with heap:=B}->
   Ij (Se X.prog X.w) X.A (.compLoop (.ListComp elt [⟨tg,iter,ifs,0⟩] scope pos) 0 (.ref it) (.ref s2.heap.objs.size) (compEnvC scope (s++cl) s1.heap.objs.size X.env)) (RR (.ref s2.heap.objs.size) s1.heap.objs.size) t:=by
  rintro t rfl;refine iG (λn s'=>∃i k H' acc,b9 (Y1 X N' scope (s++cl) s1 (upd H2 s2.heap.objs.size (.lst [])) fp) [] k H' s'/\k.take ix.length=YB ix σ/\tn i s'.heap/\(∀b∈fp,H' b=b5)/\W i n acc H') ?_ m0
   ⟨0,_,_,[],IY,by rw[Gd (by simp[YB])];exact Cz (by simp[YB]),st1,fr1,w0⟩
  rintro n s' ⟨i,k,H',acc,J',hσ,st',fr',w'⟩;have Jc:b9 (Y1 X N' scope (s++cl) s1 (upd H2 s2.heap.objs.size (.lst [])) fp) [] (YB ix σ++Aj nl b5) H' s':=by
   refine J'.weak (by rw[dh];exact J'.len.symm) λj v e=>?_;have hl:(YB ix σ).length=ix.length:=by simp[YB]
   by_cases U:j<ix.length
   ·rw [Ah (by rw [hl];exact U),<- hσ,Dd U]at e
    exact e
   ·rw [Am (by rw [hl];lia),Dk]at e
    split at e<;>cases e
  rcases turn i n acc H' w' with⟨stop,q⟩|⟨go,N,hN,step⟩
  ·refine Co (T.done (Y1 X N' scope (s ++ cl) s1 (upd H2 s2.heap.objs.size (.lst [])) fp) rfl rfl rfl hc i [] s' _ H' (λ_ _ => False) Jc (stat fr' rfl) st' stop) (λr s4 ⟨hr,I4⟩ => ?_) λ_ _ z => z
   subst hr;have IX:=back I4;obtain⟨m,hm,_⟩:=I4.loc;exact fin _ _ s4 H' IX ⟨m,hm⟩ (Hg f.lt) (λx c e z=>by
    obtain⟨v,q⟩:=f.cell x c e;have:=q.lt
    rw[z]at this;exact Db _ this) (λσ'' P h'' I'' sb=>b9.offNew f I'' I4.free λb o a e=>(sb.2 b a).trans e) q
  ·refine Co (T.item (Y1 X N' scope (s ++ cl) s1 (upd H2 s2.heap.objs.size (.lst [])) fp) rfl rfl rfl hc i [] s' _ H' (λ_ _ => False) Jc (stat fr' rfl) st' go) (λr s4 ⟨u,hr,h4⟩ => ?_) λ_ _ z => z
   subst hr;refine Co h4 (λ_ s5 ⟨x,H5,I5,r5,y5,st5,fr5⟩=>?_) λ_ _ z=>z;have I5':=I5.pinned (stat fr5 rfl) (T.obj _ _ st5);obtain⟨btg,bts,bel⟩:=blk (s++cl) s1 (upd H2 s2.heap.objs.size (.lst [])) fp;refine Co (btg _ s5 _ H5 x u _ I5' r5 (step x H5 y5)) (λ_ s6 ⟨I,H6,I6,hσ6,q6⟩=>?_) λ_ _ z=>z;have X1:∀{H7:Hp}{s7:Ad}{bp:List V},b9 (Y1 X N' scope (s++cl) s1 (upd H2 s2.heap.objs.size (.lst [])) fp) ([]++MD fp s5.heap) I H7 s7->N bp H7->
     ∃m,m<n/\∃i k H' acc,b9 (Y1 X N' scope (s++cl) s1 (upd H2 s2.heap.objs.size (.lst [])) fp) [] k H' s7/\k.take ix.length=YB ix σ/\tn i s7.heap/\(∀b∈fp,H' b=b5)/\W i m acc H':=λ{H7 s7 bp} I7 n7=>by
    obtain⟨m',hm,w7⟩:=hN bp H7 n7;refine⟨m',hm,i+1,I,H7,bp,I7.unpinned,hσ6,T.keep _ _ _ st5 λb a o e=>(I7.pin (b,o) (Bt _ (Bt _ (UE a e)))).1,λb a=>?_,w7⟩;obtain⟨o,e,d⟩:=T.obj _ _ st5 b a;exact(I7.pin (b,o) (Bt _ (Bt _ (UE a e)))).2.1
   refine Co (bts _ s6 I H6 _ I6 q6) (λokb s7 ⟨H7,I7,q7⟩=>?_) λ_ _ z=>z;cases okb with
   |false=>exact X1 I7 q7
   |true=>
    refine Co (bel _ s7 I H7 _ I7 q7) (λv s8 ⟨y,H8,I8,r8,hD8,hz8,n8⟩=>?_) λ_ _ z=>z;refine Co (WP (X:=Y1 X N' scope (s++cl) s1 (upd H2 s2.heap.objs.size (.lst [])) fp) _ s8 I H8 (.ref s2.heap.objs.size) [y] (.ref s2.heap.objs.size) [v] (λ_ H9=>N (acc++[y]) H9) I8 rfl (.cons r8 .nil)
     ⟨s2.heap.objs.size,acc,y,rfl,rfl,hD8,hz8,n8⟩) (λ_ s9 ⟨_,H9,I9,_,n9⟩=>X1 I9 n9) λ_ _ z=>z
 have he:({newEnv scope s1.heap.objs.size X.env.globals (s++cl) X.env.qual b5 .none (b3 X.env) builtinsNs with scope:=relabel scope X.env}:Env)=compEnvC scope (s++cl) s1.heap.objs.size X.env:=rfl;exact codeAny_compStart_list (loop _ rfl) (T.self _ 0 _ _ _ st1 (loop _ rfl))
def jo{X:Cx}{tg iter d:Sf}{a:List Sf}{scope:Sq}{pos:Pos}{N':List Sb}{ix:List Nat}{nl:Nat}{l:TI}{g:TG}{n:TT}{te:TE}(hc:X.calm=ba)(S:GL X N' ix scope)(i:N'.length=ix.length+nl)(hi:PI X tg iter l)(k:∀(cl:List (Sb×Sa)) (s1:Ad) (H1:Hp) (fp:List Sa),Blk (Y1 X N' scope cl s1 H1 fp) tg a d g n te)(v:∀x,foldedSetIterable iter X.env x=pure x:=by intro _;rfl):PE X (.ListComp d [⟨tg,iter,a,0⟩] scope pos) (Ti ix nl l g n te):=by intro aa s σ H Q I h;rw[eval_ListComp];obtain⟨cl,M,L,K⟩:=fU (env:=X.env) (scope:=scope) λy u B=>I.ok.has y.1 (S.free y u B);refine wpAny_comprehension_free (use:=b5) (cl:=cl) rfl v M S.kind S.names (Co (hi aa s σ H _ I h) (λP p c=>Co c (λt o b=>?_) λ_ _ e=>e) λ_ _ e=>e);obtain⟨it,fp,R,J,H2,e,N,T,f,f2,q⟩:=b;subst e;refine C7 (Q:=Q) (RR:=λacc C=>compPost (Se X.prog X.w) X.A X.xe b5 (EP X aa σ Q) acc C) hc S i L K k N T f f2 q ?_;intro D C s' H' O j G F E z;obtain⟨m,j⟩:=j;exact⟨m,j,λh'' r=>⟨.ref D,H',E σ s' h'' O r,rfl,z⟩⟩
section
variable{X:Cx}{K:Ag}{ml:List Nat}{pi pt pe pu:Bool}{pos:Pos}{ix:List Nat}{nl:Nat}{f:VF}
noncomputable def C6(N N':List Sb)(ix:List Nat)(names:List (Sb×So))(k:Sb->Option So):Bool:=
 names.all (λy=>y.2 != .cell || names.lookup y.1==b3 .cell)&&(names.all (λy=>y.2 != .local || names.lookup y.1==b3 .local)&&(names.all (λy=>y.2 != .free || (k y.1==b3 .cell || k y.1==b3 .free)) &&
  (decide N'.Nodup&&((Cq ix.length).all (λj=>N'[j]? ==(ix[j]?).bind λi=>N[i]?)&&(N'.take ix.length).all λx=>names.lookup x==b3 .free))))
def JG{N':List Sb}{scope:Sq}(hk:scope.kind=.function)(h:C6 X.N N' ix scope.names X.env.kindOf=ba):GL X N' ix scope:=by unfold C6 at h;simp only[Af,Fe,Je,bne_iff_ne,beq_iff_eq,decide_eq_true_eq,Fj]at h;obtain⟨h1,h2,f,d,c,b⟩:=h;exact⟨hk,λy a e=>(h1 y a).resolve_left λz=>z e,λy a e=>(h2 y a).resolve_left λz=>z e,λy a e=>(f y a).resolve_left λz=>z e,d,c,b⟩
abbrev BlkC(X:Cx)(K:Ag)(N':List Sb)(ix:List Nat)(scope:Sq)(tg:Sf)(a:List Sf)(b:Sf)(gg:VG)(pt:Bool)(tb:VB)(pe:Bool)(fe:VF):Prop:=N'.Nodup->∀(cl:List (Sb×Sa)) (s1:Ad) (H1:Hp) (fp:List Sa),Blk (Y1 X N' scope cl s1 H1 fp) tg a b (TGV K (Cq ix.length) gg) (TB K (Cq ix.length) pt tb) (TV K (Cq ix.length) pe ba ba fe)
def ZC{tg iter c:Sf}{a:List Sf}{scope:Sq}{fi:VI}{gg:VG}{tb:VB}{fe:VF}(N':List Sb)(ix:List Nat)(nl:Nat)(hi:PI X tg iter (TIV K ml pi fi))(e:BlkC X K N' ix scope tg a c gg pt tb pe fe)(hc:X.calm=ba:=by rfl)(hk:scope.kind=.function:=by rfl)(b:C6 X.N N' ix scope.names X.env.kindOf=ba:=by rfl)(d:N'.length=ix.length+nl:=by rfl)(hnd:ix.Nodup:=by decide)(f:∀x,foldedSetIterable iter X.env x=pure x:=by intro _;rfl):PE X (.ListComp c [⟨tg,iter,a,0⟩] scope pos) (TN K ml (pi&&pt&&pe) (W5 ix nl fi gg tb fe)):=
 (jo hc (JG hk b) d hi (e (JG hk b).nd) f).imp λ_ _ _ h=>cX hnd h
end
section
variable{X:Cx}{K:Ag}{ml:List Nat}{e a b c:Sf}{es:List Sf}{pa ta ia pb tb ib pc tc ic pu bt bi ps bs:Bool}{fa fb fc f:VF}{B B':Bs}{O:Nat->Option Sa}{H H1 H':Hp}{σ:St}{δ δ':Ev}{v:V}{d:cT}{p:Sa}{pos:Pos}
def rSum(K:Ag):RC:=λxs H Q=>∃(p:Sa) (ns:List Int),xs=[.ref p]/\XV K H p (ns.map V.int)/\Q (.int ns.sum) H
def jm(hc:X.calm=ba):aF X (.builtin "sum") (rSum X.K):=by
 intro aa s σ H xs us Q I r h;obtain⟨l,ns,rfl,d,q⟩:=h;obtain⟨u,rfl,b⟩:=Q7 r;cases b;obtain⟨its,c,pl,hz⟩:=I.list d;have hi:=UB c;obtain⟨xs,ex⟩:=hi.allInts.items;have a:ns=xs.toList.map (·.1):=by rw[<-hi.numsOf,<-nums_intItems,<-ex]
 have hl:=pl.isList;rw[ex]at hl;refine sum_intListG (I.ok.hd hc) hl λh' tk t' hk=>?_;have e:preSum (numAt xs) xs.size=ns.sum:=by rw[preSum_eq,Cz (by simp),a]
 rw[e];exact⟨.int ns.sum,H,I.kept (t':=tk) hk,⟨_,rfl⟩,q⟩
def mY(hc:X.calm=ba)(h:X.K=K:=by rfl):aF X (.builtin "sum") (rSum K):=by subst h;exact jm hc
def oSum:cT->Option cT
 |.lst ds=>(QY ds).map λns=>.int ns.sum
 |_=>b5
def jW:CT K (rSum K) oSum:=by
 intro H N M x d c Q b h k;cases d with
 |lst ds=>
  have h:(QY ds).map (λns=>cT.int ns.sum)=b3 c:=h;obtain⟨ns,h1,h⟩:=An.mp h;cases h;obtain⟨a,xs,rfl,sq,r⟩:=b.lstE;have e:=LR r h1;subst e;exact⟨a,ns,rfl,sq,k _ λ_ _ _=>.int _⟩
 |_=>cases h
def lH:Bm "sum"=b3 (.builtin "sum"):=by decide+kernel
structure CU(K:Ag)(x qual:Sb)(st:Sj)(dV:Rz)(f:Sa)(fd:Ch):Prop where
 ex:∃(oc:Rz) (od:Option Sa) (kV doc pm:Rz) (an:Option Sa) (cdv ct:Rz) (osl:Array (Option Rz)),
  fd=Hh x qual (aB st) (bH st) (cJ st) dV kV doc pm an cdv ct/\K.lookup f=b3 ⟨oc,od,.func fd,osl⟩/\Jw K cdv qual=ba
 kp:Em K (.ref f)=ba
def A7{x qual:Sb}{st:Sj}{dV:Rz}{f:Sa}{g:Rz}{od e:Option Sa}{b:Array (Option Rz)}{kV doc d a ct:Rz}(l:K.lookup f=b3 ⟨g,od,.func (Hh x qual (aB st) (bH st) (cJ st) dV kV doc d e a ct),b⟩)(c:Jw K a qual=ba)(k:Em K (.ref f)=ba):CU K x qual st dV f (Hh x qual (aB st) (bH st) (cJ st) dV kV doc d e a ct):=⟨⟨g,od,kV,doc,d,e,a,ct,b,rfl,l,c⟩,k⟩
def CU.okV{P:Az}{w:Sg}{mg:Sb->Option Rz}{base:Si}{x qual:Sb}{st:Sj}{dV:Rz}{f:Sa}{fd:Ch}{N ps:List Sb}{k:Nat}{g:VS}(F:CU K x qual st dV f fd)(S:aA N ps (cJ st))(c:ps.length<=N.length)(m:∀(a:Rz) (A:Cb) (outer:List Env) (s:Ad) (H:Hp) (E:XK),Z4 k (A.deeper (envOfC qual (cJ st) s.heap.objs.size f a))->W1 (TK CX0 P w K mg base N qual (cJ st) f a A outer s H E).nox (bH st) (V5 K ml g)):YV P w K mg base CX0 (k+1) f fd ps (spV K ml ps.length (a8 N.length ml g)):=by obtain⟨o,od,kV,doc,n,p,a,ct,e,rfl,i,d⟩:=F.ex;refine Th i d S (λvs H Q E h=>?_) λA outer s H vs Q E j b=>⟨_,(m a A outer s H E j).nox,Sx c b⟩;obtain⟨Z,ds,r,os,l,AV,_⟩:=h;rw[AV.len,l]
def CU.binds{x qual:Sb}{st:Sj}{T f:Sa}{fd:Ch}{ps:List Sb}{o:Sk}{its:Array Rz}{n m:Nat}{ds:List Rz}(F:CU K x qual st (.ref T) f fd)(g:K.lookup T=b3 o)(e:o.data=.seq its n)(h:∀(kV doc b:Rz) (c:Option Sa) (a ct:Rz) (us:List Rz),us.length=m->∃k,bindArgs (Hh x qual (aB st) (bH st) (cJ st) (.ref T) kV doc b c a ct) ⟨us,[]⟩=seqItems? (.ref T)>>=k/\k (b3 its)=pure (ps.zip (us++ds)))(q:m+ds.length=ps.length:=by rfl):XX K fd ps ds:=by obtain⟨l,od,kV,doc,b,c,a,ct,d,rfl,p,i⟩:=F.ex;intro s us j hl;obtain⟨k,h1,h2⟩:=h kV doc b c a ct us (by rw[Ao]at hl;lia);exact BindsTo.of_defaults rfl (j _ _ g) e h1 h2
structure DefD(P:Az)(w:Sg)(K:Ag)(mg:Sb->Option Rz)(base:Si)(x:Sb)(k:Nat)(ps:List Sb)(sp:Sp)(f:Sa)(v0:V):Prop where
 at_:mg x=b3 (.ref f)
 ok:∃fd u0,YV P w K mg base CX0 k f fd ps sp/\XX K fd ps [u0]/\bA v0 u0
 kp:Em K (.ref f)=ba
def dflt(F:cB)(d:cT):cB:=λds=>F (ds++[d])
def kq{mF:List Nat}{m:Nat}{F:cB}{vs:List V}{Q:VK}{E:XK}(G:∀N H M,bB K N H M v d)(I:∀a,v≠ .ref a)(h:spV K mF m (dflt F d) vs H Q E):spV K mF (m+1) F (vs++[v]) H Q E:=by
 obtain⟨Z,ds,r,os,hl,A,J,k⟩:=h;have t:∀(i:Nat) (a:Sa),(vs++[v])[i]?=b3 (.ref a)->vs[i]?=b3 (.ref a):=λi a h=>by
  by_cases hi:i<vs.length
  ·rwa[Ah hi]at h
  ·rw [Am (by lia)]at h
   cases b:i-vs.length with
   |zero=>rw[b]at h;cases h;exact absurd rfl (I a)
   |succ j=>rw[b]at h;simp at h
 have n:∀(i:Nat) (u:V),vs[i]?=b3 u->(vs++[v])[i]?=b3 u:=λi u h=>by rw[Ah (Ai.mp h).1];exact h
 have y:∀a,VW mF (vs++[v]) a->VW mF vs a:=λa ⟨i,hi,e⟩=>⟨i,hi,t i a e⟩;have q:∀a,VW mF vs a->VW mF (vs++[v]) a:=λa ⟨i,hi,e⟩=>⟨i,hi,n i _ e⟩;have p:∀a,Zp Z mF (vs++[v]) a->Zp Z mF vs a:=λa h=>h.imp id (y a);have g:∀a,Zp Z mF vs a->Zp Z mF (vs++[v]) a:=λa h=>h.imp id (q a);refine⟨Z,ds++[d],r,os,by simp[hl],⟨by simp[A.len],λi hi=>?_,λi x hi e=>?_,λi x hi e=>?_,λi j a hi b l s=>A.inj i j a hi b (t i a l) (t j a s),A.zin⟩,J,λu H' f w C=>k u H' (f.mono y) (λkk i a o l s L=>(w kk i a o l (n i _ s) L).mono g) (C.mono g g)⟩
 ·have:=A.mem i hi
  simp;lia
 ·by_cases c:i<ds.length
  ·rw[Ah c]at e
   obtain⟨u,l,D⟩:=A.va i x hi e;exact⟨u,n i u l,D.mono p p⟩
  ·rw [Am (by lia)]at e
   cases b:i-ds.length with
   |zero=>
    rw[b]at e;cases e;have:i=vs.length:=by have:=A.len;lia
    subst this;exact⟨v,by rw[Am (by lia)];simp,G _ _ _⟩
   |succ j=>rw[b]at e;simp at e
 ·have c:=A.mem i hi
  rw[Ah c]at e;obtain⟨u,l,B,z⟩:=A.ow i x hi e;exact⟨u,n i _ l,B.mono p,z⟩
def kP{x:Sb}{kk j m:Nat}{qs:List Sb}{mF:List Nat}{F:cB}{ff:Sa}{p':Pos}{fs:WO}(p:X.K=K)(D:DefD X.prog X.w K X.mg X.base x kk qs (spV K mF (m+1) F) ff v)(f:∀N H M,bB K N H M v d)(i:∀a,v≠ .ref a)(g:Z4 j X.A)(hk:kk<=j)(l:Gl X x)(o:PA X (e::es) (KM K ml ps fs))(c:ND x:=by decide)(n:SE X e es:=by rfl)(b:(Ct pos (Ap es X.env)).any (·.1)=bb:=by rfl):PE X (.Call (.Name x p') (e::es) [] pos) (TV K ml (ps&&mF.isEmpty) ba ba (cE m mF (dflt F d) fs)):=by subst p;obtain⟨fd,t,r,s,hd⟩:=D.ok;refine(BU r (g.mono hk) l D.at_ D.kp s (.cons hd .nil) FX o c n b).imp λσ H Q h=>?_;obtain⟨B,O,δ,as,δ',S,q,k⟩:=VT h;exact⟨B,O,δ,as,δ',S,q,λvs H' R=>kq f i (by have z:spV X.K mF m (dflt F d) (vs++[]) H' Q E0:=k vs H' R;rwa[Bi]at z)⟩
noncomputable def WK:List (Sb×cB)->Sb->Option cB
 |[],_=>b5
 |(y,F)::r,x=>if y=x then b3 F else WK r x
def AR(X:Cx)(K:Ag)(mF:List Nat)(n:Nat)(tb:List (Sb×cB)):Prop:=∀x F a,WK tb x=b3 F->Ds K Sc x=b3 (b3 (.ref a))->FnAt X a (spV K mF n F)
def ls{mF:List Nat}{n:Nat}:AR X K mF n []:=λ_ _ _ h=>nomatch h
def WL{x:Sb}{kk j n:Nat}{qs:List Sb}{mF:List Nat}{F:cB}{ff:Sa}{tb:List (Sb×cB)}(f:X.K=K)(d:∀x a,Ds K Sc x=b3 (b3 (.ref a))->X.mg x=b3 (.ref a))(c:Z4 j X.A)
  (D:Def X.prog X.w K X.mg X.base x kk qs (spV K mF n F) ff) (hk:kk<=j) (t:AR X K mF n tb):AR X K mF n ((x,F)::tb):=λy G a h1 h2=>by
 unfold WK at h1;split at h1
 ·rename_i b
  subst b;cases h1;have e:=(d x a h2).symm.trans D.at_;cases e;subst f;exact D.fnAt c hk
 ·exact t y G a h1 h2
def LG(n:Nat)(mF:List Nat)(tb:List (Sb×cB))(i:Nat)(fs:WO):VF:=λδ=>match δ[i]? with
 |some (.va (.fn x))=>(WK tb x).bind λF=>cE n mF F fs δ
 |_=>b5
def eZ{y:Sb}{i n:Nat}{mF:List Nat}{tb:List (Sb×cB)}{p':Pos}{fs:WO}(c:AR X K mF n tb)(f:PE X (.Name y p') (ZH i))(j:PA X (e::es) (KM K ml ps fs))(g:SE X e es:=by rfl)(a:(Ct pos (Ap es X.env)).any (·.1)=bb:=by rfl):
  PE X (.Call (.Name y p') (e::es) [] pos) (TV K ml (ps&&mF.isEmpty) ba ba (LG n mF tb i fs)):=(Xv f j g a).imp λσ H Q h=>by
 obtain⟨B,O,δ,d,δ',S,q,k⟩:=h;unfold LG at q;split at q
 ·rename_i x b
  obtain⟨F,l,q⟩:=Aa.mp q;obtain⟨v,m,r⟩:=S.va i _ b;obtain⟨_,rfl,h⟩:=r.onF
  ·
   refine⟨_,m,_,_,rfl,c x F _ l h,?_⟩;obtain⟨B,O,δ,as,δ',S,q,k⟩:=VT (F:=F) (fs:=fs) (K:=K) (ml:=ml) (ps:=ps) (n:=n) (mF:=mF) (σ:=σ) (H:=H) (Q:=Q) ⟨B,O,δ,d,δ',S,q,k⟩;exact⟨B,O,δ,as,δ',S,q,λvs H' R=>by have z:spV K mF n F (vs++[]) H' Q E0:=k vs H' R;rwa[Bi]at z⟩
 ·cases q
end
section
variable{X:Cx}{K:Ag}{ml:List Nat}{e a b c:Sf}{es:List Sf}{pa ta ia pb tb ib pc tc ic pu bt bi ps bs:Bool}{fa fb fc f:VF}{B B':Bs}{O:Nat->Option Sa}{H H1 H':Hp}{σ:St}{δ δ':Ev}{v:V}{d:cT}{p:Sa}{pos:Pos}
noncomputable def DG(d0:cT)(i:Nat)(F:cB):cB:=λds=>(F (ds.take i++d0::ds.drop i)).map λq=>(q.1,q.2.dropLast)
def R7.awayS{H2:Hp}{N N':Sa->Prop}{q:Sa}(c:H p=b5)(b:aM H H2)(e:∀a,N' a->N a∨a=p)(w:R7 K N H q d):R7 K N' H2 q d:=by
 cases w with
 |lst q r=>exact .lst (b _ _ q) ((r.away c _ _ e).same b)
 |dct q r=>exact .dct (b _ _ q) ((r.away c _ _ e).same b)
 |nst q r=>exact .nst (q.same b) ((r.away c _ _ e).same b)
 |flt q r=>exact .flt (q.same b) ((r.away c _ _ e).same b)
def F9{d0:cT}{H2:Hp}{mF:List Nat}{i:Nat}{F:cB}{c:List V}{Q:VK}{E:XK}(s:∀j∈mF,j<i)(J:H p=b5)(D:aM H H2)(own:∀N,R7 K N H2 p d0)(h:spV K mF (i+1) (DG d0 i F) (c++[v]) H Q E):spV K (mF++[i]) (i+2) F (c++[.ref p,v]) H2 Q E:=by
 obtain⟨Z,ds,r,os,hl,A,L,k⟩:=h;obtain⟨l,d,rfl⟩:∃l d,ds=l++[d]:=⟨ds.dropLast,ds.getLast (λz=>by rw[z]at hl;cases hl),(Io _).symm⟩;have n:l.length=i:=by simpa using hl
 have B:c.length=i:=by have:=A.len;simp at this;lia
 unfold DG at L;rw[Lw n,Qk n]at L;obtain⟨⟨r',R⟩,h0,L⟩:=An.mp L;cases L;have lo:∀(j:Nat),j<i->(c++[.ref p,v])[j]?=(c++[v])[j]? :=λj g=>by rw[Ah (by lia),Ah (by lia)]
 have t:(c++[.ref p,v])[i]?=b3 (.ref p):=by rw[Am (by lia),B,Gq];rfl
 have at2:(c++[.ref p,v])[i+1]?=b3 v:=by rw[Am (by lia),B,show i+1-i=1 by lia];rfl
 have at3:(c++[v])[i]?=b3 v:=by rw[Am (by lia),B,Gq];rfl
 have M:∀(j:Nat),j<i->(l++d0::[d])[j]?=(l++[d])[j]? :=λj g=>by rw[Ah (by lia),Ah (by lia)]
 have dt1:(l++d0::[d])[i]?=b3 (d0):=by rw[Am (by lia),n,Gq];rfl
 have dt2:(l++d0::[d])[i+1]?=b3 d:=by rw[Am (by lia),n,show i+1-i=1 by lia];rfl
 have dt3:(l++[d])[i]?=b3 d:=by rw[Am (by lia),n,Gq];rfl
 have hP:∀a,VW (mF++[i]) (c++[.ref p,v]) a->VW mF (c++[v]) a∨a=p:=λa q0=>by
  obtain⟨j,g,e⟩:=q0;rcases Ci.mp g with g|g
  ·exact .inl ⟨j,g,by rw[<-lo j (s j g)];exact e⟩
  ·rw[Al.mp g,t]at e
   cases e;exact .inr rfl
 have Y:∀a,VW mF (c++[v]) a->VW (mF++[i]) (c++[.ref p,v]) a:=λa ⟨j,g,e⟩=>⟨j,Bo _ g,by rw[lo j (s j g)];exact e⟩;have X:∀a,Zp Z (mF++[i]) (c++[.ref p,v]) a->Zp Z mF (c++[v]) a∨a=p:=λa h=>by
  rcases h with h|h
  ·exact .inl (.inl h)
  ·exact(hP a h).imp .inr id
 have C:∀a,Zp Z mF (c++[v]) a->Zp Z (mF++[i]) (c++[.ref p,v]) a:=λa h=>h.imp id (Y a);have up:∀{u:V}{x:cT},bB K (Zp Z mF (c++[v])) H (Zp Z mF (c++[v])) u x->bB K (Zp Z (mF++[i]) (c++[.ref p,v])) H2 (Zp Z (mF++[i]) (c++[.ref p,v])) u x:=λr=>(r.away J _ _ X X).same (D);have G:∀{j:Nat},j∈mF->(c++[v])[j]? ≠b3 (.ref p):=λ{j} g e=>by have hj':=A.mem j g;obtain⟨a,m,w,_⟩:=A.ow j ((l++[d])[j]'hj') g (by simp);rw[e]at m;cases m;obtain⟨o,q,_⟩:=w.soft;rw[J]at q;cases q
 refine⟨Z,l++d0::[d],_,R,by simp[n],⟨by simp;lia,λj g=>?_,λj x g e=>?_,λj x g e=>?_,λS I a h1 h2 m y=>?_,λa h=>let ⟨o,q⟩:=A.zin a h;⟨o,D _ _ q⟩⟩,h0,λu H' f w rr=>k u H' ⟨λb o W hc=>f b o (D _ _ W) λz=>?_,λ_ _ _ _ _ _ _ _ _ h=>f.ft _ _ _ _ _ _ _ _ _ (D _ _ h)⟩ (λkk j a o m y O=>?_) (rr.mono C C)⟩
 ·rcases Ci.mp g with g|g
  ·have:=s j g
   simp;lia
  ·rw[Al.mp g]
   simp;lia
 ·have T : j ∉ mF := λz => g (Bo _ z)
  have hji:j≠i:=λz=>g (Bt _ (Al.mpr z));by_cases h1:j<i
  ·rw[M j h1]at e
   obtain⟨u,m,P⟩:=A.va j x T e;exact⟨u,by rw[lo j h1];exact m,up P⟩
  ·have U:j=i+1:=by
    have:=(Ai.mp e).1
    simp at this;lia
   subst U;rw[dt2]at e;cases e;obtain⟨u,m,P⟩:=A.va i d (λz=>absurd (s i z) (Db _)) dt3;rw[at3]at m;cases m;exact⟨v,at2,up P⟩
 ·rcases Ci.mp g with g|g
  ·rw[M j (s j g)]at e
   obtain⟨u,m,w1,z1⟩:=A.ow j x g e;exact⟨u,by rw[lo j (s j g)];exact m,w1.awayS J D X,z1⟩
  ·have:=Al.mp g
   subst this;rw[dt1]at e;cases e;exact⟨p,t,own _,λz=>by obtain⟨o,q⟩:=A.zin p z;rw[J]at q;cases q⟩
 ·rcases Ci.mp h1 with h1|h1
  ·rw[lo S (s S h1)]at m
   rcases Ci.mp h2 with h2|h2
   ·rw[lo I (s I h2)]at y
    exact A.inj S I a h1 h2 m y
   ·rw[Al.mp h2,t]at y
    cases y;exact absurd m (G h1)
  ·rcases Ci.mp h2 with h2|h2
   ·rw[lo I (s I h2)]at y
    rw[Al.mp h1,t]at m;cases m;exact absurd y (G h2)
   ·rw[Al.mp h1,Al.mp h2]
 ·rcases hP b z with z|z
  ·exact hc z
  ·rw[z,J]at W
   cases W
 ·refine(w kk j a o ?_ ?_ ?_).mono C
  ·rw[Ah (Ai.mp m).1]
   exact m
  ·rw[lo j (s j (Cm m))]
   exact y
  ·rw[List.getElem?_dropLast]at O
   split at O
   ·exact O
   ·cases O
inductive Wk(K:Pa)(ml:List Nat)(pu:Bool)(W:Hp->Sa->Hp->Prop)(f:WO)(σ:St)(H:Hp)(Q:List V->Hp->Prop):Prop
 |mk (B:_) (O:_) (δ:_) (as:_) (δ':_) (h0:aI K ml B O H σ δ) (h1:f δ=b3 (as,δ')) (h2:∀vs H',ResG K ml B O H σ pu H' δ' vs as->∀vs1 v,vs=vs1++[v]->∀p H2,W H' p H2->Q (vs1++[.ref p,v]) H2):Wk K ml pu W f σ H Q
def EQ(K:Pa)(ml:List Nat)(pu:Bool)(W:Hp->Sa->Hp->Prop)(f:WO):TA:=λσ H Q=>Wk K ml pu W f σ H Q
def WG(K:Ag)(d0:cT)(H:Hp)(p:Sa)(H2:Hp):Prop:=H p=b5/\aM H H2/\∀N,R7 K N H2 p d0
def WE(H:Hp)(p:Sa)(H2:Hp):Prop:=H p=b5/\H2=upd H p (.dK [])
abbrev TAGG(K:Ag)(ml:List Nat)(pu:Bool)(d0:cT)(f:WO):TA:=EQ K ml pu (WG K d0) f
def insD(i:Nat)(F:cB):cB:=DG (.dct [] []) i F
def mO{mF:List Nat}{i:Nat}{F:cB}{a:List V}{Q:VK}{E:XK}(c:∀j∈mF,j<i)(b:H p=b5)(h:spV K mF (i+1) (insD i F) (a++[v]) H Q E):spV K (mF++[i]) (i+2) F (a++[.ref p,v]) (upd H p (.dK [])) Q E:=
 F9 c b (cK b) (λ_=>.dct (kvs:=[]) cG .nil) h
abbrev TAGE(K:Ag)(ml:List Nat)(pu:Bool)(f:WO):TA:=EQ K ml pu WE f
def kx{j:Nat}{f:Pos}(l:PE X b (ZH j))(h:Ap (.Dict [] [] f::b::[]) X.env=(bb,eval (.Dict [] [] f) X.env)::Ap (b::[]) X.env:=by rfl)(a:SE X b []:=by rfl):
  PA X [.Dict [] [] f,b] (TAGE K ml ba (aE (fV j) bZ)):=(bL FZ (bL l ZX a) h).imp λσ H Q c=>by
 obtain⟨B,O,δ,as,g,S,q,k⟩:=c;unfold aE at q;obtain⟨z,h1,q⟩:=Aa.mp q;cases q;unfold fV at h1;split at h1
 ·rename_i d hd
  cases h1;intro p i;obtain⟨v,e,r⟩:=S.va j _ hd;exact⟨v,e,k [v] H ⟨S,Fr.refl _ _,λ_=>aM.refl _,.d r .nil⟩ [] v rfl p _ ⟨i,rfl⟩⟩
 ·cases h1
def KC{W:Hp->Sa->Hp->Prop}{fs:WO}(o:PE X a (TV K ml pa ba ba fa))(m:PA X es (EQ K ml ps W fs))(l:SE X a es:=by rfl):PA X (a::es) (EQ K ml (pa&&ps) W (aE fa fs)):=(bL o m l).imp λσ H Q f=>by obtain⟨B,O,δ,as,c,S,q,k⟩:=f;unfold aE at q;obtain⟨⟨x,δ1⟩,h1,q⟩:=Aa.mp q;have q:((fs δ1).map λq=>(AV.d x::q.1,q.2))=b3 (as,c):=q;obtain⟨p2,h2,q⟩:=An.mp q;cases q;refine⟨B,O,δ,x,δ1,S,h1,λg H1 b=>⟨B,O,δ1,_,_,b.sta,h2,λvs H2 R2 e v j p n=>k (g::vs) H2 ⟨R2.sta,b.frm.trans R2.frm,λz=>?_,.d (b.rep.fr R2.frm (λa z=>.inr z) λa z=>.inr z) R2.rep⟩ (g::e) v (by rw[j];rfl) p n⟩⟩;obtain⟨i,h⟩:=(Af _ _).mp z;exact(b.pur i).trans (R2.pur h)
def Tr{W:Hp->Sa->Hp->Prop}{fs:WO}{j:Nat}(m:PE X a (ZH j))(i:PA X es (EQ K ml ps W fs))(h:SE X a es:=by rfl):PA X (a::es) (EQ K ml ps W (aO j fs)):=(bL m i h).imp λσ H Q f=>by obtain⟨B,O,δ,as,b,S,q,k⟩:=f;unfold aO at q;obtain⟨d,h1,q⟩:=Aa.mp q;have q:((fs δ).map λq=>(AV.o j::q.1,q.2))=b3 (as,b):=q;obtain⟨p2,h2,q⟩:=An.mp q;cases q;obtain⟨v,e⟩:=S.slot h1;exact⟨v,e,B,O,δ,_,_,S,h2,λvs H2 R2 c u g p l=>k (v::vs) H2 ⟨R2.sta,R2.frm,R2.pur,.o e R2.rep⟩ (v::c) u (by rw[g];rfl) p l⟩
def gX{fs:WO}{j:Nat}{as:List AV}(q:aO j fs δ=b3 (as,δ')):∃d a,slot δ j=b3 d/\fs δ=b3 (a,δ')/\as=.o j::a:=by
 unfold aO at q;cases h1:slot δ j with
 |none=>rw[h1]at q;cases q
 |some d=>
  rw[h1]at q;have q:((fs δ).map λq=>(AV.o j::q.1,q.2))=b3 (as,δ'):=q;cases h2:fs δ with
  |none=>rw[h2]at q;cases q
  |some p2=>
   rw[h2]at q;cases q;exact⟨d,_,rfl,rfl,rfl⟩
def iC{x:Sb}{kk j i:Nat}{qs:List Sb}{mF:List Nat}{F:cB}{ff:Sa}{p':Pos}{fs:WO}(r:X.K=K)(D:Def X.prog X.w K X.mg X.base x kk qs (spV K (mF++[i]) (i+2) F) ff)(l:∀j∈mF,j<i)(f:Z4 j X.A)(hk:kk<=j)(m:Gl X x)(o:PA X (e::es) (TAGE K ml ps fs))(c:ND x:=by decide)(n:SE X e es:=by rfl)(b:(Ct pos (Ap es X.env)).any (·.1)=bb:=by rfl):PE X (.Call (.Name x p') (e::es) [] pos) (TV K ml (ps&&mF.isEmpty) ba ba (cE (i+1) mF (insD i F) fs)):=by subst r;refine(PU D f hk m o c n b).imp λσ H Q h=>?_;obtain⟨B,O,δ,as,δ',S,q,k⟩:=VT h;refine⟨B,O,δ,as,δ',S,q,λvs H' R a v d p H2 hw=>?_⟩;obtain⟨g,rfl⟩:=hw;subst d;have z:spV X.K mF (i+1) (insD i F) ((a++[v])++[]) H' Q E0:=k _ H' R;show spV X.K (mF++[i]) (i+2) F ((a++[.ref p,v])++[]) (upd H' p (.dK [])) Q E0;rw[Bi]at z⊢;exact mO l g z
end
section
variable{X:Cx}{K:Ag}{ml:List Nat}{e a b c:Sf}{es:List Sf}{pa ta ia pb tb ib pc tc ic pu bt bi ps bs:Bool}{fa fb fc f:VF}{pos p':Pos}{d:cT}{x:Sb}
def vv(i:Nat)(c:X.N[i]?=b3 x:=by rfl)(b:Vis X.env.scope x:=by first|exact Nj rfl|exact Pf (Nj rfl)|exact Pf (Pf rfl))(hd:ND x:=by decide)(a:(x==("__classdict__":Sb))=bb:=by decide):PE X (.Name x pos) (TV K ml ba ba ba (fV i)):=m7 (DU c b hd a)
def vo(i:Nat)(c:X.N[i]?=b3 x:=by rfl)(b:Vis X.env.scope x:=by first|exact Nj rfl|exact Pf (Nj rfl)|exact Pf (Pf rfl))(hd:ND x:=by decide)(a:(x==("__classdict__":Sb))=bb:=by decide):PE X (.Name x pos) (TV K ml ba bb ba (fO i)):=Xn (DU c b hd a)
def ZV(d:X.A.units+1<cLine)(g:PE X a (TV K ml pa ta ia fa))(f:PE X b (TV K ml pb tb ib fb))(h:X.K=K:=by rfl)(c:WS b:=by exact λ_ _=>rfl)(e:(pb || (ta&&ia))=ba:=by rfl):PE X (.Subscript a b pos) (TV K ml (pa&&pb) ia ia (f2 bV fa fb)):=
 mw (kIxA d h) jP g f c e
def veq(c:X.A.units+64<cLine)(f:PE X a (TV K ml pa ta ia fa))(e:PE X b (TV K ml pb tb ib fb))(g:X.K=K:=by rfl)(d:(pb || (ta&&ia))=ba:=by rfl):PE X (.Compare a [.Eq] [b] pos) (TV K ml (pa&&pb) ba ba (f2 YK fa fb)):=
 OX (kEqD c g) s_eq f e (HV _) d
def ZI(c:X.A.units+64<cLine)(f:PE X a (TV K ml pa ta ia fa))(e:PE X b (TV K ml pb tb ib fb))(g:X.K=K:=by rfl)(d:(pb || (ta&&ia))=ba:=by rfl):PT X (.Compare a [.Eq] [b] pos) (TB K ml (pa&&pb) (fB (f2 YK fa fb))):=
 bR (kEqD c g) s_eq f e (HV _) d
def bC{kk j n:Nat}{qs:List Sb}{mF:List Nat}{F:cB}{ff:Sa}{fs:WO}(D:Def X.prog X.w K X.mg X.base x kk qs (spV K mF n F) ff)(c:Z4 j X.A)(g:PA X (e::es) (KM K ml ps fs))(h:X.K=K:=by rfl)(hk:kk<=j:=by decide)(d:Gl X x:=by rfl)(b:ND x:=by decide)(f:SE X e es:=by rfl)(a:(Ct pos (Ap es X.env)).any (·.1)=bb:=by rfl):PE X (.Call (.Name x p') (e::es) [] pos) (TV K ml (ps&&mF.isEmpty) ba ba (cE n mF F fs)):=Zq h D c hk d g b f a
def X9(b:X.mg "len"=b5)(e:PE X a (TV K ml pa ta ia fa))(f:X.K=K:=by rfl)(c:Gl X "len":=by rfl)(d:SE X a []:=by rfl):PE X (.Call (.Name "len" p') [a] [] pos) (TV K ml pa ba ba (f1 YY fa)):=
 KB (Yp f) Zr c b Xh e (by decide) (by decide) d
def vty{n:String}(c:X.mg x=b5)(a:Bm x=b3 (.type n))(d:Gl X x:=by rfl)(b:x≠ "__name__":=by decide)(hd:ND x:=by decide):PE X (.Name x pos) (TV K ml ba ba ba (fC (.ty n))):=
 AF (iL (v:=.ty n) d c a rfl b hd) λ_ _ _=>.ty _
def MR(f:X.mg "isinstance"=b5)(j:PE X a (TV K ml pa ta ia fa))(i:PE X b (TV K ml pb tb ib fb))(k:X.K=K:=by rfl)(g:Gl X "isinstance":=by rfl)(h:SE X a [b]:=by rfl)(d:SE X b []:=by rfl)(c:(Ct pos (Ap [b] X.env)).any (·.1)=bb:=by rfl)(e:(pb || (ta&&ia))=ba:=by rfl):PE X (.Call (.Name "isinstance" p') [a,b] [] pos) (TV K ml (pa&&pb) ba ba (f2 TM fa fb)):=YR (kIsi k) mj g f bM j i (by decide) (by decide) h d c e
end
def A4(K:Ag)(x:Sb)(st:Sj)(f:Sa):Prop:=∃(d:Rz) (od:Option Sa) (kV doc c:Rz) (e:Option Sa) (a ct:Rz) (b:Array (Option Rz)),Ds K Sc x=b3 (b3 (.ref f))∧
 K.lookup f=b3 ⟨d,od,.func (Hh x x (aB st) (bH st) (cJ st) .none kV doc c e a ct),b⟩/\Jw K a x=ba/\Em K (.ref f)=ba
def a4{K:Ag}{x:Sb}{st:Sj}{f:Sa}{i:Rz}{od:Option Sa}{kV doc h:Rz}{j:Option Sa}{e ct:Rz}{g:Array (Option Rz)}(a:Ds K Sc x=b3 (b3 (.ref f)))(b:K.lookup f=b3 ⟨i,od,.func (Hh x x (aB st) (bH st) (cJ st) .none kV doc h j e ct),g⟩)(c:Jw K e x=ba)(d:Em K (.ref f)=ba):A4 K x st f:=⟨i,od,kV,doc,h,j,e,ct,g,a,b,c,d⟩
def A4.ns{K:Ag}{x:Sb}{st:Sj}{f:Sa}(p:A4 K x st f):Ds K Sc x=b3 (b3 (.ref f)):=by obtain⟨_,_,_,_,_,_,_,_,_,a,_⟩:=p;exact a
def DK{N P:List Sb}{h:Sq}(a:h.kind=.function:=by rfl)(b:h.isCoroutine=bb:=by rfl)(c:h.isGenerator=bb:=by rfl)(d:N.Nodup:=by decide+kernel)(e:N.take P.length=P:=by rfl)(f:∀x∈P,h.names.lookup x=b3 .local∨h.names.lookup x=b3 .cell:=by decide+kernel)(g:∀y∈h.names,y.2≠Bu:=by decide+kernel):aA N P h:=⟨a,b,c,d,e,f,g⟩
def KD{α:Type}:Sr α->Prop
 |.pure _=>True
 |.raise _=>True
 |.unsupported _=>True
 |.finish _=>True
 |.rule _ k=>KD (k ())
 |.at _ k=>KD (k ())
 |.load _ _ k=>∀o,KD (k o)
 |.update _ _ f k=>(∀o,(f o).dict=o.dict)/\KD (k ())
 |.alloc _ k=>∀a,KD (k a)
 |.loadIfAlive _ k=>∀o,KD (k o)
 |.point _ k=>KD (k ())
 |.stack k=>∀l,KD (k l)
 |.fresh k=>∀l,KD (k l)
 |.ask k=>∀l,KD (k l)
 |.handled _ k=>∀l,KD (k l)
 |_=>False
def Dc(e:Sa)(d:Option Sa)(h:Si):Prop:=∃o,h.objs[e]?=b3 o/\o.dict=d
def Dc.of{e:Sa}{h:Si}{o:Sk}(q:h.get? e=b3 o):Dc e o.dict h:=⟨o,(Nm.mp q).1,rfl⟩
theorem Dc.at{e:Sa}{d:Option Sa}{h:Si}{o:Sk}(D:Dc e d h)(q:h.get? e=b3 o):o.dict=d:=by obtain⟨o',a,b⟩:=D;rw[(Nm.mp q).1]at a;cases a;exact b
def Dc.upd{e a:Sa}{d:Option Sa}{h:Si}{f:Sk->Sk}(D:Dc e d h)(i:∀o,(f o).dict=o.dict):Dc e d (h.update a f):=by
 obtain⟨o,g,c⟩:=D;cases h;simp only[Dc,Heap.update,Array.getElem?_modify];by_cases b:a=e
 ·subst b
  exact⟨f o,by rw[if_pos rfl,g];rfl,(i o).trans c⟩
 ·exact⟨o,by rw[if_neg b];exact g,c⟩
def Dc.push{e:Sa}{d:Option Sa}{h:Si}(o:Sk)(D:Dc e d h):Dc e d (h.push o):=by obtain⟨b,a,c⟩:=D;cases h;refine⟨b,?_,c⟩;simp only[Heap.push,Array.getElem?_push];rw[if_neg (Bl (Array.getElem?_eq_some_iff.mp a).1)];exact a
def Yg{α:Type}{M:Ss}{i:PySem.Ctx}{e:Sa}{d:Option Sa}{E:Rz->Pos->Ad->Prop}:∀(t:Sr α) (Q:α->Pos->Ad->Prop) (p:Pos) (s:Ad),KD t->Dc e d s.heap->Sem.wp M i t Q E p s->Sem.wp M i t (λa p s'=>Q a p s'/\Dc e d s'.heap) E p s:=by
 intro t;induction t with
 |pure a=>intro Q p s _ D h;simp only[Sem.wp_pure]at h⊢;exact⟨h,D⟩
 |raise v=>intro Q p s _ D h;simp only[Sem.wp_raise]at h⊢;exact h
 |unsupported w=>intro Q p s _ D h;simp only[Sem.wp_unsupported]at h
 |finish w=>intro Q p s _ D h;simp only[Sem.wp_finish]at h
 |rule g k c=>intro Q p s K D h;simp only[Sem.wp_rule]at h⊢;exact c () Q p s K D h
 | «at» q k c=>intro Q p s K D h;simp only[Sem.wp_at]at h⊢;exact c () Q q s K D h
 |load a b k c=>intro Q p s K D h;rw[Sem.wp_load]at h⊢;obtain⟨o,j,h⟩:=h;exact⟨o,j,c o Q p s (K o) D h⟩
 |update a b f k c=>intro Q p s K D h;rw[Sem.wp_update]at h⊢;exact⟨h.1,c () Q p _ K.2 (D.upd K.1) h.2⟩
 |alloc o k c=>intro Q p s K D h;simp only[Sem.wp_alloc]at h⊢;exact c _ Q p _ (K _) (D.push o) h
 |loadIfAlive a k c=>intro Q p s K D h;simp only[Sem.wp_loadIfAlive]at h⊢;exact c _ Q p s (K _) D h
 |point l k c=>intro Q p s K D h;simp only[Sem.wp_point]at h⊢;exact c () Q p s K D h
 |stack k c=>intro Q p s K D h;rw[Sem.wp]at h⊢;exact c _ Q p s (K _) D h
 |fresh k c=>intro Q p s K D h;simp only[Sem.wp_fresh]at h⊢;exact c _ Q p _ (K _) D h
 |ask k c=>intro Q p s K D h;simp only[Sem.wp_ask]at h⊢;exact c _ Q p s (K _) D h
 |handled o k c=>intro Q p s K D h;simp only[Sem.wp_handled]at h⊢;exact c _ Q p s (K _) D h
 |_=>intro Q p s K;exact K.elim
def GV{α:Type}{M:Ss}{A:Cb}{e:Sa}{d:Option Sa}{E:Rz->Ad->Prop}{t:Sr α}{Q:α->Ad->Prop}{s:Ad}(K:KD t)(D:Dc e d s.heap)(h:Sd M A t (λa s'=>Dc e d s'.heap->Q a s') E s):Sd M A t Q E s:=λc p b=>
 Sem.wp_mono M c t (λa p s' z=>z.1 z.2) (λ_ _ _ z=>z) p s (Yg t _ p s K D (h c p b))
def KD.bind{α β:Type}{f:α->Sr β}:∀{m:Sr α},KD m->(∀a,KD (f a))->KD (m>>=f):=by
 intro m;show KD m->_->KD (Sem.bind m f);induction m with
 |pure a=>intro _ h;exact h a
 |raise v=>intro _ h;exact trivial
 |unsupported w=>intro _ h;exact trivial
 |finish w=>intro _ h;exact trivial
 |rule g k c=>intro K h;exact c () K h
 | «at» q k c=>intro K h;exact c () K h
 |load a b k c=>intro K h o;exact c o (K o) h
 |update a b f k c=>intro K h;exact⟨K.1,c () K.2 h⟩
 |alloc o k c=>intro K h a;exact c a (K a) h
 |loadIfAlive a k c=>intro K h o;exact c o (K o) h
 |point l k c=>intro K h;exact c () K h
 |stack k c=>intro K h l;exact c l (K l) h
 |fresh k c=>intro K h l;exact c l (K l) h
 |ask k c=>intro K h l;exact c l (K l) h
 |handled o k c=>intro K h l;exact c l (K l) h
 |_=>intro K;exact K.elim
def jA(f:Array Rz->Array Rz)(o:Sk):(Rg f o).dict=o.dict:=by unfold Rg;split<;>rfl
def KD.field(v:Rz)(i:Nat):KD (field v i):=by unfold PySem.field fieldsOf;repeat (first|exact trivial|exact λ_=>trivial|with_reducible refine KD.bind ?_ ?_|intro _|split)
def KD.setField(v:Rz)(i:Nat)(x:Rz):KD (setField v i x):=by unfold Qq updateField;repeat (first|exact trivial|exact⟨jA _,trivial⟩|exact λ_=>trivial|with_reducible refine KD.bind ?_ ?_|intro _|split)
def KD.flight(e:Rz)(f:Option Sa):KD (setFlight e f):=by unfold setFlight;repeat (first|exact trivial|exact KD.field _ _|exact KD.setField _ _ _|with_reducible refine KD.bind ?_ ?_|intro _|split)
theorem KD.ready:∀l:List Env,KD (readyFrames l)
 |[]=>trivial
 |env::outer=>by have a:=KD.ready outer;unfold readyFrames behindIsImport keptBack;repeat (first|exact trivial|exact a|exact KD.field _ _|exact⟨λ_=>rfl,trivial⟩|exact λ_=>trivial|with_reducible refine KD.bind ?_ ?_|intro _|split)
def KD.frameOf(env:Env):KD (No env):=by have h1:=KD.ready;unfold No frameObject frameEnvs;repeat (first|exact trivial|exact h1 _|exact λ_=>trivial|with_reducible refine KD.bind ?_ ?_|intro _|split)
def KD.place(f:Sa)(b:Bool):KD (Ph f b):=by unfold Ph;repeat (first|exact trivial|exact λ_=>trivial|with_reducible refine KD.bind ?_ ?_|intro _|split)
def KD.entry(a b c d e:Rz)(l:List Rz):KD (Mw a b c d e l):=by show KD (if _ then unsupported _>>=λ_=>Qu _ _ _ else Qu _ _ _);have h:∀x:Data,KD (Qu (.type "traceback") x b5):=λx=>λ_=>trivial;repeat (first|exact trivial|exact h _|split)
def KD.note(e:Rz)(env:Env):KD (noteFrame e env):=by have h2:∀head f,KD (No env>>=λa=>Ph f (head != .none)>>=λpl=>Mw head a .none (rawInt f) .none pl>>=λb=>Qq e 1 b):=λ_ _=>KD.bind (KD.frameOf _) λ_=>KD.bind (KD.place _ _) λ_=>KD.bind (KD.entry _ _ _ _ _ _) λ_=>KD.setField _ _ _;unfold noteFrame;repeat (first|exact trivial|exact h2 _ _|exact KD.field _ _|exact KD.setField _ _ _|exact λ_=>h2 _ _|with_reducible refine KD.bind ?_ ?_|intro _|split)
def KD.leave(e:Rz)(env:Env):KD (leaving env e):=KD.bind (KD.note e env) λ_=>KD.flight e b5
end L2
namespace L2
open PySem PySem.Spec PyProof.Rows PySem.W PySem.Builtin PySem.Builtin.ObjectAttr
noncomputable abbrev vbs:List Rz:=[.type "ValueError",.type "Exception",.type "BaseException",.type "object"]
structure XA(K:Ag)(C:Sa):Prop where
 mro:W.mroIn K C (.type "object")=b3 ba
 cls:Gs K (.ref C) "__class__"=b3 (b3 (.builtin "object.__class__"))
 get:W.specialIn K (.builtin "object.__class__") "__get__"=b3 (b3 (.builtin "getset_descriptor.__get__"))
 tak:W.takesIn K (.builtin "object.__class__")=b3 ba
 ga:Gs K (.ref C) "__getattribute__"=b3 (b3 (.builtin "BaseException.__getattribute__"))
 no:Gs K (.ref C) "__getattr__"=b3 b5
 sub:Ri K (.ref C) (.type "BaseException")=b3 ba
section
variable{prog:Az}{w:Sg}{A:Cb}{E:Rz->Ad->Prop}{s:Ad}{K:Frag}{C Cp N:Sa}{nm q:Sb}{v:Rz}{bs bm:List Rz}{hdct:Bool}{sn:List Sb}{sub:List Rz}{ab:Bool}{col:Option Bool}{dd:Option Sa}{k0 k1 k2 k3 k5:Option Rz}{cn qual txt:Sb}
 {mN mg:Sb->Option Rz}{fI:Sa}{st:Sj}{fd:Ch}{u:Rz}
end
end L2
namespace L2
open PySem PySem.Spec PyProof.Rows
noncomputable def NG:List (Option Nat)->List cT->Nat->Option cT
 |none::_,d::_,0=>b3 d
 |none::sh,_::ds,j+1=>NG sh ds j
 |some k::sh,ds,j+1=>NG sh (ds.drop k) j
 |_,_,_=>b5
section
variable{X:Cx}{K:Ag}{ml:List Nat}{a b:Sf}{es:List Sf}{H:Hp}{ps:Bool}{δ:Ev}{pos ag:Pos}{i j jj:Nat}
theorem P9.getV{sub:Sa->Option (List V)}{N:Sa->Prop}:∀{xs vs:List V}{sh:List (Option Nat)}{ds:List cT}{d:cT}{j:Nat},P9 sub xs sh vs->b6 K N H vs ds->NG sh ds j=b3 d->∃v,xs[j]?=b3 v/\bB K N H N v d
 |_,_,_,_,_,_,.nil,_,h=>by simp[NG]at h
 |_,_,_,_,_,0,.val _ _,.cons r _,h=>by simp only[NG,Oj]at h;subst h;exact⟨_,rfl,r⟩
 |_,_,_,_,_,j+1,.val _ t,.cons _ r,h=>by obtain⟨v,b,a⟩:=P9.getV (j:=j) t r (by simpa[NG]using h);exact⟨v,by simpa using b,a⟩
 |_,_,_,_,_,0,.lst _ _ _,_,h=>by simp[NG]at h
 |_,_,_,ds,_,j+1,.lst (zs:=zs) _ _ t,r,h=>by
  have:=r.drop zs.length
  rw[Fq]at this;obtain⟨v,b,a⟩:=P9.getV (j:=j) t this (by simpa[NG]using h);exact⟨v,by simpa using b,a⟩
def IU{α:Type}{xs:List α}{j:Nat}{v:α}(h:xs[j]?=b3 v):UR xs (j:Int)=b3 v:=by have hl:=(Ai.mp h).1;unfold UR KQ;rw[if_pos (by lia),if_pos (by lia)];simpa using h
def fNv(i j:Nat):VF:=λδ=>match δ[i]? with
 |some (.ow (.nst sh ds))=>(NG sh ds j).map λd=>(d,δ)
 |_=>b5
def Tk(l:PE X a (ZH i))(h:PE X b (tC (.int (j:Int))))(m:X.K=K:=by rfl)(g:WS b:=by exact λ_ _=>rfl):PE X (.Subscript a b pos) (TV K ml ba ba ba (fNv i j)):=by
 refine(MA (kIxL m) l h g).imp λσ H Q c=>?_;obtain⟨B,O,δ,d,δ',S,q,k⟩:=c;unfold fNv at q;split at q
 ·rename_i sh ds hd
  obtain⟨d',h1,q⟩:=An.mp q;cases q;obtain⟨x,p,o,w⟩:=S.ow i _ hd;cases w with
  |nst q0 r=>
   obtain⟨xs,sub,e,_,sp⟩:=q0;obtain⟨v,n,f⟩:=sp.getV r h1;exact⟨.ref x,o,x,xs,j,v,rfl,rfl,.inl (.inl (.inr (.inl ⟨xs,sub,xs,rfl,.inr ⟨e,rfl⟩⟩))),IU n,k v H (AQ.refl S f)⟩
 ·cases q
def fNl(i j:Nat):VF:=λδ=>(part δ i j).map λd=>(d,δ)
def Vk(l:PE X a (ZH i))(h:PE X b (tC (.int (j:Int))))(m:X.K=K:=by rfl)(g:WS b:=by exact λ_ _=>rfl):PE X (.Subscript a b pos) (TV K ml ba bb ba (fNl i j)):=by
 refine(MA (kIxL m) l h g).imp λσ H Q c=>?_;obtain⟨B,O,δ,d,δ',S,q,k⟩:=c;unfold fNl at q;obtain⟨d',h1,q⟩:=An.mp q;cases q;obtain⟨sh,ds,es,o,n,rfl⟩:=UU h1;obtain⟨x,u,t,w⟩:=S.ow i _ o;cases w with
 |nst q0 r=>
  obtain⟨xs,sub,e,ow,sp⟩:=q0;obtain⟨p,zs,s,f,rz⟩:=sp.getL r n;exact⟨.ref x,t,x,xs,j,.ref p,rfl,rfl,.inl (.inl (.inr (.inl ⟨xs,sub,xs,rfl,.inr ⟨e,rfl⟩⟩))),IU s,k _ H (AQ.refl S (.fzm (xs:=zs) (.inr (.inl ⟨x,xs,sub,ow p zs f,e,λz=>z,f⟩)) rz))⟩
def aP(i j:Nat)(fs:WO):WO:=λδ=>(part δ i j).bind λ_=>(fs δ).map λq=>(.p i j::q.1,q.2)
def Ug{fs:WO}{as:List AV}{δ':Ev}(q:aP i j fs δ=b3 (as,δ')):∃d a,part δ i j=b3 d/\fs δ=b3 (a,δ')/\as=.p i j::a:=by unfold aP at q;obtain⟨d,h1,q⟩:=Aa.mp q;obtain⟨p2,h2,q⟩:=An.mp q;cases q;exact⟨d,_,h1,h2,rfl⟩
def RQ{B:Bs}{O:Nat->Option Sa}{σ:St}{d:cT}(S:aI K ml B O H σ δ)(h:part δ i j=b3 d):∃x xs sub v,σ[i]?=b3 (b3 (.ref x))/\H x=b3 (.nst xs sub)/\xs[j]?=b3 v:=by
 obtain⟨sh,ds,es,b,a,rfl⟩:=UU h;obtain⟨x,k,f,w⟩:=S.ow i _ b;cases w with
 |nst q0 r=>
  obtain⟨xs,sub,e,ow,sp⟩:=q0;obtain⟨p,zs,c,g,rz⟩:=sp.getL r a;exact⟨x,xs,sub,_,f,e,c⟩
def js{fs:WO}(r:PE X a (ZH i))(o:PE X b (tC (.int (j:Int))))(n:PA X es (KM K ml ba fs))(s:X.K=K:=by rfl)(l:WS b:=by exact λ_ _=>rfl)(m:Ap (.Subscript a b pos::es) X.env=(bb,eval (.Subscript a b pos) X.env)::Ap es X.env:=by rfl):PA X (.Subscript a b pos::es) (KM K ml ba (aP i j fs)):=by refine(bL (MA (kIxL s) r o l) n m).imp λσ H Q c=>?_;obtain⟨B,O,δ,as,h,S,q,k⟩:=c;obtain⟨d,t,h1,h2,rfl⟩:=Ug q;obtain⟨x,xs,sub,v,g,e,f⟩:=RQ S h1;exact⟨.ref x,g,x,xs,j,v,rfl,rfl,.inl (.inl (.inr (.inl ⟨xs,sub,xs,rfl,.inr ⟨e,rfl⟩⟩))),IU f,B,O,δ,_,_,S,h2,λvs H2 R2=>k _ H2 ⟨R2.sta,R2.frm,R2.pur,.p g (R2.pur rfl _ _ e) f R2.rep⟩⟩
def eO{W:Hp->Sa->Hp->Prop}{fs:WO}(w:PE X a (ZH i))(t:PE X b (tC (.int (j:Int))))(r:PA X es (EQ K ml ba W fs))(y:X.K=K:=by rfl)(m:WS b:=by exact λ_ _=>rfl)(o:Ap (.Subscript a b pos::es) X.env=(bb,eval (.Subscript a b pos) X.env)::Ap es X.env:=by rfl):PA X (.Subscript a b pos::es) (EQ K ml ba W (aP i j fs)):=by refine(bL (MA (kIxL y) w t m) r o).imp λσ H Q f=>?_;obtain⟨B,O,δ,as,l,S,q,k⟩:=f;obtain⟨d,z,h1,h2,rfl⟩:=Ug q;obtain⟨x,xs,sub,v,h,e,g⟩:=RQ S h1;exact⟨.ref x,h,x,xs,j,v,rfl,rfl,.inl (.inl (.inr (.inl ⟨xs,sub,xs,rfl,.inr ⟨e,rfl⟩⟩))),IU g,B,O,δ,_,_,S,h2,λvs H2 R2 c u n p s=>k (v::vs) H2 ⟨R2.sta,R2.frm,R2.pur,.p h (R2.pur rfl _ _ e) g R2.rep⟩ (v::c) u (by rw[n];rfl) p s⟩
end
def P2(sub:Sa->Option (List V))(p:Sa)(ys:List V):Sa->Option (List V):=λq=>if q=p then b3 ys else sub q
section
variable{X:Cx}{aa:List (Sa×Sk)}{σ:St}{H:Hp}{s:Ad}{x p:Sa}{xs ys zs:List V}{sub:Sa->Option (List V)}{its its':List Rz}{n n':Nat}{f:Sk->Sk}
def b9.nst(I:b9 X aa σ H s)(h:H x=b3 (.nst xs sub)):(xs.length<=sizeLine/\∃(its:List Rz) (n:Nat),bI xs its/\s.heap.get? x=b3 {cls:=.type "list",data:=.seq its.toArray n})∧ ∀p zs,sub p=b3 zs->p≠x/\H p=b3 (.own x)/\zs.length<=sizeLine/\∃(its:List Rz) (n:Nat),bI zs its/\s.heap.get? p=b3 {cls:=.type "list",data:=.seq its.toArray n}:=
 (show aG X.prog X.w H s.heap x (.nst xs sub) from I.hok x _ h)
def b9.nstTop(I:b9 X aa σ H s)(h:H x=b3 (.nst xs sub))(j:s.heap.get? x=b3 {cls:=.type "list",data:=.seq its.toArray n})(c:f {cls:=.type "list",data:=.seq its.toArray n}={cls:=.type "list",data:=.seq its'.toArray n'})(r:bI ys its')(hz:ys.length<=sizeLine)(t:Nat):b9 X aa σ (upd H x (.nst ys sub)) {s with heap:=s.heap.update x f,toks:=t}:=by
 have e:(s.heap.update x f).get? x=b3 {cls:=.type "list",data:=.seq its'.toArray n'}:=by rw[Go f j (by rw[c]<;>rfl),c]
 obtain⟨_,k⟩:=I.nst h;refine I.write (x:=x) (e:=x) (by rw[h];trivial) (.inl rfl) (λb u l q=>(Bv _ _ (Dl l)).trans q) ⟨_,e⟩ ⟨⟨hz,its',n',r,e⟩,λp zs d=>?_⟩;obtain⟨a,w,o,i,m,v,g⟩:=k p zs d;exact⟨a,by rw[cH a];exact w,o,i,m,v,(Bv _ _ (Dl a)).trans g⟩
def b9.nstSub(I:b9 X aa σ H s)(h:H x=b3 (.nst xs sub))(B:sub p=b3 zs)(C:s.heap.get? p=b3 {cls:=.type "list",data:=.seq its.toArray n})(l:f {cls:=.type "list",data:=.seq its.toArray n}={cls:=.type "list",data:=.seq its'.toArray n'})(r:bI ys its')(hz:ys.length<=sizeLine)(t:Nat):b9 X aa σ (upd H x (.nst xs (P2 sub p ys))) {s with heap:=s.heap.update p f,toks:=t}:=by
 have e:(s.heap.update p f).get? p=b3 {cls:=.type "list",data:=.seq its'.toArray n'}:=by rw[Go f C (by rw[l]<;>rfl),l]
 obtain⟨⟨z,A,y,w,E⟩,k⟩:=I.nst h;obtain⟨d,j,_⟩:=k p zs B;refine I.write (x:=x) (e:=p) (by rw[h];trivial) (.inr j) (λb u D q=>(Bv _ _ (Dl D)).trans q) ⟨_,e⟩ ⟨⟨z,A,y,w,(Bv _ _ d).trans E⟩,λq ws c=>?_⟩;unfold P2 at c;split at c
 ·rename_i a
  subst a;cases c;exact⟨d,by rw[cH d];exact j,hz,its',n',r,e⟩
 ·rename_i a
  obtain⟨o,G,F,i,m,v,g⟩:=k q ws c;exact⟨o,by rw[cH o];exact G,F,i,m,v,(Bv _ _ (Dl a)).trans g⟩
def Zt:V->V->V->Hp->(Hp->Prop)->Prop:=λo i v H Q=>∃x xs sub k j,o=.ref x/\i=.int k/\H x=b3 (.nst xs sub)/\KQ xs.length k=b3 j/\Q (upd H x (.nst (xs.set j v) sub))
def CD:PSet X Zt:=by
 intro aa s σ H o i v x y u Q I l m g h;obtain⟨p,xs,sub,k,j,rfl,rfl,b,w,q⟩:=h;cases l;obtain⟨t,rfl⟩:=m;obtain⟨⟨hz,its,n,r,a⟩,_⟩:=I.nst b;obtain⟨h1,h2,d,c⟩:=HN w;have hl:=r.length;have z:=QN;have f:b9 X aa σ (upd H p (.nst (xs.set j v) sub)) {s with heap:=s.heap.update p (Fx (·.setIfInBounds j u))}:=
  I.nstTop b a (LZ its n j u) (r.set g j) (by rw[Dg];exact hz) s.toks
 by_cases e:0<=k
 ·have hk:k.toNat=j:=by rw[Mr e c]at h1;exact Bx h1
  exact W.ki_setAt a e (by lia) (by rw[Ak,<-hl];exact c) (by rw[hk];exact⟨_,f,q⟩)
 ·have hk:(k+(its.toArray.size:Int)).toNat=j:=by rw[Lp (by lia) d]at h1;rw[Ak,<- hl];exact Bx h1
  exact W.ki_setBack a (by lia) (by rw[Ak,<-hl];exact d) (by lia) (by rw[hk];exact⟨_,f,q⟩)
def mS:V->List V->Hp->VK->Prop:=λo vs H Q=>∃p x xs sub zs y,o=.ref p/\vs=[y]/\H x=b3 (.nst xs sub)/\sub p=b3 zs/\zs.length<sizeLine/\Q .non (upd H x (.nst xs (P2 sub p (zs++[y]))))
def kl:MtM X "list.append" mS:=by intro aa s σ H x vs v us Q I g i h;obtain⟨p,x,xs,sub,zs,y,rfl,rfl,d,e,hz,k⟩:=h;cases g;obtain⟨u,rfl,j⟩:=i.one;obtain⟨_,kk⟩:=I.nst d;obtain⟨_,_,_,c,m1,b,a⟩:=kk p zs e;have l:=b.length;refine Eu Hr ⟨_,a,rfl⟩ Hf (Gw _ _) (Ib p c.toArray m1 u (by rw[Ak];lia)) ⟨a,?_⟩;exact⟨.non,_,I.nstSub d e a (f:=Fx λz=>z.push u) (its':=c++[u]) (n':=m1+1) (by simp[Fx]) (b.append (.cons j .nil)) (by rw[Ao,Cn];lia) s.toks,rfl,k⟩
end
noncomputable def NI:List (Option Nat)->List cT->Nat->cT->List cT
 |none::_,_::ds,0,d=>d::ds
 |none::sh,e::ds,j+1,d=>e::NI sh ds j d
 |some k::sh,ds,j+1,d=>ds.take k++NI sh (ds.drop k) j d
 |_,ds,_,_=>ds
noncomputable def PX:List (Option Nat)->List cT->Nat->List cT->List cT
 |some k::_,ds,0,es=>es++ds.drop k
 |none::sh,e::ds,j+1,es=>e::PX sh ds j es
 |some k::sh,ds,j+1,es=>ds.take k++PX sh (ds.drop k) j es
 |_,ds,_,_=>ds
section
variable{K:Ag}{H:Hp}{N:Sa->Prop}{sub:Sa->Option (List V)}
theorem P9.setV{v:V}{d:cT}(b:∀p,v≠ .ref p)(c:bB K N H N v d):∀{xs vs:List V}{sh:List (Option Nat)}{ds:List cT}{d0:cT}{j:Nat},P9 sub xs sh vs->b6 K N H vs ds->NG sh ds j=b3 d0->∃a,P9 sub (xs.set j v) sh a/\b6 K N H a (NI sh ds j d)
 |_,_,_,_,_,_,.nil,_,h=>by simp[NG]at h
 |_,_,_,_,_,0,.val _ t,.cons _ r,h=>⟨_,.val (λp e=>absurd e (b p)) t,.cons c r⟩
 |_,_,_,_,_,j+1,.val n t,.cons l r,h=>by obtain⟨a,g,f⟩:=P9.setV b c (j:=j) t r (by simpa[NG]using h);exact⟨_,.val n g,.cons l f⟩
 |_,_,_,_,_,0,.lst _ _ _,_,h=>by simp[NG]at h
 |_,_,_,ds,_,j+1,.lst (p:=p) (zs:=zs) hs ni t,r,h=>by
  have k:=r.take zs.length;have i:=r.drop zs.length;rw[Gz]at k;rw[Fq]at i;obtain⟨a,g,f⟩:=P9.setV b c (j:=j) t i (by simpa[NG]using h);refine⟨zs++a,.lst hs (λz=>?_) g,k.append f⟩;rcases Ka z with z|z
  ·exact ni z
  ·exact b p z.symm
theorem P9.keep{p:Sa}{ys:List V}:∀{xs vs:List V}{sh:List (Option Nat)},P9 sub xs sh vs->V.ref p∉xs->sub p≠b5->P9 (P2 sub p ys) xs sh vs
 |_,_,_,.nil,_,_=>.nil
 |_,_,_,.val (v:=v) n t,h,hp=>.val (λq e=>by unfold P2;rw[if_neg λz=>h (by rw[e,z];exact Bj)];exact n q e) (P9.keep t (λz=>h (At _ z)) hp)
 |_,_,_,.lst (p:=q) hs ni t,h,hp=>.lst (by unfold P2;rw[if_neg λz=>h (by rw[z];exact Bj)];exact hs) ni (P9.keep t (λz=>h (At _ z)) hp)
theorem P9.setL{p:Sa}{ys:List V}{d:List cT}(f:b6 K N H ys d):∀{xs vs zs:List V}{sh:List (Option Nat)}{ds:List cT}{j:Nat},P9 sub xs sh vs->b6 K N H vs ds->xs[j]?=b3 (.ref p)->sub p=b3 zs->∃a,P9 (P2 sub p ys) xs (sh.set j (b3 ys.length)) a/\b6 K N H a (PX sh ds j d)
 |_,_,_,_,_,_,.nil,_,h,_=>by simp at h
 |_,_,_,_,_,0,.val n _,_,h,b=>by simp at h;rw[n p h]at b;cases b
 | _,_,_,_,_,j + 1,.val (v := v) n t,.cons r0 r,h,b => by
  obtain⟨a,i,g⟩:=P9.setL f (j:=j) t r (by simpa using h) b;refine⟨_,.val (λq e=>?_) i,.cons r0 g⟩;have l:q≠p:=λz=>by
   have:=n q e
   rw[z,b]at this;cases this
  unfold P2;rw[if_neg l];exact n q e
 |_,_,_,_,ds,0,.lst (p:=q) (zs:=ws) hs' ni t,r,h,b=>by simp at h;subst h;have c:=r.drop ws.length;rw[Fq]at c;refine⟨ys++_,.lst (by unfold P2;rw[if_pos rfl]) ni (t.keep ni (by rw[hs'];simp)),f.append c⟩
 |_,_,_,_,ds,j+1,.lst (p:=q) (zs:=ws) hs' ni t,r,h,b=>by have k:=r.take ws.length;have c:=r.drop ws.length;rw[Gz]at k;rw[Fq]at c;have h':=h;simp only[List.getElem?_cons_succ]at h';obtain⟨a,i,g⟩:=P9.setL f (j:=j) t c h' b;refine⟨ws++a,.lst ?_ ni i,k.append g⟩;unfold P2;rw[if_neg λz=>ni (by rw[z];exact Cm h')];exact hs'
end
section
variable{X:Cx}{K:Ag}{ml:List Nat}{a b c e:Sf}{es:List Sf}{H:Hp}{pa pb:Bool}{pos ag:Pos}{i j:Nat}
def ja{N:Sa->Prop}{x:Sa}{us c:List V}{sub g:Sa->Option (List V)}{xs:List V}{ds:List cT}(d:H x=b3 (.nst us sub))(f:N x)(h:b6 K N H xs ds):b6 K N (upd H x (.nst c g)) xs ds:=
 h.fr (P:=λb=>b=x) ⟨λb u q n=>by
  by_cases e:b=x
  ·subst e
   rw[d]at q;cases q;exact absurd (n rfl) λz=>z
  ·rw[cH e]
   exact q,(NZ.of d).upd⟩ λa z=>z▸f
def M7{B:Bs}{O:Nat->Option Sa}{x:Sa}{us a vs:List V}{sub b:Sa->Option (List V)}{sh:List (Option Nat)}{ds:List cT}(c:H x=b3 (.nst us sub))(e:O i=b3 x)(ow:∀p zs,b p=b3 zs->H p=b3 (.own x))(sp:P9 b a sh vs)(r:b6 K (Nn B O) H vs ds):R7 K (Nn B O) (upd H x (.nst a b)) x (.nst sh ds):=by refine .nst ⟨a,b,cG,λp zs d=>?_,sp⟩ (ja c (.inr ⟨i,e⟩) r);have h:=ow p zs d;rw[cH (Y3 h c λz=>nomatch z)];exact h
def BH{n j:Nat}(h:j<n):KQ n (j:Int)=b3 j:=by unfold KQ;rw[if_pos (by lia),if_pos (by lia)];simp
def CC(i j:Nat)(fv:VF):VS:=λδ=>(fv δ).bind λp=>match p.1,p.2[i]? with
 |.int k,b3 (.ow (.nst sh ds))=>(NG sh ds j).map λ_=>.nx (p.2.set i (.ow (.nst sh (NI sh ds j (.int k)))))
 |_,_=>b5
def hG{fv:VF}(A:PE X a (ZH i))(hi:PE X b (tC (.int (j:Int))))(u:PE X c (TV K ml pb ba ba fv))(C:∀v,assign (.Subscript a b ag) X.env v=(do
   let f<-Gv [v] (eval a X.env)
   let h<-Gv [v,f] (eval b X.env)
   Lk ag
   Gv [v,f,h] (Mp f h v)
   release [v,f,h] []):=by intro _;rfl)
  (y:Ff [.Subscript a b ag] c pos.line X.env=pure bb:=by rfl) (hw:Fg [.Subscript a b ag] c X.env=pure b5:=by rfl)
  (h1:(Sh [.Subscript a b ag] X.env).map (·.2)=[assign (.Subscript a b ag) X.env]:=by rfl):PS X (.Assign [.Subscript a b ag] c pos) (V5 K ml (CC i j fv)):=
 (OS u (DV A hi CD C) y hw h1).imp λD σ H l => by
  obtain⟨B,O,δ,o,S,q,k⟩:=l;unfold CC at q;obtain⟨⟨z,δ1⟩,h1,q⟩:=Aa.mp q;simp only at q;split at q
  ·rename_i kk sh ds hd
   obtain⟨d0,h2,q⟩:=An.mp q;cases q;refine⟨B,O,δ,_,δ1,S,h1,λg H1 m=>?_⟩;obtain⟨x,s,G,w⟩:=m.sta.ow i _ hd;cases w with
   |nst q0 r=>
    obtain⟨xs,sub,e,ow,sp⟩:=q0;have n:bB K (Nn B O) H1 (Nn B O) g (.int kk):=m.rep;have E:g=.int kk:=n.onI;obtain⟨t,s1,s2⟩:=sp.setV (v:=g) (d:=.int kk) (λp z=>by rw[E]at z;cases z) n r h2;obtain⟨I,F,_⟩:=sp.getV r h2;exact⟨.ref x,G,x,xs,sub,j,j,rfl,rfl,e,BH (Ai.mp F).1,k σ _ O (m.sta.wrote s (λz=>z) (.of e) (M7 e s ow s1 s2))⟩
  ·cases q
def CA(i j:Nat)(fs:R8):VS:=λδ=>(part δ i j).bind λ_=>(fs δ).bind λr=>match r.1,r.2[i]? with
 |[d],b3 (.ow (.nst sh ds))=>(LU sh ds j).bind λzs=>if zs.length<16777216 then b3 (.nx (r.2.set i (.ow (.nst (sh.set j (b3 (zs.length+1))) (PX sh ds j (zs++[d]))))))else b5
 |_,_=>b5
def Zu{fs:R8}{af ae bx:Pos}(ho:PE X a (ZH i))(hi:PE X b (tC (.int (j:Int))))(ha:PA X (e::es) (GU K ml ba ba fs))(hK:X.K=K:=by rfl)(hx:WS b:=by exact λ_ _=>rfl)(ao:Cd (.Subscript a b bx) "append" X.env (eval (.Subscript a b bx) X.env)=eval (.Subscript a b bx) X.env:=by rfl)(au:((Ct ae (Ap (e::es) X.env)).all (λx=> !x.1)&&(Gu ae (Eh [] X.env)).all (λx=>x.1.isSome)&&decide ((e::es).length+([]:List Fo).length+(if([]:List Fo).isEmpty then 0 else 1)<30))=ba:=by rfl)(am:(af.endLine==ae.line)=ba:=by rfl)(hs:SE X e es:=by rfl)(ak:(Ct ae (Ap es X.env)).any (·.1)=bb:=by rfl)(A:Fu (.Call (.Attribute (.Subscript a b bx) "append" af) (e::es) [] ae) b5 pos.line X.env=pure bb:=by rfl):PS X (.Expr (.Call (.Attribute (.Subscript a b bx) "append" af) (e::es) [] ae) pos) (V5 K ml (CA i j fs)):=by
 subst hK;refine(M8 (kBm (K:=X.K) rfl Ep De Df kl (MA (kIxL rfl) ho hi hx) ha ao au am hs ak) A).imp λD σ H E=>?_;obtain⟨B,O,δ,o,S,q,k⟩:=E;unfold CA at q;obtain⟨d0,J,q⟩:=Aa.mp q;obtain⟨⟨es',δ1⟩,h1,q⟩:=Aa.mp q;simp only at q;split at q
 ·rename_i d sh ds hd
  obtain⟨zs,h2,q⟩:=Aa.mp q;split at q
  ·rename_i hz
   cases q;obtain⟨x,xs,sub,v,P,ex,r⟩:=RQ S J;obtain⟨Z,ds0,es0,e7,e8,_⟩:=UU J;obtain⟨x',G,n,W⟩:=S.ow i _ e7;rw[P]at n;cases n;cases W with
   |nst q0 r0=>
    obtain⟨U,g7,m,u,s⟩:=q0;rw[ex]at m;cases m;obtain⟨p,ws,N,f,_⟩:=s.getL r0 e8;rw[r]at N;cases N;refine⟨.ref x,P,x,xs,j,.ref p,rfl,rfl,.inl (.inl (.inr (.inl ⟨xs,sub,xs,rfl,.inr ⟨ex,rfl⟩⟩))),IU r,.inl ⟨rfl,ws,.inl (.inl (.inr (.inl ⟨xs,sub,ws,rfl,.inl ⟨x,u p ws f,ex,f⟩⟩)))⟩,B,O,δ,[d],δ1,S,h1,λvs H1 R=>?_⟩;have c:=R.pur rfl _ _ ex;obtain⟨x2,f1,_,w⟩:=R.sta.ow i _ hd;rw[G]at f1;cases f1;have rr:=R.rep;cases rr with
    | @cons y _ _ _ hv t=>
     cases t;cases w with
     |nst q1 I=>
      obtain⟨T,g6,l,h,g⟩:=q1;rw[c]at l;cases l;obtain⟨p',V,M,L,rz⟩:=g.getL I h2;rw[r]at M;cases M;rw[f]at L;cases L;have hl:=rz.length;obtain⟨Y,s1,s2⟩:=g.setL (rz.snoc hv) I r f;rw[Ao,Cn,hl]at s1;refine⟨p,x,xs,sub,ws,y,rfl,rfl,c,f,by rw[hl,Ce];exact hz,k σ _ O (R.sta.wrote G (λz=>z) (.of c) (M7 c G (λq Q F=>?_) s1 s2))⟩;unfold P2 at F;split at F
      ·rename_i C
       subst C;exact h _ _ f
      ·exact h _ _ F
  ·cases q
 ·cases q
end
def ko(l b j:Sa)(u:Array Rz)(n m:Nat)(k:Int)(t:Su)(y:0<=k)(h1:k<=u.size)(hz:u.size<=sizeLine)(a:l≠b):Meets (Gk.«list.__setitem__» ⟨[.ref l,.ref j,.ref b],[]⟩) (λ_ R s=>s.heap.get? l=b3 ⟨.type "list",b5,.seq u n,#[]⟩/\s.heap.get? b=b3 ⟨.type "list",b5,.seq #[] m,#[]⟩/\s.heap.get? j=b3 ⟨.type "slice",b5,.fields #[.int k t,.none,.none],#[]⟩/\R (.ok (.ret .none)) {s with heap:=s.heap.update l (Fx λx=>x.extract 0 k.toNat++x.extract u.size)}):=
 .of_wp λprog w A R s h=>by
  obtain⟨v,g,d,tk,os⟩:=s;obtain⟨hl,p,o,h⟩:=h;have f1:=Ik;have f2:=Ki;have f3:=Lh;have D:=Kt;have C:=Ku;have B:=slice_no_index;unfold Gk.«list.__setitem__»;wp_walk using Bg hl,Bg p,Bg o
  have r:Kj (.ref l) (.ref b)=bb:=by simp[Kj,a]
  have z:sliceIndices (rawInt k) Value.none Value.none u.size=pure (k,(u.size:Int),1):=by
   have:=sliceIndices_raw (b3 k) b5 b5 u.size (by simp)
   have e:max 0 (min (if k<0 then k+(u.size:Int)else k) (u.size:Int))=k:=by rw[if_neg (by omega)];omega
   simpa[rawPart,He,e]using this
  simp only[r,Ec,if_false];wp_walk using Bg hl,Bg p,Bg o
  have q:Dw (u.size+(#[]:Array Rz).size)=bb:=by simp[Dw];exact hz
  have i:(max k (u.size:Int)).toNat=u.size:=by omega
  rw[q];simp only[Ec,if_false,i];have f:(λxs:Array Rz=>xs.extract 0 k.toNat++ #[]++xs.extract u.size)=λxs=>xs.extract 0 k.toNat++xs.extract u.size:=by funext xs;simp
  rw[f];have c:(u.extract 0 k.toNat++u.extract u.size).size<=sizeLine+1:=by rw[Oq,Np,Np];omega
  refine Ac (wpAny_updateSeq hl rfl (hz:=hz) (_hz':=c) ?_);refine Ac (Mu ?_);exact Aq ⟨_,rfl,h⟩
section
variable{prog:Az}{w:Sg}{A:Cb}{E:Rz->Ad->Prop}{s:Ad}
def F6{l b a:Sa}{u:Array Rz}{n m:Nat}{k:Int}{t:Su}{Q:Unit->Ad->Prop}(g:0<=k)(h1:k<=u.size)(hz:u.size<=sizeLine)(c:l≠b)(hl:s.heap.get? l=b3 ⟨.type "list",b5,.seq u n,#[]⟩)(f:s.heap.get? b=b3 ⟨.type "list",b5,.seq #[] m,#[]⟩)(e:s.heap.get? a=b3 ⟨.type "slice",b5,.fields #[.int k t,.none,.none],#[]⟩)(h:Q () {s with heap:=s.heap.update l (Fx λx=>x.extract 0 k.toNat++x.extract u.size)}):Sd (Se prog w) A (Mp (.ref l) (.ref a) (.ref b)) Q E s:=by
 have d:s.heap.IsList l u:=PySem.IsL.isList hl;unfold Mp;refine Cc ?_;refine Ac (Ia d.typeIs (by decide) ?_);refine Ac (Cs (name:=Bq "__setitem__") d.typeIs Ot
  (Eu Ot d.typeIs entry_list_setitem (args_list_setitem _ _ _) (ko l b a u n m k t g h1 hz c) ⟨hl,f,e,?_⟩))
 exact Aq h
end
section
variable{X:Cx}{o lo:Sf}{to tl:TE}{pos p2:Pos}
def gCut(to tl:TE):TG:=λv σ H Q=>to σ H λx H1=>tl σ H1 λy H2=>∃b p a xs sub zs k,v=.ref b/\x=.ref p/\y=.int k/\H2 b=b3 (.lst [])/\H2 a=b3 (.nst xs sub)/\sub p=b3 zs/\0<=k/\k<=zs.length∧
 Q σ (upd H2 a (.nst xs (P2 sub p (zs.take k.toNat))))
def eN(m:PE X o to)(hl:PE X lo tl):PG X (.Subscript o (.Slice (b3 lo) b5 b5 p2) pos) (gCut to tl):=by
 intro aa s σ H v u Q I r h;rw[arm_assign_Subscript];refine Ac (Cc (ZP (m aa s σ H _ I h) λG s1 ⟨x,H1,D,j,q1⟩=>?_));refine Ac (Cc (wpAny_Slice ?_));rw[evalPart_some,Nh];refine ZP (hl aa s1 σ H1 _ D q1) λF s2 ⟨y,H2,C,a,q2⟩=>Aq (Aq ?_);obtain⟨b,p,E,xs,sub,zs,k,rfl,rfl,rfl,i,f,g,A,h1,q⟩:=q2;cases r;cases j;obtain⟨t,rfl⟩:=a;have c:b9 X aa σ H2 {s2 with heap:=s2.heap.push {cls:=.type "slice",data:=.fields #[.int k t,.none,.none]}}:=C.kept (t':=s2.toks) λb J q=>Ae _ q;obtain⟨_,kk⟩:=c.nst f;obtain⟨_,l,hz,its,n,d,e⟩:=kk p zs g;obtain⟨_,L,K,a,w,B⟩:=c.lstM i;cases a;have M:=d.length;refine Ac (Hm (Ac (Cc (F6 (t:=t) A (by rw[Ak];lia) (by rw[Ak];lia) (Y3 l i λz=>nomatch z) e B (Aw _ rfl) ?_))));refine wpAny_release ⟨σ,_,c.nstSub f g e (its':=its.take k.toNat) (n':=if min k.toNat its.length=its.length then n else n+1) ?_ (d.take _) ?_ _,q⟩
 ·simp[Fx]
 ·rw[Dj];lia
end
section
variable{X:Cx}{K:Ag}{ml:List Nat}{a b c e:Sf}{H:Hp}{pos ag p2 bx:Pos}{i j:Nat}
def J3(i j:Nat)(fv fk:VF):VS:=λδ=>(fv δ).bind λp=>match p.1 with
 |.lst []=>(part p.2 i j).bind λ_=>(fk p.2).bind λr=>match r.1,r.2[i]? with
  |.int k,b3 (.ow (.nst sh ds))=>(LU sh ds j).bind λzs=>if 0<=k/\k<=zs.length then b3 (.nx (r.2.set i (.ow (.nst (sh.set j (b3 k.toNat)) (PX sh ds j (zs.take k.toNat))))))else b5
  |_,_=>b5
 |_=>b5
def gC{fv fk:VF}(ho:PE X a (ZH i))(hi:PE X b (tC (.int (j:Int))))(hk:PE X e (TV K ml ba ba ba fk))(hv:PE X c (TN K ml ba fv))(hK:X.K=K:=by rfl)(hx:WS b:=by exact λ_ _=>rfl)(hs:Ff [.Subscript (.Subscript a b bx) (.Slice (b3 e) b5 b5 p2) ag] c pos.line X.env=pure bb:=by rfl)(hw:Fg [.Subscript (.Subscript a b bx) (.Slice (b3 e) b5 b5 p2) ag] c X.env=pure b5:=by rfl)(h1:(Sh [.Subscript (.Subscript a b bx) (.Slice (b3 e) b5 b5 p2) ag] X.env).map (·.2)=[assign (.Subscript (.Subscript a b bx) (.Slice (b3 e) b5 b5 p2) ag) X.env]:=by rfl):PS X (.Assign [.Subscript (.Subscript a b bx) (.Slice (b3 e) b5 b5 p2) ag] c pos) (V5 K ml (J3 i j fv fk)):=by
 refine(OS hv (eN (MA (kIxL hK) ho hi hx) hk) hs hw h1).imp λD σ H C=>?_;obtain⟨B,O,δ,o,S,q,k⟩:=C;unfold J3 at q;obtain⟨⟨z,f⟩,h0,q⟩:=Aa.mp q;simp only at q;split at q
 case h_2=>cases q
 obtain⟨d0,I,q⟩:=Aa.mp q;obtain⟨⟨dk,δ1⟩,h1,q⟩:=Aa.mp q;simp only at q;split at q
 case h_2=>cases q
 rename_i kk sh ds hd;obtain⟨zs,h2,q⟩:=Aa.mp q;split at q
 case isFalse=>cases q
 rename_i hz;cases q;refine⟨B,O,δ,.lst [],f,S,h0,λpb H1 t=>?_⟩;have hb:H1 pb=b3 (.lst []):=by
  have w:=t.own;cases w with
  |lst W V=>cases V;exact W
 obtain⟨x,xs,sub,v,N,ex,s⟩:=RQ t.sta I;obtain⟨sh0,ds0,es0,e7,e8,_⟩:=UU I;obtain⟨x',F,n,Y⟩:=t.sta.ow i _ e7;rw[N]at n;cases n;cases Y with
 |nst q0 r0=>
  obtain⟨T,g7,m,ow0,u⟩:=q0;rw[ex]at m;cases m;obtain⟨p,ws,M,r,_⟩:=u.getL r0 e8;rw[s]at M;cases M;refine⟨.ref x,N,x,xs,j,.ref p,rfl,rfl,.inl (.inl (.inr (.inl ⟨xs,sub,xs,rfl,.inr ⟨ex,rfl⟩⟩))),IU s,B.add pb,O,f,.int kk,δ1,t.sta,h1,λy H2 R=>?_⟩;have d:=R.pur rfl _ _ ex;have ey:y=.int kk:=by exact R.rep.onI
  obtain⟨x2,f1,_,w⟩:=R.sta.ow i _ hd;rw[F]at f1;cases f1;cases w with
  |nst q1 G=>
   obtain⟨Q,g6,l,h,g⟩:=q1;rw[d]at l;cases l;obtain⟨p',U,L,J,rz⟩:=g.getL G h2;rw[s]at L;cases L;rw[r]at J;cases J;have hl:=rz.length;obtain⟨Z,s1,s2⟩:=g.setL (rz.take kk.toNat) G s r;have hm:(ws.take kk.toNat).length=kk.toNat:=by rw[Dj,hl];lia
   rw[hm]at s1;refine⟨pb,p,x,xs,sub,ws,kk,rfl,rfl,ey,R.pur rfl _ _ hb,d,r,hz.1,by rw[hl];exact hz.2,k σ _ O (aI.unadd (p:=pb) (R.sta.wrote (o:=.nst xs (P2 sub p (ws.take kk.toNat))) F (λz=>z) (.of d) (M7 d F (λq P E=>?_) s1 s2)))⟩;unfold P2 at E;split at E
   ·rename_i A
    subst A;exact h _ _ r
   ·exact h _ _ E
end
section
variable{X:Cx}{K:Ag}{ml:List Nat}{a b c e:Sf}{H:Hp}{pos ag:Pos}{i j k:Nat}{pu:Bool}
def CB(i j k:Nat)(fs:R8):VS:=λδ=>(fs δ).bind λr=>match r.1,r.2[i]? with
 |[.int n,.int d],b3 (.ow (.nst sh ds))=>(NG sh ds j).bind λ_=>if k<r.2.length then b3 (.nx ((r.2.set i (.ow (.nst sh (NI sh ds j (.int n))))).set k (.va (.int d))))else b5
 |_,_=>b5
def jJ{y:Sb}{fs:R8}{f pt g:Pos}{kt k2}(hc:X.calm=ba)(U:X.N.Nodup)(hk:X.N[k]?=b3 y)(s:X.env.scope.names.lookup y=b3 .local)(P:PE X a (ZH i))(hi:PE X b (tC (.int (j:Int))))(J:PA X [c,e] (GU K ml pu ba fs))(hK:X.K=K:=by rfl)(Q:k∉ml:=by decide)(T:∀v,assign (.Subscript a b ag) X.env v=(do
   let h<-Gv [v] (eval a X.env)
   let l<-Gv [v,h] (eval b X.env)
   Lk ag
   Gv [v,h,l] (Mp h l v)
   release [v,h,l] []):=by intro _;rfl)
  (L:Ff [.Tuple [.Subscript a b ag,.Name y f] kt pt] (.Tuple [c,e] k2 g) pos.line X.env=pure bb:=by rfl) (hw:Fg [.Tuple [.Subscript a b ag,.Name y f] kt pt] (.Tuple [c,e] k2 g) X.env=pure b5:=by rfl)
  (h1:(Sh [.Tuple [.Subscript a b ag,.Name y f] kt pt] X.env).map (·.2)=[assign (.Tuple [.Subscript a b ag,.Name y f] kt pt) X.env]:=by rfl)
  (h2:(Sh [.Subscript a b ag,.Name y f] X.env).map (·.2)=assign (.Subscript a b ag) X.env::(Sh [.Name y f] X.env).map (·.2):=by rfl)
  (Y:(Sh [.Name y f] X.env).map (·.2)=assign (.Name y f) X.env::(Sh [] X.env).map (·.2):=by rfl)
  (W:(Sh [.Subscript a b ag,.Name y f] X.env).length=2:=by rfl) (V:(Sh [.Subscript a b ag,.Name y f] X.env).findIdx? (·.1)=b5:=by rfl):
  PS X (.Assign [.Tuple [.Subscript a b ag,.Name y f] kt pt] (.Tuple [c,e] k2 g) pos) (V5 K ml (CB i j k fs)):=by
 refine(OS (Xf J) (Uq hc (MC (DV P hi CD T) (MC (BV U hk (.inl s) (.inr s)) BW Y) h2) W V) L hw h1).imp λD σ H m=>?_;obtain⟨B,O,δ,o,S,q,kk⟩:=m;unfold CB at q;obtain⟨⟨zs,δ1⟩,h1,q⟩:=Aa.mp q;simp only at q;split at q
 case h_2=>cases q
 rename_i n d sh ds hd;obtain⟨d0,h2,q⟩:=Aa.mp q;split at q
 case isFalse=>cases q
 rename_i hl;cases q;refine⟨B,O,δ,_,δ1,S,h1,λvs H1 R=>?_⟩;have F:=R.rep;cases F with
 | @cons E _ _ _ I t=>
  cases t with
  | @cons C _ _ _ G t=>
   cases t;have e1:E=.int n:=I.onI;have e2:C=.int d:=G.onI;subst e1 e2;refine⟨by show 2<=sizeLine;decide,λp M=>?_⟩;have u:=R.sta.same (cK (o:=.tup [.int n,.int d]) M);obtain⟨x,f1,f2,w⟩:=u.ow i _ hd;cases w with
   |nst q0 r=>
    obtain⟨xs,sub,ex,ow,sp⟩:=q0;obtain⟨A,s1,s2⟩:=sp.setV (v:=.int n) (d:=.int n) (λp z=>by cases z) (.int n) r h2;obtain⟨v0,Z,_⟩:=sp.getV r h2;have S3:=u.wrote (o:=.nst (xs.set j (.int n)) sub) f1 (λz=>z) (.of ex) (M7 ex f1 ow s1 s2);have S4:=S3.setVa (i:=k) (v:=.int d) (d:=.int d) Q (.int d);exact⟨p,_,rfl,.inl (.inl (.inl cG)),rfl,_,_,rfl,.ref x,f2,x,xs,sub,j,j,rfl,rfl,ex,BH (Ai.mp Z).1,_,_,rfl,rfl,kk _ _ _ S4⟩
end
section
variable{X:Cx}{aa:List (Sa×Sk)}{σ:St}{H:Hp}{s:Ad}{a q:Sa}{xs zs:List V}
def subq(q:Sa)(zs:List V):Sa->Option (List V):=λr=>if r=q then b3 zs else b5
def J7{q r:Sa}{zs ws:List V}(h:subq q zs r=b3 ws):r=q/\ws=zs:=by
 unfold subq at h;split at h
 ·rename_i e
  cases h;exact⟨e,rfl⟩
 ·cases h
def W7(H:Hp)(a q:Sa)(xs zs:List V):Hp:=upd (upd H q (.own a)) a (.nst xs (subq q zs))
def UT{b:Sa}(h1:b≠a)(h2:b≠q):W7 H a q xs zs b=H b:=by unfold W7;rw[cH h1,cH h2]
def BS:W7 H a q xs zs a=b3 (.nst xs (subq q zs)):=cG
def IB(n:q≠a):W7 H a q xs zs q=b3 (.own a):=by unfold W7;rw[cH n,cG]
def UN.W7{P:Az}{w:Sg}{h:Si}(ok:UN P w H h)(e:H a=b3 (.lst xs))(f:H q=b3 (.lst zs))(n:q≠a):UN P w (L2.W7 H a q xs zs) h:=by
 intro b u d;by_cases h1:b=a
 ·subst h1
  rw[BS]at d;cases d;refine⟨ok b _ e,λr ws g=>?_⟩;obtain⟨rfl,rfl⟩:=J7 g;obtain⟨z,k⟩:=(show aG P w H h r (.lst ws) from ok r _ f);exact⟨n,IB n,z,k⟩
 ·by_cases h2:b=q
  ·subst h2
   rw[IB n]at d;cases d;obtain⟨_,_,_,_,i⟩:=ok b _ f;exact⟨_,i⟩
  ·rw[UT h1 h2]at d
   refine(ok b u d).stay (λ_ _ _ z=>z) (λc hc=>?_) λc zs hc=>?_
   ·rw [UT (Y3 hc e λz => nomatch z) (Y3 hc f λz => nomatch z)]
    exact hc
   ·rw [UT (Y3 hc e λz => nomatch z) (Y3 hc f λz => nomatch z)]
    exact hc
def b9.W7(I:b9 X aa σ H s)(e:H a=b3 (.lst xs))(d:H q=b3 (.lst zs))(n:q≠a):b9 X aa σ (L2.W7 H a q xs zs) s:=by
 have kp:∀b u,H b=b3 u->(∀ws,u≠ .lst ws)->L2.W7 H a q xs zs b=b3 u:=λb u h h2=>by rw[UT (Y3 h e (h2 _)) (Y3 h d (h2 _))];exact h
 have fr:∀b o,s.heap.get? b=b3 o->H b=b5->L2.W7 H a q xs zs b=b5:=λb o h c=>by rw[UT (aX e c).symm (aX d c).symm];exact c
 have u:Un X.fs [] H (L2.W7 H a q xs zs) s.heap s.heap:=⟨λb o h _ _ _=>h,λb o h _ _ _=>⟨o.slots,h⟩,λb o h c _=>fr b o h c,λb o h _=>⟨o,h⟩,λb zs h=>kp b _ h (λ_ z=>nomatch z),λb o v h=>kp b _ h (λ_ z=>nomatch z),λb zs h=>⟨#[],by simpa using kp b _ h (λ_ z=>nomatch z)⟩⟩;exact I.un (h':=s.heap) (t':=s.toks) u (I.hok.W7 e d n)
end
section
variable{X:Cx}{K:Ag}{ml:List Nat}{e:Sf}{H:Hp}{pos ag:Pos}{n:Int}
def dO(n:Int):TE:=λ_ H Q=>∀q p,H q=b5->H p=b5->q≠p->Q (.ref p) (W7 (upd (upd H q (.lst [])) p (.lst [.int n,.ref q])) p q [.int n,.ref q] [])
def ng(h:PE X e (tC (.int n)))(h1:Ap [e,.List [] ag] X.env=(bb,eval e X.env)::Ap [.List [] ag] X.env:=by rfl)(h2:Ap [.List [] ag] X.env=(bb,eval (.List [] ag) X.env)::Ap [] X.env:=by rfl):PE X (.List [e,.List [] ag] pos) (dO n):=by
 intro aa s σ H Q I k;refine ZP ((MB (bL h (bL (MB ZX) ZX h2) h1)) aa s σ H (λv H'=>∃q p,H q=b5/\H p=b5/\q≠p/\v=.ref p/\H'=upd (upd H q (.lst [])) p (.lst [.int n,.ref q])) I ?_) λu s1 ⟨v,H1,f,d,q1⟩=>?_
 ·refine ⟨by decide,λq b => ⟨by show 2 <= sizeLine;decide,λp a => ⟨q,p,b,?_,?_,rfl,rfl⟩⟩⟩
  ·have : p ≠ q := λz => by rw [z,cG]at a;cases a
   rwa[cH this]at a
  ·intro z
   rw[z,cG]at a;cases a
 ·obtain⟨q,p,b,a,c,rfl,rfl⟩:=q1
  exact⟨.ref p,_,f.W7 cG ((cH c).trans cG) c,d,k q p b a c⟩
end
section
variable{X:Cx}{K:Ag}{ml:List Nat}{e a b c:Sf}{es:List Sf}{pa ps:Bool}{fa:VF}{H:Hp}{σ:St}{δ δ':Ev}{v:V}{d d0:cT}{p:Sa}{pos:Pos}{i j:Nat}
def iD{n:Int}{q p:Sa}{N:Sa->Prop}(c:H q=b5)(d:H p=b5)(b:q≠p):R7 K N (W7 (upd (upd H q (.lst [])) p (.lst [.int n,.ref q])) p q [.int n,.ref q] []) p (.nst [b5,b3 0] [.int n]):=by refine .nst (vs:=[.int n]) ⟨_,_,BS,λr zs a=>?_,.val (λr z=>nomatch z) (.lst (zs:=[]) (vs:=[]) (by unfold subq;rw[if_pos rfl]) (λz=>nomatch z) .nil)⟩ (.cons (.int n) .nil);obtain⟨rfl,_⟩:=J7 a;exact IB b
def gJ{n:Int}{q p:Sa}(c:H q=b5)(d:H p=b5):aM H (W7 (upd (upd H q (.lst [])) p (.lst [.int n,.ref q])) p q [.int n,.ref q] []):=λb o a=>by
 have h1:b≠p:=λz=>by rw[z,d]at a;cases a
 have h2:b≠q:=λz=>by rw[z,c]at a;cases a
 rw[UT h1 h2,cH h1,cH h2];exact a
def fE{j:Nat}{n:Int}{i c:Pos}(u:PE X a (tC (.int n)))(t:PE X b (ZH j))(o:Ap [.List [a,.List [] c] i,b] X.env=(bb,eval (.List [a,.List [] c] i) X.env)::Ap (b::[]) X.env:=by rfl)(f:SE X b []:=by rfl)(h1:Ap [a,.List [] c] X.env=(bb,eval a X.env)::Ap [.List [] c] X.env:=by rfl)(h2:Ap [.List [] c] X.env=(bb,eval (.List [] c) X.env)::Ap [] X.env:=by rfl):
  PA X [.List [a,.List [] c] i,b] (TAGG K ml ba (.nst [b5,b3 0] [.int n]) (aE (fV j) bZ)):=(bL (ng u h1 h2) (bL t ZX f) o).imp λσ H Q g=>by
 obtain⟨B,O,δ,as,m,S,q,k⟩:=g;unfold aE at q;obtain⟨z,h1,q⟩:=Aa.mp q;cases q;unfold fV at h1;split at h1
 ·rename_i d hd
  cases h1;intro q p l h s;obtain⟨v,e,r⟩:=S.va j _ hd;exact⟨v,e,k [v] H ⟨S,Fr.refl _ _,λ_=>aM.refl _,.d r .nil⟩ [] v rfl p _ ⟨h,gJ l h,λN=>iD l h s⟩⟩
 ·cases h1
def m8{x:Sb}{kk j i:Nat}{qs:List Sb}{mF:List Nat}{F:cB}{ff:Sa}{p':Pos}{fs:WO}(D:Def X.prog X.w K X.mg X.base x kk qs (spV K (mF++[i]) (i+2) F) ff)(g:Z4 j X.A)(r:PA X (e::es) (TAGG K ml ps d0 fs))(s:X.K=K:=by rfl)(m:∀j∈mF,j<i:=by decide)(hk:kk<=j:=by decide)(n:Gl X x:=by rfl)(c:ND x:=by decide)(o:SE X e es:=by rfl)(b:(Ct pos (Ap es X.env)).any (·.1)=bb:=by rfl):PE X (.Call (.Name x p') (e::es) [] pos) (TV K ml (ps&&mF.isEmpty) ba ba (cE (i+1) mF (DG d0 i F) fs)):=by subst s;refine(PU D g hk n r c o b).imp λσ H Q h=>?_;obtain⟨B,O,δ,as,δ',S,q,k⟩:=VT h;refine⟨B,O,δ,as,δ',S,q,λvs H' R a v f p H2 hw=>?_⟩;obtain⟨l,d,own⟩:=hw;subst f;have z:spV X.K mF (i+1) (DG d0 i F) ((a++[v])++[]) H' Q E0:=k _ H' R;show spV X.K (mF++[i]) (i+2) F ((a++[.ref p,v])++[]) H2 Q E0;rw[Bi]at z⊢;exact F9 m l d own z
end
def recV(f:cB->cB):Nat->cB
 |0=>λ_=>b5
 |n+1=>f (recV f n)
def PN{P:Az}{w:Sg}{K:Ag}{mg:Sb->Option Rz}{base:Si}{k n:Nat}{f:Sa}{fd:Ch}{ps:List Sb}{ml:List Nat}:YV P w K mg base CX0 k f fd ps (spV K ml n λ_=>b5):=by
 refine⟨λvs H Q E h=>?_,λA outer s H args us vs Q E _ _ _ _ h=>?_⟩<;>
 ·obtain⟨_,_,_,_,_,_,h,_⟩:=h
  cases h
section
variable{X:Cx}{K:Ag}{ml:List Nat}{e a b c:Sf}{es:List Sf}{ps:Bool}{H H':Hp}{v:V}{d:cT}{p:Sa}{pos:Pos}
noncomputable def insE(i:Nat)(F:cB):cB:=λds=>(F (ds.take i++ .dct [] []::ds.drop i)).map λq=>(q.1,q.2.drop 1)
def jX{i:Nat}{F:cB}{c:List V}{Q:VK}{E:XK}(s:H p=b5)(h:spV K [i] (i+1) (insE i F) (c++[v]) H Q E):spV K [i,i+1] (i+2) F (c++[.ref p,v]) (upd H p (.dK [])) Q E:=by
 obtain⟨Z,ds,r,os,hl,A,G,k⟩:=h;obtain⟨l,d,rfl⟩:∃l d,ds=l++[d]:=⟨ds.dropLast,ds.getLast (λz=>by rw[z]at hl;cases hl),(Io _).symm⟩;have m:l.length=i:=by simpa using hl
 have y:c.length=i:=by have:=A.len;simp at this;lia
 unfold insE at G;rw[Lw m,Qk m]at G;obtain⟨⟨r',N⟩,h0,G⟩:=An.mp G;cases G;have lo:∀(j:Nat),j<i->(c++[.ref p,v])[j]?=(c++[v])[j]? :=λj g=>by rw[Ah (by lia),Ah (by lia)]
 have C:(c++[.ref p,v])[i]?=b3 (.ref p):=by rw[Am (by lia),y,Gq];rfl
 have n:(c++[.ref p,v])[i+1]?=b3 v:=by rw[Am (by lia),y,show i+1-i=1 by lia];rfl
 have t:(c++[v])[i]?=b3 v:=by rw[Am (by lia),y,Gq];rfl
 have Y:∀(j:Nat),j<i->(l++ .dct [] []::[d])[j]?=(l++[d])[j]? :=λj g=>by rw[Ah (by lia),Ah (by lia)]
 have X:(l++ .dct [] []::[d])[i]?=b3 (.dct [] []):=by rw[Am (by lia),m,Gq];rfl
 have W:(l++ .dct [] []::[d])[i+1]?=b3 d:=by rw[Am (by lia),m,show i+1-i=1 by lia];rfl
 have U:(l++[d])[i]?=b3 d:=by rw[Am (by lia),m,Gq];rfl
 obtain⟨a,ea,wa,za⟩:=A.ow i d (Al.mpr rfl) U;rw[t]at ea;cases ea;have ap:a≠p:=λz=>by obtain⟨o,q,_⟩:=wa.soft;rw[z,s]at q;cases q
 have hP:∀b,VW [i,i+1] (c++[.ref p,.ref a]) b->VW [i] (c++[.ref a]) b∨b=p:=λb q0=>by
  obtain⟨j,g,e⟩:=q0;rcases Ar.mp g with g|g
  ·rw[g,C]at e
   cases e;exact .inr rfl
  ·rw[Al.mp g,n]at e
   cases e;exact .inl ⟨i,Al.mpr rfl,t⟩
 have S:∀b,VW [i] (c++[.ref a]) b->VW [i,i+1] (c++[.ref p,.ref a]) b:=λb q0=>by obtain⟨j,g,e⟩:=q0;rw[Al.mp g,t]at e;cases e;exact⟨i+1,At _ (Al.mpr rfl),n⟩
 have R:∀b,Zp Z [i,i+1] (c++[.ref p,.ref a]) b->Zp Z [i] (c++[.ref a]) b∨b=p:=λb h=>by
  rcases h with h|h
  ·exact .inl (.inl h)
  ·exact(hP b h).imp .inr id
 have B:∀b,Zp Z [i] (c++[.ref a]) b->Zp Z [i,i+1] (c++[.ref p,.ref a]) b:=λb h=>h.imp id (S b);refine⟨Z,l++ .dct [] []::[d],_,N,by simp[m],⟨by simp;lia,λj g=>?_,λj x g e=>?_,λj x g e=>?_,λj1 j2 b h1 h2 D T=>?_,λa h=>let ⟨o,q⟩:=A.zin a h;⟨o,cK s _ _ q⟩⟩,h0,λu H' f w rr=>k u H' ⟨λb o P hc=>f b o (cK s _ _ P) λz=>?_,λ_ _ _ _ _ _ _ _ _ h=>f.ft _ _ _ _ _ _ _ _ _ (cK s _ _ h)⟩ (λkk j b o D T e3=>?_) (rr.mono B B)⟩
 ·rcases Ar.mp g with g|g
  ·rw[g]
   simp;lia
  ·rw[Al.mp g]
   simp;lia
 ·have O : j ≠ i := λz => g (Ar.mpr (.inl z))
  have hjk:j≠i+1:=λz=>g (Ar.mpr (.inr (Al.mpr z)));have h1:j<i:=by
   have:=(Ai.mp e).1
   simp at this;lia
  rw[Y j h1]at e;obtain⟨u,D,r1⟩:=A.va j x (λz=>O (Al.mp z)) e;exact⟨u,by rw[lo j h1];exact D,(r1.away s _ _ R R).same (cK s)⟩
 ·rcases Ar.mp g with g|g
  ·subst g
   rw[X]at e;cases e;exact⟨p,C,.dct (kvs:=[]) cG .nil,λz=>by obtain⟨o,q⟩:=A.zin p z;rw[s]at q;cases q⟩
  ·rw[Al.mp g,W]at e
   cases e;exact⟨a,by rw[Al.mp g];exact n,wa.awayS s (cK s) R,za⟩
 ·have go : ∀ j,j ∈ [i,i + 1] -> (c ++ [.ref p,.ref a])[j]? = b3 (.ref b) -> (j = i /\ b = p) ∨ (j = i + 1 /\ b = a) := λj g e => by
   rcases Ar.mp g with g|g
   ·rw[g,C]at e
    cases e;exact .inl ⟨g,rfl⟩
   ·have g:=Al.mp g
    rw[g,n]at e;cases e;exact .inr ⟨g,rfl⟩
  rcases go j1 h1 D with⟨M,J⟩|⟨M,J⟩<;>rcases go j2 h2 T with⟨L,I⟩|⟨L,I⟩
  ·rw[M,L]
  ·exact absurd (I.symm.trans J) ap
  ·exact absurd (J.symm.trans I) ap
  ·rw[M,L]
 ·rcases hP b z with z|z
  ·exact hc z
  ·rw[z,s]at P
   cases P
 ·have hk:kk=0:=by
   have:=(Ai.mp D).1
   simpa using this
  subst hk;cases D;refine(w 1 (i+1) b o rfl ?_ (by rw[List.getElem?_drop]at e3;exact e3)).mono B;rw[n,<-t];exact T
def dL{j:Nat}{f:Pos}(l:PE X b (ZH j))(h:Ap (.Dict [] [] f::b::[]) X.env=(bb,eval (.Dict [] [] f) X.env)::Ap (b::[]) X.env:=by rfl)(a:SE X b []:=by rfl):
  PA X [.Dict [] [] f,b] (TAGE K ml ba (aO j bZ)):=(bL FZ (bL l ZX a) h).imp λσ H Q c=>by
 obtain⟨B,O,δ,as,g,S,q,k⟩:=c;obtain⟨d,m,h1,h2,rfl⟩:=gX q;cases h2;obtain⟨v,e⟩:=S.slot h1;intro p i;exact⟨v,e,k [v] H ⟨S,Fr.refl _ _,λ_=>aM.refl _,.o e .nil⟩ [] v rfl p _ ⟨i,rfl⟩⟩
def AG{x:Sb}{kk j i:Nat}{qs:List Sb}{F:cB}{ff:Sa}{p':Pos}{fs:WO}(D:Def X.prog X.w K X.mg X.base x kk qs (spV K [i,i+1] (i+2) F) ff)(f:Z4 j X.A)(n:PA X (e::es) (TAGE K ml ps fs))(o:X.K=K:=by rfl)(hk:kk<=j:=by decide)(l:Gl X x:=by rfl)(c:ND x:=by decide)(m:SE X e es:=by rfl)(b:(Ct pos (Ap es X.env)).any (·.1)=bb:=by rfl):PE X (.Call (.Name x p') (e::es) [] pos) (TV K ml (ps&&[i].isEmpty) ba ba (cE (i+1) [i] (insE i F) fs)):=by subst o;refine(PU D f hk l n c m b).imp λσ H Q h=>?_;obtain⟨B,O,δ,as,δ',S,q,k⟩:=VT h;refine⟨B,O,δ,as,δ',S,q,λvs H' R a v d p H2 hw=>?_⟩;obtain⟨g,rfl⟩:=hw;subst d;have z:spV X.K [i] (i+1) (insE i F) ((a++[v])++[]) H' Q E0:=k _ H' R;show spV X.K [i,i+1] (i+2) F ((a++[.ref p,v])++[]) (upd H' p (.dK [])) Q E0;rw[Bi]at z⊢;exact jX g z
end
def aG.alive{P:Az}{w:Sg}{H:Hp}{h:Si}{a:Sa}{o:HO}(x:aG P w H h a o):∃u,h.get? a=b3 u:=by
 cases o with
 |lst xs=>obtain⟨_,_,_,_,e⟩:=x;exact⟨_,e⟩
 |tup xs=>obtain⟨_,_,_,b,e,_⟩:=x;exact⟨_,e⟩
 |dK kvs=>obtain⟨_,_,_,_,o,_,_,e,_⟩:=x;exact⟨_,e⟩
 |dT kvs=>obtain⟨_,_,_,_,o,_,_,e,_⟩:=x;exact⟨_,e⟩
 |set S n=>obtain⟨o,_,_,_,e,_⟩:=x;exact⟨_,e⟩
 |ins C dx fs=>obtain⟨_,_,_,e,_⟩:=x;exact⟨_,e⟩
 |own y=>exact x
 |xd fs=>obtain⟨_,⟨_,_,_,e,_⟩,_⟩:=x;exact⟨_,e⟩
 |rng lo hi=>obtain⟨_,_,_,e⟩:=x;exact⟨_,e⟩
 |frz b u=>obtain⟨e,_⟩:=x;exact⟨_,e⟩
 |tbl ps=>exact⟨_,(show h.get? a=b3 _ from x)⟩
 |met f y=>exact⟨_,(show h.get? a=b3 _ from x)⟩
 |nst xs sub=>obtain⟨⟨_,_,_,_,e⟩,_⟩:=x;exact⟨_,e⟩
 |flt C dx f g p q xs ys=>obtain⟨_,_,e,_⟩:=x;exact⟨_,e⟩
 |ext c=>exact x.2.1
structure XP(K:Ag)(C Cp:Sa):Prop where
 at_:Ds K Sc "PackError"=b3 (b3 (.ref Cp))
 ty:W.typeIn K (.ref Cp)=b3 (.type "type")
 cls:(Rj K Cp).isSome=ba
 base:Ri K (.ref Cp) (.type "BaseException")=b3 ba
 sub:Ri K (.ref C) (.ref Cp)=b3 ba
structure XC(K:Ag)(x:Sb)(C:Sa):Prop where
 at_:Ds K Sc x=b3 (b3 (.ref C))
 att:XA K C
 cls:(Rj K C).isSome=ba
 pk:∃Cp,XP K C Cp
structure XE(K:Ag)(x:Sb)(C:Sa):Prop where
 xc:XC K x C
 exc:W.excIn K C vbs "ValueError.__new__"=ba
def ExcF(l:List Env)(g:Si)(H:Hp)(C:Sa)(p:Option Sa)(e:Rz)(h:Si):Prop:=
 ∃a a0 B,e=.ref a/\Jx B l a (.ref C) a0 h/\Dc a p h/\(∀b o,g.get? b=b3 o->b∉QW l->∃o',h.get? b=b3 o'/\B.get? b=b3 o')/\∀b u,H b=b3 u->∃o,h.get? b=b3 o/\B.get? b=b3 o
def CXv(P:Az)(w:Sg):CS:=λouter H s E e s'=>∃C p H1,s'.os=s.os/\Kl s'.gens/\Un (QW outer) [] H H1 s.heap s'.heap/\UN P w H1 s'.heap/\ExcF outer s.heap H1 C p e s'.heap/\E (.ref C) p H1
def BC{P:Az}{w:Sg}{H:Hp}{h h' B:Si}(ok:UN P w H h)(st:B.StaysIn h')(i:∀b u,H b=b3 u->∃o,h.get? b=b3 o/\B.get? b=b3 o):UN P w H h':=λb u e=>
 (ok b u e).stay (λc v hc q => by
  have:∃u,H c=b3 u:=by
   rcases hc with rfl|hc
   ·exact⟨u,e⟩
   ·exact⟨_,hc⟩
  obtain⟨d,g⟩:=this;obtain⟨o,a,f⟩:=i c d g;rw[q]at a;cases a;exact st c v f) (λ_ q=>q) λ_ _ q=>q
section
variable{X:Cx}{aa:List (Sa×Sk)}{σ:St}{H H1:Hp}{s s':Ad}{g h' B:Si}{C a:Sa}{a0:Rz}
def b9.fly(I:b9 X aa σ H s)(st:B.StaysIn h')(t:s.heap.UpToSlots h')(G:∀b o,X.s₀.heap.get? b=b3 o->b∉QW X.stack->∃o',s.heap.get? b=b3 o'/\B.get? b=b3 o')(N:∀p∈X.pn++aa,B.get? p.1=b3 p.2)(O:∀b u,H b=b3 u->∃o,s.heap.get? b=b3 o/\B.get? b=b3 o):b9 X aa σ H {s with heap:=h'}:=by
 have A:∀b o,X.s₀.heap.get? b=b3 o->b≠X.env.locals:=λb o e=>Bl (Bb (As e) I.ok.above);have out:∀b o,X.s₀.heap.get? b=b3 o->b∉X.fs->b∉QW X.stack:=λb o e a z=>(Ar.mp (I.stkSub b z)).elim (A b o e) a;have F:∀b∈X.fs,∀o,s.heap.get? b=b3 o->∃w,h'.get? b=b3 {o with slots:=w}:=λb a o e=>by obtain⟨_,o',D,y⟩:=I.funs.mem a;rw[e]at D;cases D;exact t b o e y
 have E:∀x c,X.env.cells.lookup x=b3 c->∀v,s.heap.IsCell c v->h'.IsCell c v:=λx c _ v q0=>by
  obtain⟨o,K,hd⟩:=q0;obtain⟨w,e⟩:=t c o K λvs q=>by rw[hd]at q;cases q
  exact⟨_,e,hd⟩
 refine⟨I.ok,I.os,I.bare,⟨λb o e n a j=>?_,λb o e n a j=>?_,I.base.free,λb o e j=>?_,I.base.tups,I.base.frzs,I.base.tbls⟩,?_,λx c e=>?_,I.free,I.freeC,λp C=>?_,BC I.hok st O,I.len⟩
 ·obtain⟨o',g,f⟩:=G b o e (out b o e a)
  rw[I.base.keep b o e n a j]at g;cases g;exact st b o f
 ·obtain⟨w,g⟩:=I.base.slot b o e n a j
  obtain⟨h,f⟩:=F b a _ g;exact⟨h,f⟩
 ·by_cases a:b∈X.fs
  ·obtain⟨o',g⟩:=I.base.there b o e j
   obtain⟨h,f⟩:=F b a _ g;exact⟨_,f⟩
  ·obtain⟨o',g,f⟩:=G b o e (out b o e a)
   exact⟨o',st b o' f⟩
 ·obtain⟨m,L,hl⟩:=I.loc
  refine⟨m,t.ns L,λi x v g f M=>?_⟩;obtain⟨u,r,l⟩:=hl i x v g f M;refine⟨u,r,?_⟩;rcases l with l|⟨k,c,e,z⟩
  ·exact .inl l
  ·exact .inr ⟨k,c,e,E x c e _ z⟩
 ·obtain⟨v,z⟩:=I.cell x c e
  exact⟨v,E x c e v z⟩
 ·obtain⟨e,n,J,y,d⟩:=I.pin p C
  exact⟨st _ _ (N p C),n,J,y,d⟩
structure Low(X:Cx)(aa:List (Sa×Sk))(g:Si):Prop where
 s0:∀b o,X.s₀.heap.get? b=b3 o->b∉QW X.stack->∃o',g.get? b=b3 o'
 pin:∀p∈X.pn++aa,∃o,g.get? p.1=b3 o
def b9.low(I:b9 X aa σ H s)(a:X.ex=[]):Low X aa s.heap:=
 ⟨λb o e _=>I.base.there b o e (by rw[a];simp),λp c=>⟨_,(I.pin p c).1⟩⟩
def b9.flyG(I:b9 X aa σ H s)(lo:Low X aa g)(st:B.StaysIn h')(h:s.heap.UpToSlots h')(f:∀b o,g.get? b=b3 o->b∉QW X.stack->∃o',s.heap.get? b=b3 o'/\B.get? b=b3 o')(n:∀b u,H b=b3 u->∃o,s.heap.get? b=b3 o/\B.get? b=b3 o):b9 X aa σ H {s with heap:=h'}:=by
 refine I.fly st h (λb o e c=>?_) (λp a=>?_) n
 ·obtain⟨o',m⟩:=lo.s0 b o e c
  exact f b o' m c
 ·obtain⟨o,e⟩:=lo.pin p a
  obtain⟨l,_,j,i,_⟩:=I.pin p a;obtain⟨o',d,k⟩:=f p.1 o e λz=>(Ar.mp (I.stkSub _ z)).elim j i;rw[l]at d;cases d;exact k
def RzF(X:Cx)(R:Sb->Option Sa->St->Hp->Prop):Prop:=∀(aa:List (Sa×Sk)) (x:Sb) (C:Sa) (p:Option Sa) (σ:St) (H1:Hp) (e:Rz) (s':Ad) (g:Si),XC X.K x C->b9 X aa σ H1 s'->ExcF X.stack g H1 C p e s'.heap->Low X aa g->R x p σ H1->X.xe e s'
def RzM(X:Cx)(R:Sb->Option Sa->St->Hp->Prop):Prop:=∀(aa:List (Sa×Sk)) (x:Sb) (C a:Sa) (args:List Rz) (σ:St) (H1:Hp) (h:Si) (s':Ad),XC X.K x C->b9 X aa σ H1 {s' with heap:=h}->Heap.MadeExcOf h s'.heap a (.ref C) args->R x b5 σ H1->X.xe (.ref a) s'
end
section
variable{P:Az}{w:Sg}{K:Ag}{mg:Sb->Option Rz}{base:Si}{N:List Sb}{qual:Sb}{scope:Sq}{f:Sa}{cd:Rz}{A:Cb}{outer:List Env}{s:Ad}{H:Hp}{E:XK}
def rE(K:Ag)(E:XK):Sb->Option Sa->St->Hp->Prop:=λx p _ H1=>∀C,XC K x C->E (.ref C) p H1
def lZ{aa:List (Sa×Sk)}{σ:St}{H1:Hp}{s':Ad}{g h' B:Si}{C a:Sa}{p:Option Sa}{a0:Rz}{d:Drawn}{tk:Nat}(M:Dc a p h')(I:b9 (TK (CXv P w) P w K mg base N qual scope f cd A outer s H E) aa σ H1 s')(lo:∀b o,s.heap.get? b=b3 o->b∉QW (envOfC qual scope s.heap.objs.size f cd::outer)->∃o',g.get? b=b3 o')(fl:Jx B outer a (.ref C) a0 h')(F:s'.heap.UpToSlots h')(O:∀b o,g.get? b=b3 o->b∉QW (envOfC qual scope s.heap.objs.size f cd::outer)->∃o',s'.heap.get? b=b3 o'/\B.get? b=b3 o')(D:∀b u,H1 b=b3 u->∃o,s'.heap.get? b=b3 o/\B.get? b=b3 o)(L:E (.ref C) p H1):CXv P w outer H s E (.ref a) {s' with heap:=h',drawn:=d,toks:=tk}:=by
 have bs:Un (QW outer) [] H H1 s.heap s'.heap:=I.base;have m:s'.heap.FunFrames base (envOfC qual scope s.heap.objs.size f cd::outer):=I.stack;have j:∀b o,s.heap.get? b=b3 o->b∉QW outer->∃o',s'.heap.get? b=b3 o'/\B.get? b=b3 o':=λb o q c=>by
  have v:b∉QW (envOfC qual scope s.heap.objs.size f cd::outer):=λz=>by
   rcases Ar.mp (show b∈s.heap.objs.size::QW outer from z)with z|z
   ·have:=As q
    rw[z]at this;exact absurd this (Db _)
   ·exact c z
  obtain⟨o',e⟩:=lo b o q v;exact O b o' e v
 have y:∀b∈QW outer,∀o,s'.heap.get? b=b3 o->∃t,h'.get? b=b3 {o with slots:=t}:=λb c o e=>by obtain⟨_,o',x,G⟩:=m.mem (At _ c:b∈s.heap.objs.size::QW outer);rw[e]at x;cases x;exact F b o e G
 refine⟨C,p,H1,I.os,I.bare,⟨λb o q n c l=>?_,λb o q n c l=>?_,bs.free,λb o q l=>?_,bs.tups,bs.frzs,bs.tbls⟩,BC I.hok fl.1 D,⟨a,a0,B,rfl,fl,M,λb o e J=>?_,λb u e=>?_⟩,L⟩
 ·obtain⟨o',i,h⟩:=j b o q c
  rw[bs.keep b o q n c l]at i;cases i;exact fl.1 b o h
 ·obtain⟨t,i⟩:=bs.slot b o q n c l
  obtain⟨k,r⟩:=y b c _ i;exact⟨k,r⟩
 ·by_cases c:b∈QW outer
  ·obtain⟨o',i⟩:=bs.there b o q l
   obtain⟨k,r⟩:=y b c _ i;exact⟨_,r⟩
  ·obtain⟨o',i,h⟩:=j b o q c
   exact⟨o',fl.1 b o' h⟩
 ·obtain⟨o',i,h⟩:=j b o e J
  exact⟨o',fl.1 b o' h,h⟩
 ·obtain⟨o,i,h⟩:=D b u e
  exact⟨o,fl.1 b o h,h⟩
def B9:RzM (TK (CXv P w) P w K mg base N qual scope f cd A outer s H E) (rE K E):=by
 intro aa x C a args σ H1 h s' n I M r;have i:h.FunFrames base (envOfC qual scope s.heap.objs.size f cd::outer):=I.stack;have j:∀env∈(envOfC qual scope s.heap.objs.size f cd::outer),∀b,env.frame=b3 b->b∈QW (envOfC qual scope s.heap.objs.size f cd::outer):=λenv p b k=>Ju.mpr ⟨env,p,k⟩;have v:Dc a b5 s'.heap:=by obtain⟨t,e,_⟩:=M.there;exact Dc.of e
 refine GV (KD.leave _ _) v (wpAny_leaves_madeW (base:=W.hideAll h (QW (envOfC qual scope s.heap.objs.size f cd::outer))) (h:=h) (I.ok.frames.trans rfl) rfl (λb o q=>W.of_hideAll _ q) (W.funFrames_hide i j) M λh' t fl _ _ m l=>?_);have c:h.UpToSlots h':=(Rk M.keeps).trans m;exact lZ (s':={s' with heap:=h}) (g:=h) (d:=s'.drawn) (tk:=s'.toks) l I (λb o q _=>I.base.there b o q (λz=>nomatch z)) fl c (λb o e k=>⟨o,e,Nb _ e k⟩) (λb u e=>by obtain⟨o,q⟩:=(I.hok b u e).alive;exact⟨o,q,Nb _ q λz=>by have:=I.stkFree b z;rw[e]at this;cases this⟩) (r C n)
end
def nN{K:Ag}{h:Si}{C:Sa}{c:List Rz}{i:String}(X:K.In h)(q:W.excIn K C c i=ba):∃bm N nm q bs hdct sn sub ab col dd k0 k1 k2 k3 k5 mN,h.get? C=b3 (excClassObj nm q C N bs bm hdct sn sub ab col dd k0 k1 k2 k3 k5 i)/\h.Ns N mN/\mN "__init__"=b5/\OwnTail h c bm:=by
 unfold W.excIn at q;split at q
 ·rename_i dd cd d l
  split at q
  ·rename_i o bm k0 k1 k2 k3 n k5 f e
   simp only[Af,beq_iff_eq,Bool.not_eq_true']at q;obtain⟨⟨⟨⟨⟨rfl,rfl⟩,g⟩,k⟩,a⟩,b⟩:=q;obtain⟨nm,bs,mro,ns,j,hd,sn,sub,ab,col,m⟩:=cd;dsimp only at f g a b;subst f g;obtain⟨d⟩:=d;simp only at e;subst e;exact⟨bm,ns,nm,j,bs,hd,sn,sub,ab,col,dd,k0,k1,k2,k3,k5,_,X _ _ l,.of_isNs (W.isNs_of_in X a),W.nsMap_none_of_in X a b,W.tail_of_in X k⟩
  ·cases q
 ·cases q
abbrev Xw:=Sb×Option (Sb×cT)
abbrev VZ:=Ev->Option (Xw×Ev)
noncomputable def Pay(K:Ag)(N:Sa->Prop)(H:Hp):Option Sa->Option (Sb×cT)->Prop
 |none,b5=>True
 |some D,b3 (n,d)=>∃v,H D=b3 (.xd [(n,v)])/\bB K N H N v d
 |_,_=>False
def Pay.mono{K:Ag}{N N':Sa->Prop}{H:Hp}{p:Option Sa}{y:Option (Sb×cT)}(h:Pay K N H p y)(b:∀a,N' a->N a):Pay K N' H p y:=by
 unfold Pay at h⊢;split at h
 ·trivial
 ·obtain⟨v,e,r⟩:=h
  exact⟨v,e,r.mono b b⟩
 ·exact h
def TZ(R:Sb->Option Sa->St->Hp->Prop)(K:Ag)(ml:List Nat)(z:VZ)(σ:St)(H:Hp):Prop:=∃B O δ x δ',aI K ml B O H σ δ/\z δ=b3 (x,δ')/\∀a H' b p,aI K ml B b H' a δ'->Pay K (Nn B b) H' p x.2->R x.1 p a H'
abbrev ZE(R:Sb->Option Sa->St->Hp->Prop)(K:Ag)(ml:List Nat)(z:VZ):TE:=λσ H _=>TZ R K ml z σ H
abbrev ZS(R:Sb->Option Sa->St->Hp->Prop)(K:Ag)(ml:List Nat)(z:VZ):TS:=λ_ σ H=>TZ R K ml z σ H
section
variable{X:Cx}{K:Ag}{ml:List Nat}{e a b c:Sf}{es:List Sf}{pa ta ia pb tb ib pc tc ic pu bt bi ps bs:Bool}{fa fb fc f:VF}{B B':Bs}{O:Nat->Option Sa}{H H1 H':Hp}{σ:St}{δ δ':Ev}{v:V}{d:cT}{pos:Pos}{st:Sj}{rest:List Sj}{g g':VS}{z z':VZ}{R:Sb->Option Sa->St->Hp->Prop}
def zNo:VZ:=λ_=>b5
def Wo{a:List Sj}:W1 X a (ZS R K ml zNo):=λ_ _ _ _ _ _ h=>by obtain⟨_,_,_,_,_,_,q,_⟩:=h;cases q
def AH(z z':VZ):VZ:=λδ=>match z δ with
 |some r=>b3 r
 |none=>z' δ
def Yc(h:TZ R K ml (AH z z') σ H):TZ R K ml z σ H∨TZ R K ml z' σ H:=by
 obtain⟨B,O,δ,x,δ',S,q,k⟩:=h;unfold AH at q;cases h1:z δ with
 |some r=>rw[h1]at q;exact .inl ⟨B,O,δ,x,δ',S,h1.trans q,k⟩
 |none=>rw[h1]at q;exact .inr ⟨B,O,δ,x,δ',S,q,k⟩
def il{a:List Sj}(h1:W1 X a (ZS R K ml z))(h2:W1 X a (ZS R K ml z')):W1 X a (ZS R K ml (AH z z')):=λaa s σ H D I h=>
 (Yc h).elim (h1 aa s σ H D I) (h2 aa s σ H D I)
noncomputable def IP(g:VS)(z:VZ):VZ:=λδ=>match g δ with
 |some (.nx δ')=>z δ'
 |_=>b5
def P8(h1:PS X st (V5 K ml g))(h2:W1 X rest (ZS R K ml z)):W1 X (st::rest) (ZS R K ml (IP g z)):=(SW h1 h2).imp λD σ H q0=>by
 obtain⟨B,O,δ,x,δ',S,q,k⟩:=q0;unfold IP at q;split at q
 ·rename_i δ1 b
  exact⟨B,O,δ,.nx δ1,S,b,λa H' d c=>⟨B,d,δ1,x,δ',c,q,k⟩⟩
 ·cases q
def TC(h:PS X st (ZS R K ml z)):W1 X (st::rest) (ZS R K ml z):=(SW h Zd).imp λ_ _ _ h=>h
def zIf(t:VB)(z z':VZ):VZ:=λδ=>(t δ).bind λp=>if p.1=ba then z p.2 else z' p.2
def Wt{x y:List Sj}{t:VB}(b:PT X c (TB K ml pc t))(e:W1 X x (ZS R K ml z))(d:W1 X y (ZS R K ml z')):PS X (.If c x y pos) (ZS R K ml (zIf t z z')):=(Tq b e d).imp λD σ H q0=>by
 obtain⟨B,O,δ,x,δ',S,q,k⟩:=q0;unfold zIf at q;cases h1:t δ with
 |none=>rw[h1]at q;cases q
 |some p=>
  obtain⟨kk,δ1⟩:=p;rw[h1]at q;refine⟨B,O,δ,kk,δ1,S,h1,λH1 a=>?_⟩;cases kk with
  |true=>exact HM ⟨B,O,δ1,x,δ',a.sta,q,k⟩
  |false=>exact HL ⟨B,O,δ1,x,δ',a.sta,q,k⟩
def Yn(h:PE X e (ZE R K ml z)):PS X (.Return (b3 e) pos) (ZS R K ml z):=(Wv h).imp λ_ _ _ h=>h
def GD{x:Sb}{v ae c:Pos}{t:Sb}{j:Nat}(G:X.K=K)(hz:RzM X R)(hc:X.calm=ba)(E:Gl X x)(w:∃C,XE K x C/\X.mg x=b3 (.ref C))(g:(x==("__debug__":Sb))=bb:=by decide)(d:(Ct ae (Ap [.Constant (.str t) j c] X.env)).any (·.1)=bb:=by rfl):PS X (.Raise (b3 (.Call (.Name x v) [.Constant (.str t) j c] [] ae)) b5 pos) (ZS R K ml λδ=>b3 ((x,b5),δ)):=by intro aa s σ H D I h;obtain⟨B,O,δ,J,δ',S,q,k⟩:=h;cases q;subst G;obtain⟨C,l,A⟩:=w;obtain⟨bm,N,nm,q,bs,hdct,sn,sub,ab,col,dd,k0,k1,k2,k3,k5,mN,u,r,p,i⟩:=nN I.ok.mod.kin l.exc;refine wpAny_Raise_call_subT (C:=C) (nm:=nm) (q:=q) (N:=N) (bs:=bs) (bm:=bm) (hdct:=hdct) (sn:=sn) (sub:=sub) (ab:=ab) (col:=col) (dd:=dd) (k0:=k0) (k1:=k1) (k2:=k2) (k3:=k3) (k5:=k5) (mN:=mN) PySem.F.excBase_ValueError (i.hasType (by decide)) (I.ok.hd hc) d p (UD I E A ⟨rfl,?_⟩ g);have pa:PA X [.Constant (.str t) j c] _:=bL Xl ZX;refine Ft (Co (pa ae aa s σ H (λvs H'=>H'=H/\vs.length=1) I ⟨rfl,rfl⟩) (λus s2 y=>?_) λ_ _ z=>z);obtain⟨vs,H2,m,n,rfl,hl⟩:=y;have kp:∀b o,X.base.get? b=b3 o->s2.heap.get? b=b3 o:=λb o e=>(m.bs b o e).1;refine⟨rfl,?_,kp _ _ u,r.keeps kp,i.keeps kp,λh' a f=>hz aa x C a us σ H2 s2.heap _ l.xc m f (k σ H2 O b5 S trivial)⟩;show us.length<=sizeLine;rw[<-n.length,hl];decide
def nS{x:Sb}{kk:Nat}{qs:List Sb}{sp:Sp}{ff:Sa}{fd:Ch}{p':Pos}{t:TA}{CX:CS}(F:YV X.prog X.w X.K X.mg X.base CX kk ff fd qs sp)(k:Z4 kk X.A)(m:Gl X x)(l:X.mg x=b3 (.ref ff))(hk:Em X.K (.ref ff)=ba)(c:XX X.K fd qs [])(o:PA X (e::es) t)(g:(x==("__debug__":Sb))=bb:=by decide)(n:Ap (e::es) X.env=(bb,eval e X.env)::Ap es X.env:=by rfl)(f:(Ct pos (Ap es X.env)).any (·.1)=bb:=by rfl):PE X (.Call (.Name x p') (e::es) [] pos) (λσ H Q=>t σ H λvs H1=>∃E,(∀(aa:List (Sa×Sk)) (s:Ad) (d:Rz) (s':Ad),b9 X aa σ H1 s->CX X.stack H1 s E d s'->X.xe d s')/\sp vs H1 Q E):=by
 intro aa s σ H Q I h;refine Dq (UD I m l (Jv (h₀:=X.base) I.ok.mod.kin hk (ZP (o pos aa s σ H _ I h) λus s1 a=>?_) n f) g);obtain⟨vs,H1,b,i,E,p,j⟩:=a;have hl:us.length=qs.length:=by rw[<-i.length];exact F.len _ _ _ _ j
 have c:=c s1 us b.kIn (by simpa using hl);rw[Bi]at c;refine⟨b.kIn,Od (Ih (F.run X.A X.stack s1 H1 ⟨us,[]⟩ us vs Q E k b.env0 c i j) λr s' a=>?_)⟩;cases r with
 |error d=>exact p aa s1 d s' b a
 |ok fl=>cases fl with
  |ret u=>exact b.after a
  |next=>cases a
  |brk=>cases a
  |cont=>cases a
def spX(K:Ag)(n:Nat)(a:List cT->Option Xw):Sp:=λvs H _ E=>∃(Z:Sa->Prop) (ds:List cT) (x:Xw),ds.length=n/\Tc K [] Z H vs ds/\a ds=b3 x/\∀C H' p,XC K x.1 C->aM H H'->Pay K Z H' p x.2->E (.ref C) p H'
structure DefX(P:Az)(w:Sg)(K:Ag)(mg:Sb->Option Rz)(base:Si)(x:Sb)(k:Nat)(ps:List Sb)(XF:List cT->Option Xw)(f:Sa):Prop where
 at_:mg x=b3 (.ref f)
 ok:∃fd,YV P w K mg base (CXv P w) k f fd ps (spX K ps.length XF)/\XX K fd ps []
 kp:Em K (.ref f)=ba
noncomputable def UI:List AV->Option (List cT)
 |[]=>b3 []
 |.d d::as=>(UI as).map λds=>d::ds
 |.o _::_=>b5
 |.p _ _::_=>b5
theorem JZ{N:Sa->Prop}:∀{vs:List V}{as:List AV}{ds:List cT},XZ K N H σ vs as->UI as=b3 ds->vs.length=ds.length/\∀(i:Nat) (d:cT),ds[i]?=b3 d->∃v,vs[i]?=b3 v/\bB K N H N v d
 |_,_,_,.nil,h=>by cases h;exact⟨rfl,λi d e=>by simp at e⟩
 | _,.d d0 :: as,_,.d r t,h => by
  unfold UI at h;cases e:UI as with
  |none=>rw[e]at h;cases h
  |some ds=>
   rw[e]at h;cases h;obtain⟨h1,h2⟩:=JZ t e;refine⟨by simp[h1],λi d q=>?_⟩;cases i with
   |zero=>simp at q;subst q;exact⟨_,rfl,r⟩
   |succ i=>exact h2 i d (by simpa using q)
 |_,.o _::_,_,.o _ _,h=>by cases h
 |_,.p _ _::_,_,.p _ _ _ _,h=>by cases h
def GH(n:Nat)(a:List cT->Option Xw)(fs:WO):VZ:=λδ=>(fs δ).bind λp=>(UI p.1).bind λds=>if ds.length=n then(a ds).map λx=>(x,p.2)else b5
def dF{fs:WO}{m:List cT->Option Xw}{n:Nat}{Q:VK}(hz:RzF X R)(M:X.K=K)(hex:X.ex=[])(h:TZ R K ml (GH n m fs) σ H):KM K ml ps fs σ H λvs H1=>∃E,(∀(aa:List (Sa×Sk)) (s:Ad) (f:Rz) (s':Ad),b9 X aa σ H1 s->CXv X.prog X.w X.stack H1 s E f s'->X.xe f s')/\spX K n m vs H1 Q E:=by
 subst M;obtain⟨B,O,δ,x,δ',S,q,k⟩:=h;unfold GH at q;cases h1:fs δ with
 |none=>rw[h1]at q;cases q
 |some p=>
  obtain⟨as,δ1⟩:=p;rw[h1,Ay]at q;cases h2:UI as with
  |none=>rw[h2]at q;cases q
  |some ds=>
   rw[h2,Ay]at q;split at q
   ·rename_i D
    cases l:m ds with
    |none=>rw[l]at q;cases q
    |some U=>
     rw[l]at q;cases q;refine⟨B,O,δ,as,δ1,S,h1,λvs H1 G=>⟨λv p H2=>∃x C,v=.ref C/\XC X.K x C/\R x p σ H2,λaa s f s' I hc=>?_,?_⟩⟩
     ·obtain⟨C,p,H2,os,c,un,ok,F,t,V,u,g,L⟩:=hc
      cases u;exact hz aa t C p σ H2 f s' s.heap g (I.call' os un ok c λb J=>nomatch J) F (I.low hex) L
     ·obtain⟨P,N⟩:=JZ G.rep h2
      have o:∀a,Zp (Nn B O) [] vs a->Nn B O a:=λa z=>z.elim id λ⟨i,hi,_⟩=>nomatch hi;refine⟨Nn B O,ds,x,D,⟨P,λi hi=>(nomatch hi),λi d _ e=>?_,λi d hi=>(nomatch hi),λi j a hi=>(nomatch hi),λa z=>G.sta.nin z⟩,l,λC H2 p g y A=>⟨x.1,C,rfl,g,k σ H2 O p (G.sta.same y) A⟩⟩;obtain⟨v,T,r⟩:=N i d e;exact⟨v,T,r.mono o o⟩
   ·cases q
def Zv{x:Sb}{kk j:Nat}{qs:List Sb}{c:List cT->Option Xw}{ff:Sa}{p':Pos}{fs:WO}(hz:RzF X R)(k:X.K=K)(D:DefX X.prog X.w K X.mg X.base x kk qs c ff)(d:Z4 j X.A)(hk:kk<=j)(f:Gl X x)(hex:X.ex=[])(i:PA X (e::es) (KM K ml ps fs))(b:(x==("__debug__":Sb))=bb:=by decide)(g:Ap (e::es) X.env=(bb,eval e X.env)::Ap es X.env:=by rfl)(a:(Ct pos (Ap es X.env)).any (·.1)=bb:=by rfl):PE X (.Call (.Name x p') (e::es) [] pos) (ZE R K ml (GH qs.length c fs)):=by obtain⟨fd,F,l⟩:=D.ok;subst k;exact(nS F (d.mono hk) f D.at_ D.kp l i b g a).imp λσ H Q h=>dF hz rfl hex h
end
noncomputable def runZ(n:Nat)(z:VZ):List cT->Option Xw:=λds=>(z (b7 [] n ds)).map (·.1)
def OY.okX{P:Az}{w:Sg}{K:Ag}{mg:Sb->Option Rz}{base:Si}{x qual:Sb}{st:Sj}{f:Sa}{fd:Ch}{N ps:List Sb}{k:Nat}{z:VZ}(F:OY K x qual st f fd)(S:aA N ps (cJ st))(g:ps.length<=N.length)(I:∀(c:Rz) (A:Cb) (outer:List Env) (s:Ad) (H:Hp) (E:XK),Z4 k (A.deeper (envOfC qual (cJ st) s.heap.objs.size f c))->W1 (TK (CXv P w) P w K mg base N qual (cJ st) f c A outer s H E) (bH st) (ZS (rE K E) K [] z)):YV P w K mg base (CXv P w) (k+1) f fd ps (spX K ps.length (runZ N.length z)):=by
 obtain⟨O,od,kV,doc,M,R,c,ct,r,rfl,u,l⟩:=F.ex;refine Th u l S (λvs H Q E h=>?_) λA outer s H vs Q E v e=>⟨_,I c A outer s H E v,?_⟩
 ·obtain⟨Z,ds,x,j,AV,_⟩:=h
  rw[AV.len,j]
 ·obtain⟨Z,ds,x,j,AV,d,D⟩:=e
  obtain⟨t,B,J⟩:=J6 (N:=N) AV (by rw[j];exact g);unfold runZ at d;cases h1:z (b7 [] N.length ds)with
  |none=>rw[h1]at d;cases d
  |some p=>
   obtain⟨n,δ'⟩:=p;rw[h1]at d;cases d;exact⟨_,t,_,n,δ',J,h1,λm H' T p L y C G=>D C H' p G (λb o q=>L.frm b o q λ⟨i,hi,_⟩=>nomatch hi) (y.mono λa z=>.inl z)⟩
end L2
namespace L2
open PySem PySem.Spec PyProof.Rows PySem.W PySem.Calls PySem.Builtin PySem.Builtin.ObjectAttr PySem.Builtin.Getset_descriptor
section
variable{prog:Az}{w:Sg}{A:Cb}{E:Rz->Ad->Prop}{s:Ad}{K:Frag}{x C:Sa}{o:Sk}{R:Result->Ad->Prop}
def ka{a:Rz}(X:K.In s.heap)(b:s.heap.get? x=b3 o)(hc:o.cls=.ref C)(F:XA K C)(h:R (.ok (.ret (.ref C))) s):Ij (Se prog w) A (.call (.builtin "getset_descriptor.__get__") ⟨[.builtin "object.__class__",.ref x,a],[]⟩) R s:=by
 obtain⟨c,g,d,t,os⟩:=s;have L0:Looks (Se prog w) c (Pe (.ref x)) (.ref C):=hc▸(Py b).andThen .now;have e:=looks_mroIn (M:=Se prog w) X F.mro;refine Mg KF.slot_gs.plain KF.entry_gs (KF.slot_gs.check _ _ _ _ _ _ _ _ KF.type_class (KF.args_gs _ _ _) ?_);unfold Gk.«getset_descriptor.__get__» descrGet;rw[dga_obj];refine Ac (Aq ?_);unfold descrGetter descrCheckInstance descrNameAndClass Qv;simp only[KF.owner_class];repeat lk
 refine⟨Code.quiet_builtin _ (by decide+kernel),codeAny_builtin KF.entry_class ?_⟩;unfold Gk.«object.__class__» shownTypeOf;repeat lk
 exact h
def nF{tk:Su}{Q:Fin->Ad->Prop}(X:K.In s.heap)(b:s.heap.get? x=b3 o)(hc:o.cls=.ref C)(F:XA K C)(h:Q (.done (.ret (.ref C))) s):Sd (Se prog w) A (Gk.«object.__getattribute__» ⟨[.ref x,.str "__class__" tk],[]⟩) Q E s:=by
 obtain⟨a,g,c,t,os⟩:=s;have L0:Looks (Se prog w) a (Pe (.ref x)) (.ref C):=hc▸(Py b).andThen .now;have i:=Pj (M:=Se prog w) X F.cls;have f:Looks (Se prog w) a (getOf (b3 (.builtin "object.__class__"))) (b3 (.builtin "getset_descriptor.__get__")):=looks_specialIn X F.get;have e:=looks_takesIn (M:=Se prog w) X F.tak;have d:Looks (Se prog w) a (find (.ref x) (.ref C) "__class__") (.bind (.builtin "getset_descriptor.__get__") (.builtin "object.__class__")):=
  i.andThen (f.andThen ((show Looks (Se prog w) a (dataDescriptor? (b3 (.builtin "object.__class__")) (b3 (.builtin "getset_descriptor.__get__"))) (b3 (.builtin "getset_descriptor.__get__",.builtin "object.__class__")) from e.andThen .now).andThen (Looks.tag .now)))
 unfold Gk.«object.__getattribute__»;repeat (any_goals (first|assumption|with_reducible refine Looks.at L0 ?_|with_reducible refine Looks.at d ?_|wp_step))
 refine ka (s:=⟨a,g,c,t,os⟩) X b hc F ?_;exact Aq h
def gM{tk:Su}(X:K.In s.heap)(b:s.heap.get? x=b3 o)(hc:o.cls=.ref C)(F:XA K C)(h:R (.ok (.ret (.ref C))) s):Ij (Se prog w) A (.call (.builtin "BaseException.__getattribute__") ⟨[.ref x,.str "__class__" tk],[]⟩) R s:=by
 obtain⟨a,g,c,t,os⟩:=s;have L0:Looks (Se prog w) a (Pe (.ref x)) (.ref C):=hc▸(Py b).andThen .now;have e:=looks_subIn (M:=Se prog w) X F.sub;have hk:builtinKind "BaseException.__getattribute__"=b3 .slot:=by decide+kernel
 have d:splitId "BaseException.__getattribute__"=b3 ("BaseException","__getattribute__"):=by decide+kernel
 have f:=PySem.F.args_bexc_ga (.ref x) (.str "__class__" tk);refine Mg PySem.F.excAttr_ValueError.ga.plain PySem.F.entry_bexc_ga (Co (Q:=λ_ s'=>s'=⟨a,g,c,t,os⟩) ?_ (λ_ s' z=>?_) λ_ _ z=>z)
 ·simp only[checkBuiltinCall,hk,d]
  unfold Qv;repeat (any_goals (first|rfl|assumption|with_reducible refine Looks.at L0 ?_|with_reducible refine Looks.at e ?_|wp_step))
 ·subst z
  refine nF (s:=⟨a,g,c,t,os⟩) X b hc F ?_;exact h
def lT{Q:Option Rz->Ad->Prop}(X:K.In s.heap)(a:s.heap.get? x=b3 o)(hc:o.cls=.ref C)(F:XA K C)(h:Q (b3 (.ref C)) {s with toks:=s.toks+1}):Sd (Se prog w) A (getAttr? (.ref x) "__class__") Q E s:=by
 obtain⟨b,g,c,t,os⟩:=s;have L0:Looks (Se prog w) b (Pe (.ref x)) (.ref C):=hc▸(Py a).andThen .now;have e:=Pj (M:=Se prog w) X F.ga;have d:=Pj (M:=Se prog w) X F.no;have fb:=PySem.F.excAttr_ValueError.ga.bind (.ref x);unfold getAttr? getAttrBy? getAttrBy;refine Ac (wpAny_mkText (Ac (Nl (Cc (Ac (L0.at (Ac (e.at ?_))))))));show Sd _ _ (getAttrByItsOwn _ _ _ _ _ _) _ _ _;unfold getAttrByItsOwn hookBefore callGetattribute boundAndCalled;repeat (any_goals (first|assumption|with_reducible refine Looks.at L0 ?_|with_reducible refine Looks.at d ?_|wp_step))
 refine gM (s:=⟨b,g,c,t+1,os⟩) X a hc F ?_;refine handed_on rfl ?_;first|exact h|exact Aq h|exact Aq (Aq h)
def FJ(F:XA K C)(hdct:(clsIn K C).isSome=ba):KitX K (.ref x) (.ref C) (λh=>∃o,h.get? x=b3 o/\o.cls=.ref C) where
 ty:=λM h _ p=>by obtain⟨o,h1,h2⟩:=p;exact h2▸(Py h1).andThen .now
 it:=λ_ _ X _=>by
  unfold clsIn at hdct;split at hdct
  ·rename_i b
   intro i f g s' k q;unfold isType loadHead;exact Ac (Ml (k _ _ (X _ _ b)) (Aq q))
  ·cases hdct
 ne:=λh c dd its n d X a=>by
  refine Bool.eq_false_iff.mpr λq=>?_;have e:C=c:=Value.ref.inj (beq_iff_eq.mp q);subst e;unfold clsIn at hdct;split at hdct
  ·rename_i b
   have z:=(X _ _ b).symm.trans a;cases z
  ·cases hdct
 ca:=λX p k=>by obtain⟨o,h1,h2⟩:=p;exact lT X h1 h2 F k
end
end L2
namespace L2
open PySem PySem.Spec PyProof.Rows
structure X0(k:Nat)(A:Cb):Prop where
 dp:A.depth+3*k+5<Jy
 un:A.units+16*k+200<cLine
def Z4.h{k:Nat}{A:Cb}(r:Z4 k A):X0 k A:=⟨r.dp,r.un⟩
def X0.mono{j k:Nat}{A:Cb}(r:X0 k A)(h:j<=k):X0 j A:=⟨by have:=r.dp;lia,by have:=r.un;lia⟩
def X0.deeper{k:Nat}{A:Cb}(r:X0 (k+1) A)(env:Env):X0 k (A.deeper env):=
 ⟨by have:=r.dp;show A.depth+1+3*k+5<_;lia,by have:=r.un;show A.units+3+16*k+200<_;lia⟩
def X0.units{k:Nat}{A:Cb}(r:X0 k A):A.units+64<cLine:=by have:=r.un;lia
def X0.unit{k:Nat}{A:Cb}(r:X0 k A):A.units+1<cLine:=by have:=r.un;lia
def cxH(P:Az)(w:Sg)(K:Ag)(mg:Sb->Option Rz)(base:Si)(N:List Sb)(qual:Sb)(scope:Sq)(f:Sa)(cd:Rz)(A:Cb)(outer:List Env)(s:Ad)(H:Hp):Cx:=
 {TK CX0 P w K mg base N qual scope f cd A outer s H E0 with calm:=bb,xe:=λ_ _=>False}
structure FnH(P:Az)(w:Sg)(K:Ag)(mg:Sb->Option Rz)(base:Si)(k:Nat)(f:Sa)(fd:Ch)(ps:List Sb)(sp:Sp):Prop where
 len:∀vs H Q E,sp vs H Q E->vs.length=ps.length
 run:∀(A:Cb) (outer:List Env) (s:Ad) (H:Hp) (args:Args) (us:List Rz) (vs:List V) (Q:VK),X0 k A->GN P w K mg base A outer s H->Ob s fd args (ps.zip us)->bI vs us->sp vs H Q E0->
  Ij (Se P w) A (.call (.ref f) args) (CR CX0 outer P w H s Q E0) s
def b9.around{X:Cx}{a:Cb}{aa:List (Sa×Sk)}{σ:St}{H:Hp}{s:Ad}{xe:Rz->Ad->Prop}(I:b9 X aa σ H s)(b:a.frames=X.A.frames):b9 {X with A:=a,calm:=bb,xe:=xe} aa σ H s:=
 ⟨⟨I.ok.mod,I.ok.kind,I.ok.glob,I.ok.blt,I.ok.above,I.ok.inj,I.ok.has,I.ok.cab,λz=>(nomatch z),b.trans I.ok.frames,I.ok.stk,I.ok.exf,I.ok.bs,I.ok.bsz,I.ok.noex,I.ok.exfs,I.ok.funs,I.ok.frf⟩,I.os,I.bare,I.base,I.loc,I.cell,I.free,I.freeC,I.pin,I.hok,I.len⟩
def b9.back{X:Cx}{a:Cb}{aa:List (Sa×Sk)}{σ:St}{H:Hp}{s:Ad}{xe:Rz->Ad->Prop}(ok:X.Ok)(I:b9 {X with A:=a,calm:=bb,xe:=xe} aa σ H s):b9 X aa σ H s:=
 ⟨ok,I.os,I.bare,I.base,I.loc,I.cell,I.free,I.freeC,I.pin,I.hok,I.len⟩
def OY.okH{P:Az}{w:Sg}{K:Ag}{mg:Sb->Option Rz}{base:Si}{x qual:Sb}{st:Sj}{f:Sa}{fd:Ch}{N ps:List Sb}{k:Nat}{sp:Sp}(F:OY K x qual st f fd)(S:aA N ps (cJ st))(len:∀vs H Q E,sp vs H Q E->vs.length=ps.length)(U:∀(a:Rz) (A:Cb) (outer:List Env) (s:Ad) (H:Hp) (vs:List V) (Q:VK),X0 k (A.deeper (envOfC qual (cJ st) s.heap.objs.size f a))->sp vs H Q E0->∃t,W1 (cxH P w K mg base N qual (cJ st) f a A outer s H) (bH st) t/\t {nx:=λ_ H'=>Q .non H',rt:=Q} (start N vs) H):FnH P w K mg base (k+1) f fd ps sp:=by
 obtain⟨Z,od,kV,doc,Y,an,a,ct,z,rfl,B,l⟩:=F.ex;refine⟨len,λA outer s H args us vs Q m c M r h=>?_⟩;have hl:=len _ _ _ _ h;have p:K.In s.heap:=c.mod.kin.keeps λb o e=>(c.bs b o e).1;have j:s.heap.NoLimit:=c.mod.nolimit.keeps λb o e=>(c.bs b o e).1;have T:∀y∈ps.zip us,(cJ st).names.lookup y.1=b3 .local∨((cJ st).names.lookup y.1=b3 .cell/\((Sm (s.heap.objs.size+1) (cJ st).names []).lookup y.1).isSome=ba):=λ⟨n,v⟩ C=>by
  rcases S.par n (Iz C).1 with q|q
  ·exact .inl q
  ·exact .inr ⟨q,Ky _ _ _ (.inl q)⟩
 have R:A.depth<Jy:=by have:=m.dp;lia
 refine Ln R (p _ _ B) rfl S.co S.gen rfl (W.codeRec_of p l) (M _ _ _ _ ?_);refine Jo S.kind T λenv L s1 x=>?_;subst L;refine⟨j.keeps x.toInCall.keep,codeAny_func ?_⟩;obtain⟨t,D,G⟩:=U a A outer s H vs Q (m.deeper _) h;have O:GN P w K mg base {A with handled:=b5} outer s H:=⟨c.frames,c.mod,c.bs,c.bsz,c.funs,c.frf,c.hok,c.bare⟩;have X:b9 (TK CX0 P w K mg base N qual (cJ st) f a {A with handled:=b5} outer s H E0) [] (start N vs) H s1:=JQ S rfl O hl r x;have I:b9 (cxH P w K mg base N qual (cJ st) f a A outer s H) [] (start N vs) H s1:=X.around rfl;refine Co (D [] s1 (start N vs) H _ I G) (λfl s' g=>?_) λe s' g=>(show False from g).elim;have fin:∀{d:St}{H':Hp}{v:V}{u:Rz},b9 (cxH P w K mg base N qual (cJ st) f a A outer s H) [] d H' s'->bA v u->Q v H'->CE outer P w H s Q u s':=
  λ{d H' v u} J i q=>⟨v,H',J.os,J.bare,J.base,J.hok,i,q⟩
 cases fl with
 |ret u=>
  obtain⟨v,d,H',J,i,q⟩:=g;exact fin J i q
 |next=>
  obtain⟨d,H',J,q⟩:=g;exact fin (v:=V.non) (u:=Value.none) J rfl q
 |brk=>
  obtain⟨_,_,_,q⟩:=g;cases q
 |cont=>
  obtain⟨_,_,_,q⟩:=g;cases q
structure DefH(P:Az)(w:Sg)(K:Ag)(mg:Sb->Option Rz)(base:Si)(x:Sb)(k:Nat)(ps:List Sb)(sp:Sp)(f:Sa):Prop where
 at_:mg x=b3 (.ref f)
 ok:∃fd,FnH P w K mg base k f fd ps sp/\XX K fd ps []
 kp:Em K (.ref f)=ba
section
variable{X:Cx}{K:Ag}{ml:List Nat}{e a b c:Sf}{es:List Sf}{ps:Bool}{pos:Pos}
def fX{x:Sb}{kk j n:Nat}{qs:List Sb}{mF:List Nat}{F:cB}{ff:Sa}{p':Pos}{fs:WO}(D:DefH X.prog X.w K X.mg X.base x kk qs (spV K mF n F) ff)(l:X0 j X.A)(p:PA X (e::es) (KM K ml ps fs))(q:X.K=K:=by rfl)(hk:kk<=j:=by decide)(m:Gl X x:=by rfl)(f:(x==("__debug__":Sb))=bb:=by decide)(o:Ap (e::es) X.env=(bb,eval e X.env)::Ap es X.env:=by rfl)(d:(Ct pos (Ap es X.env)).any (·.1)=bb:=by rfl):PE X (.Call (.Name x p') (e::es) [] pos) (TV K ml (ps&&mF.isEmpty) ba ba (cE n mF F fs)):=by
 subst q;obtain⟨fd,k,v⟩:=D.ok;refine PE.imp (t:=CG (spV X.K mF n F) [] E0 (KM X.K ml ps fs)) (λaa s σ H Q I h=>?_) λ_ _ _ h=>VT h;refine Dq (UD I m D.at_ (Jv (h₀:=X.base) I.ok.mod.kin D.kp (ZP (p pos aa s σ H _ I h) λus s1 a=>?_) o d) f);obtain⟨vs,H1,b,g,c⟩:=a;rw[Bi]at c;have hl:us.length=qs.length:=by rw[<-g.length];exact k.len _ _ _ _ c
 have i:=v s1 us b.kIn (by simpa using hl);rw[Bi]at i;refine⟨b.kIn,Od (Ih (k.run X.A X.stack s1 H1 ⟨us,[]⟩ us vs Q (l.mono hk) b.env0 i g c) λr s' a=>?_)⟩;cases r with
 |error y=>cases a
 |ok fl=>cases fl with
  |ret u=>exact b.after a
  |next=>cases a
  |brk=>cases a
  |cont=>cases a
end
def OY.okVH{P:Az}{w:Sg}{K:Ag}{mg:Sb->Option Rz}{base:Si}{x qual:Sb}{st:Sj}{f:Sa}{fd:Ch}{N ps:List Sb}{k:Nat}{ml:List Nat}{g:VS}(F:OY K x qual st f fd)(S:aA N ps (cJ st))(b:ps.length<=N.length)(e:∀(a:Rz) (A:Cb) (outer:List Env) (s:Ad) (H:Hp),X0 k (A.deeper (envOfC qual (cJ st) s.heap.objs.size f a))->W1 (cxH P w K mg base N qual (cJ st) f a A outer s H) (bH st) (V5 K ml g)):FnH P w K mg base (k+1) f fd ps (spV K ml ps.length (a8 N.length ml g)):=by refine F.okH S (λvs H Q E h=>?_) (λa A outer s H vs Q c h=>⟨_,e a A outer s H c,Sx (E:=E0) b h⟩);obtain⟨Z,ds,r,os,d,AV,_⟩:=h;rw[AV.len,d]
structure XQ(K:Ag)(C Cp:Sa)(r:Bool):Prop where
 ty:W.typeIn K (.ref Cp)=b3 (.type "type")
 cls:(Rj K Cp).isSome=ba
 base:Ri K (.ref Cp) (.type "BaseException")=b3 ba
 sub:Ri K (.ref C) (.ref Cp)=b3 r
def XP.q{K:Ag}{C Cp:Sa}(h:XP K C Cp):XQ K C Cp ba:=⟨h.ty,h.cls,h.base,h.sub⟩
def iK{r:Bool}{prog:Az}{w:Sg}{A:Cb}{E:Rz->Ad->Prop}{s:Ad}{K:Ag}{x C Cp:Sa}{o:Sk}{Q:Bool->Ad->Prop}(X:K.In s.heap)(b:s.heap.get? x=b3 o)(hc:o.cls=.ref C)(F:XQ K C Cp r)(h:Q r s):Sd (Se prog w) A (excMatches (.ref x) (.ref Cp)) Q E s:=by
 obtain⟨a,g,l,t,os⟩:=s;cases r
 all_goals
  have L0:W.Looks (Se prog w) a (Pe (.ref x)) (.ref C):=hc▸(W.Looks.ld b).andThen .now;have j:=W.looks_typeIn (M:=Se prog w) X F.ty;have i:=W.looks_subIn (M:=Se prog w) X F.base;have e:=W.looks_subIn (M:=Se prog w) X F.sub;have d:W.Looks (Se prog w) a (isType (.ref Cp)) ba:=by
   have hd:=F.cls;unfold Rj at hd;split at hd
   ·rename_i c
    intro p m n s' k q;unfold isType loadHead;exact Ac (Ml (k _ _ (X _ _ c)) (Aq q))
   ·cases hd
  have f:=tc_notTuple;unfold excMatches isExcClass Qv;repeat (any_goals (first|assumption|with_reducible refine W.Looks.at L0 ?_|with_reducible refine W.Looks.at j ?_|with_reducible refine W.Looks.at i ?_|with_reducible refine W.Looks.at e ?_|with_reducible refine W.Looks.at d ?_|wp_step))
def excP(a C:Sa):Option Sa->Si->Prop
 |none=>λh=>AL h a C
 |some D=>λh=>Vd h a C D
section
variable{X:Cx}{aa:List (Sa×Sk)}{σ:St}{H:Hp}{s:Ad}{h':Si}{a C:Sa}
def b9.track{o:Sk}{vs:Array Rz}{p:Option Sa}(I:b9 X aa σ H s)(M:H a=b5)(i:s.heap.get? a=b3 o)(hc:o.cls=.ref C)(hd:o.data=.fields vs)(g:o.dict=p)(K:X.s₀.heap.get? a=b5)(L:∀p∈X.pn++aa,p.1≠a):b9 X aa σ (upd H a (.ext (excP a C p))) s:=by
 have w:∀b o,X.s₀.heap.get? b=b3 o->b≠a:=λb o e z=>by rw[z,K]at e;cases e
 have f:∀b u,H b=b3 u->b≠a:=λb u e z=>by rw[z,M]at e;cases e
 refine⟨I.ok,I.os,I.bare,⟨I.base.keep,I.base.slot,λb o e n J=>?_,I.base.there,λb xs e=>?_,λb o u e=>?_,λb ps e=>?_⟩,I.loc,I.cell,?_,λx c e=>?_,λp D=>?_,λb u e=>?_,I.len⟩
 ·rw[cH (w b o e)];exact I.base.free b o e n J
 ·have q:=I.base.tups b xs e
  rw[cH (f b _ q)];exact q
 ·have q:=I.base.frzs b o u e
  rw[cH (f b _ q)];exact q
 ·obtain⟨more,q⟩:=I.base.tbls b ps e
  exact⟨more,by rw[cH (f b _ q)];exact q⟩
 ·obtain⟨m,⟨P,_,_,r,t,_⟩,_⟩:=I.loc
  have:X.env.locals≠a:=λz=>by rw[z,i]at r;cases r;rw[hd]at t;cases t
  rw[cH this];exact I.free
 ·obtain⟨v,O,l,g⟩:=I.cell x c e
  have:c≠a:=λz=>by rw[z,i]at l;cases l;rw[hd]at g;cases g
  rw[cH this];exact I.freeC x c e
 ·obtain⟨e,n,G,F,d⟩:=I.pin p D
  exact⟨e,by rw[cH (L p D)];exact n,G,F,d⟩
 ·by_cases E:b=a
  ·subst E
   rw[cG]at e;cases e;cases p with
   |none=>exact⟨⟨o,vs,i,hc,hd⟩,⟨o,i⟩,λh1 h2 q k=>by obtain⟨j,h,B,A,y⟩:=q;exact⟨j,h,k j B,A,y⟩⟩
   |some Q=>exact⟨⟨o,vs,i,hc,hd,g⟩,⟨o,i⟩,λh1 h2 q k=>by obtain⟨j,h,B,A,y,N⟩:=q;exact⟨j,h,k j B,A,y,N⟩⟩
  ·rw[cH E]at e
   exact(I.hok b u e).stay (λ_ _ _ q=>q) (λc q=>by rw[cH (f c _ q)];exact q) λc xs q=>by rw[cH (f c _ q)];exact q
def b9.unbound{r:Sb->Option Rz}{t':Nat}(I:b9 X aa σ H s)(ns:h'.Ns X.env.locals r)(f:Er X.env.locals s.heap h'):b9 X aa (Aj X.N.length b5) H {s with heap:=h',toks:=t'}:=by
 have a:∀b o,X.s₀.heap.get? b=b3 o->b≠X.env.locals:=λb o e=>Bl (Bb (As e) I.ok.above);have g:∀b u,H b=b3 u->b≠X.env.locals:=λb u e z=>by rw[z,I.free]at e;cases e
 refine⟨I.ok,I.os,I.bare,⟨λb o e n j h=>(f.2 b (a b o e)).trans (I.base.keep b o e n j h),λb o e n j h=>?_,I.base.free,λb o e h=>?_,I.base.tups,I.base.frzs,I.base.tbls⟩,⟨r,ns,λi x v _ k _=>?_⟩,λx c e=>?_,I.free,I.freeC,λp y=>?_,λb u e=>?_,by simp⟩
 ·obtain⟨t,l⟩:=I.base.slot b o e n j h
  exact⟨t,(f.2 b (a b o e)).trans l⟩
 ·obtain⟨o',l⟩:=I.base.there b o e h
  exact⟨o',(f.2 b (a b o e)).trans l⟩
 ·rw[Dk]at k
  split at k<;>cases k
 ·obtain⟨v,z⟩:=I.cell x c e
  exact⟨v,z.sameBut f (I.cne x c e)⟩
 ·obtain⟨e,n,m,w,d⟩:=I.pin p y
  exact⟨(f.2 p.1 m).trans e,n,m,w,d⟩
 ·refine (I.hok b u e).stay (λc v hc q => (f.2 c ?_).trans q) (λ_ q => q) λ_ _ q => q
  rcases hc with rfl|hc
  ·exact g _ u e
  ·exact g c _ hc
end
def Cx.Ok.pns{X:Cx}(ok:X.Ok)(pn:List (Sa×Sk))(xe:Rz->Ad->Prop):Cx.Ok {X with pn:=pn,xe:=xe}:=
 ⟨ok.mod,ok.kind,ok.glob,ok.blt,ok.above,ok.inj,ok.has,ok.cab,ok.hd,ok.frames,ok.stk,ok.exf,ok.bs,ok.bsz,ok.noex,ok.exfs,ok.funs,ok.frf⟩
abbrev Cx.hnd(X:Cx)(a:Sa):Cx:={X with A:=X.A.mark (b3 (.ref a)),calm:=bb,xe:=λ_ _=>False}
def C8:Xw->cT
 |(x,b5)=>.exn x
 |(x,b3 (n,d))=>.exr x n d
section
variable{X:Cx}{K:Ag}{ml:List Nat}{pos:Pos}{g k kA:VS}{z:VZ}
def k4{n:Sb}{bz:Pos}{b0:Sj}{bn:List Sj}{i:Nat}{aa:List (Sa×Sk)}{D:KH}{B:Bs}{S:Nat->Option Sa}{δ1 s:Ev}{d:cT}{F:Xw}{C a:Sa}{a0:Rz}{p:Option Sa}{c:St}{H2:Hp}{s':Ad}{gh R T:Si}(hN:X.N.Nodup)(hi:X.N[i]?=b3 n)(hl:X.env.kindOf n=b3 .local)(him:i∉ml)(Z:X.stack=X.env::X.outer)(hk:∀a,W1 (X.hnd a) (b0::bn) (V5 X.K ml k))(hx:XC X.K F.1 C)(J':b9 X aa c H2 s')(E:Low X aa gh)(fl5:Jx T (X.env::X.outer) a (.ref C) a0 R)(dc5:Dc a p R)(V:s'.heap.UpToSlots R)(c1:∀b o,gh.get? b=b3 o->b∉QW X.stack->∃o',s'.heap.get? b=b3 o'/\T.get? b=b3 o')(c2:∀b u,H2 b=b3 u->∃o,s'.heap.get? b=b3 o/\T.get? b=b3 o)(S1:aI X.K ml B S H2 c δ1)(t:Pay X.K (Nn B S) H2 p F.2)(h3:k (δ1.set i (.va (C8 F)))=b3 (.rt d s))(H:Post X.K ml B D (.rt d s)):Ij (Se X.prog X.w) (X.A.mark (b3 (.ref a))) (.handlers (.ref a) [.ExceptHandler b5 (b3 n) (b0::bn) bz] X.env) (λr l=>match r with
   |.ok f=>Sd (Se X.prog X.w) X.A (do Pw X.env n .none;unbindBehindTheSuite X.env n bz) (λ_ G=>SP X aa D f G) X.xe l
   |.error x=>cameBackBy (Se X.prog X.w) X.A X.env X.xe x l) {s' with heap:=R}:=by
 refine codeAny_handlers_suite_as (GV (KD.flight _ _) dc5 (lands_againW fl5 λh6 g U dc6=>?_));have I6:b9 X aa c H2 {s' with heap:=h6}:=J'.flyG E g.1 (V.trans U) c1 c2;obtain⟨oe,vs,_,_,_,J,hcl,L,_⟩:=id g.2.2.2;have dct:oe.dict=p:=dc6.at J;have Bn:T.get? a=b5:=g.2.1;have I:a∉QW X.stack:=λhb=>by rw[Z]at hb;obtain⟨_,o',e',nf⟩:=g.2.2.1.mem hb;rw[J]at e';cases e';exact nf vs L
 have na:∀b o,gh.get? b=b3 o->b≠a:=λb o e z=>by subst z;obtain⟨o',_,j⟩:=c1 b o e I;rw[Bn]at j;cases j
 have Q:H2 a=b5:=by
  cases e:H2 a with
  |none=>rfl
  |some u=>
   obtain⟨o',_,j⟩:=c2 a u e;rw[Bn]at j;cases j
 have hs0:X.s₀.heap.get? a=b5:=by
  cases e:X.s₀.heap.get? a with
  |none=>rfl
  |some o'=>
   obtain⟨W,j⟩:=E.s0 a o' e I;exact absurd rfl (na a W j)
 have I7:=I6.track (p:=p) (C:=C) Q J hcl.1 L dct hs0 λq hq=>by obtain⟨W,j⟩:=E.pin q hq;exact na _ W j
 have S7:aI X.K ml B S (upd H2 a (.ext (excP a C p))) c δ1:=S1.same (cK Q);refine WJ (X:=X.hnd a) (I7.around rfl) hN hi (.inl hl) (v:=.ref a) rfl (λs8 I8=>?_) (.inr hl);have rx:∀M,bB X.K (Nn B S) (upd H2 a (.ext (excP a C p))) M (.ref a) (C8 F):=λM=>by
  obtain⟨xn,y⟩:=F;cases p with
  |none=>
   cases y with
   |none=>exact .exn hx.at_ cG λh z=>z
   |some y=>exact t.elim
  |some D0=>
   cases y with
   |none=>exact t.elim
   |some y=>
    obtain⟨yn,yd⟩:=y;obtain⟨v,e,r⟩:=t;have nD:D0≠a:=λq=>by rw[q,Q]at e;cases e
    exact .exr hx.at_ cG (λh z=>z) (by rw[cH nD];exact e) (r.same (cK Q))
 have S8:=S7.setVa (i:=i) (v:=.ref a) (d:=C8 F) him (rx _);refine Co (hk a aa s8 _ _ ⟨λ_ _=>False,D.rt,λ_ _=>False,λ_ _=>False⟩ I8 ⟨B,_,_,.rt d s,S8,h3,H⟩) (λf s9 P=>?_) λe s9 J=>(show False from J).elim;cases f with
 |next=>obtain⟨_,_,_,z⟩:=P;cases z
 |brk=>obtain⟨_,_,_,z⟩:=P;cases z
 |cont=>obtain⟨_,_,_,z⟩:=P;cases z
 |ret u=>
  obtain⟨v,σ9,H9,O,r9,hD⟩:=P;have O:=O.back J'.ok;obtain⟨m,hn,_⟩:=id O.loc;refine wpAny_nameGoes hl hn (by rw[O.ok.kind];rfl) λh' m' Y sb=>?_;exact⟨v,_,H9,O.unbound Y sb,r9,hD⟩
noncomputable def F4(g:VS)(z:VZ)(i:Nat)(kk:Sb->VS):VS:=λδ=>match g δ with
 |some o=>b3 o
 | none => match z δ with
  |some (x,δ1)=>match kk x.1 (δ1.set i (.va (C8 x)))with
   |some (.rt d a)=>b3 (.rt d a)
   |_=>b5
  |none=>b5
def sTry(g:VS)(z:VZ)(i:Nat)(k:VS):VS:=F4 g z i λ_=>k
structure Ur(X:Cx)(ml:List Nat)(i:Nat)(kk:Sb->VS)(aa:List (Sa×Sk))(D:KH)(C a:Sa)(x:Xw)(s':Ad)(h5:Si):Prop where
 xc:XC X.K x.1 C
 ex:∃B O' δ1 δ2 d a0 p σ2 H2 gh Bh,b9 X aa σ2 H2 s'/\Low X aa gh/\Jx Bh (X.env::X.outer) a (.ref C) a0 h5/\Dc a p h5/\s'.heap.UpToSlots h5/\(∀b o,gh.get? b=b3 o->b∉QW X.stack->∃o',s'.heap.get? b=b3 o'/\Bh.get? b=b3 o')∧
  (∀b u,H2 b=b3 u->∃o,s'.heap.get? b=b3 o/\Bh.get? b=b3 o)/\aI X.K ml B O' H2 σ2 δ1/\Pay X.K (Nn B O') H2 p x.2/\kk x.1 (δ1.set i (.va (C8 x)))=b3 (.rt d δ2)/\Post X.K ml B D (.rt d δ2)
def iP{body:List Sj}{Y:Nq}{W:List Nq}{i:Nat}{kk:Sb->VS}(hK:X.K=K)(n:X.stack=X.env::X.outer)(M:X.env.frame=b3 X.env.locals)(hg:W1 X.nox body (V5 K ml g))(hz:∀(pn:List (Sa×Sk)) (xe:Rz->Ad->Prop) (R:Sb->Option Sa->St->Hp->Prop),RzF {X with pn:=pn,xe:=xe} R->W1 {X with pn:=pn,xe:=xe} body (ZS R K ml z))(hh:∀aa D C a x s' r,Ur X ml i kk aa D C a x s' r->Sd (Se X.prog X.w) X.A (handleBy (.ref a) X.env (Y::W)) (λf s=>SP X aa D f s) X.xe {s' with heap:=r}):PS X (.Try body (Y::W) [] [] pos) (V5 K ml (F4 g z i kk)):=by
 intro aa s σ H D I h;obtain⟨B,O,δ,o,S,q,c⟩:=h;refine wpAny_Try_except ?_;unfold F4 at q;cases h1:g δ with
 |some o'=>
  rw[h1]at q;cases q;refine Co (hg aa s σ H D (I.wish _) ⟨B,O,δ,o,S,h1,c⟩) (λf s1 b=>?_) λe s1 N=>(show False from N).elim;have b:=b.unwish;cases f with
  |next=>exact Hl b
  |_=>exact b
 |none=>
  rw[h1]at q;dsimp only at q;cases h2:z δ with
  |none=>rw[h2]at q;cases q
  |some p=>
   obtain⟨k,δ1⟩:=p;rw[h2]at q;dsimp only at q;cases Q:kk k.1 (δ1.set i (.va (C8 k)))with
   |none=>rw[Q]at q;cases q
   |some ok=>
    rw[Q]at q;cases ok with
    |nx _=>cases q
    |bk _=>cases q
    |ct _=>cases q
    |rt d v=>
     cases q;subst hK;have I1:∀{xe:Rz->Ad->Prop}{σ:St}{H:Hp}{s:Ad},b9 X aa σ H s->b9 {X with pn:=X.pn++aa,xe:=xe} [] σ H s:=λI=>⟨I.ok.pns _ _,I.os,I.bare,I.base,I.loc,I.cell,I.free,I.freeC,λp j=>I.pin p (by simpa using j),I.hok,I.len⟩;have I2:∀{xe:Rz->Ad->Prop}{ps:List (Sa×Sk)}{σ:St}{H:Hp}{s:Ad},b9 {X with pn:=X.pn++aa,xe:=xe} ps σ H s->b9 X aa σ H s:=λJ=>⟨I.ok,J.os,J.bare,J.base,J.loc,J.cell,J.free,J.freeC,λp j=>J.pin p (Bo _ j),J.hok,J.len⟩;refine Co (hz (X.pn++aa) _ (λx p m H'=>x=k.1/\∃l,aI X.K ml B l H' m δ1/\Pay X.K (Nn B l) H' p k.2) (λps x C p t H2 e s' Z hx J F lo hR=>?_) [] s σ H ⟨λ_ _=>False,λ_ _=>False,λ_ _=>False,λ_ _=>False⟩ (I1 I) ⟨B,O,δ,k,δ1,S,h2,λm H' l p S' j=>⟨rfl,l,S',j⟩⟩) (λf s1 b=>?_) λe s1 N=>N;rotate_left
     ·cases f with
      |next=>obtain⟨_,_,_,z⟩:=b;cases z
      |brk=>obtain⟨_,_,_,z⟩:=b;cases z
      |cont=>obtain⟨_,_,_,z⟩:=b;cases z
      |ret u=>obtain⟨_,_,_,_,_,z⟩:=b;cases z
     obtain⟨rfl,l,S1,G⟩:=hR;have J':=I2 J;have L:Low X aa Z:=⟨lo.s0,λp j=>lo.pin p (Bo _ j)⟩;obtain⟨a,a0,Bh,rfl,fl,dc,c1,c2⟩:=F;have fl:Jx Bh (X.env::X.outer) a (.ref C) a0 s'.heap:=n▸fl;refine GV (KD.note _ _) dc (wpAny_looks_onW (J'.ok.frames.trans (by rw[n])) M fl λh4 P E V=>GV (KD.flight _ _) V (wpAny_landsW P λr T y U=>?_));exact hh aa D C a k s' r ⟨hx,B,l,δ1,v,d,a0,p,t,H2,Z,Bh,J',L,T,U,E.trans y,c1,c2,S1,G,Q,c⟩
def mW{n l:Sb}{T bz:Pos}{J:Sj}{I:List Sj}{rest:List Nq}{i:Nat}{kk:Sb->VS}{aa:List (Sa×Sk)}{D:KH}{C a P:Sa}{x:Xw}{s':Ad}{j:Si}{r:Bool}(o:X.stack=X.env::X.outer)(hN:X.N.Nodup)(hi:X.N[i]?=b3 n)(hl:X.env.kindOf n=b3 .local)(t:i∉ml)(u:Gl X l)(Z:X.mg l=b3 (.ref P))(Y:XQ X.K C P r)(y:(l==("__debug__":Sb))=bb)(L:Ur X ml i kk aa D C a x s' j)(hk:r=ba->(∀a,W1 (X.hnd a) (J::I) (V5 X.K ml k))/\kk x.1=k)(W:r=bb->Sd (Se X.prog X.w) X.A (handleBy (.ref a) X.env rest) (λf s=>SP X aa D f s) X.xe {s' with heap:=j}):Sd (Se X.prog X.w) X.A (handleBy (.ref a) X.env (.ExceptHandler (b3 (.Name l T)) (b3 n) (J::I) bz::rest)) (λf s=>SP X aa D f s) X.xe {s' with heap:=j}:=by
 obtain⟨V,B,O',δ1,Q,d,a0,p,c,H2,gh,Bh,M,h,b,z,e,H,G,S1,m,F,g⟩:=L;have O:b9 X aa c H2 {s' with heap:=j}:=M.flyG h b.1 e H G;have E:b9 (X.hnd a) aa c H2 {s' with heap:=j}:=O.around rfl;refine wpAny_handleBy_cons (codeAny_handlers_test (UD (X:=X.hnd a) E u Z ?_ y)) (by intro q;cases q);obtain⟨S,R,_,_,_,v,U,_⟩:=id b.2.2.2;refine iK O.kIn v U.1 Y ?_;cases r with
 |false=>exact W rfl
 |true=>
  obtain⟨hk,ek⟩:=hk rfl;rw[ek]at F;exact k4 hN hi hl t o hk V M h b z e H G S1 m F g
def lc{body:List Sj}{n:Sb}{l t:Pos}{j:Sj}{h:List Sj}{i:Nat}(s:X.K=K)(b:X.stack=X.env::X.outer)(e:X.env.frame=b3 X.env.locals)(p:X.N.Nodup)(hi:X.N[i]?=b3 n)(hl:X.env.kindOf n=b3 .local)(c:i∉ml)(d:Gl X "PackError")(m:∀C,Ds K Sc "PackError"=b3 (b3 (.ref C))->X.mg "PackError"=b3 (.ref C))(o:W1 X.nox body (V5 K ml g))(hz:∀(pn:List (Sa×Sk)) (xe:Rz->Ad->Prop) (R:Sb->Option Sa->St->Hp->Prop),RzF {X with pn:=pn,xe:=xe} R->W1 {X with pn:=pn,xe:=xe} body (ZS R K ml z))(hk:∀a,W1 (X.hnd a) (j::h) (V5 K ml k)):PS X (.Try body [.ExceptHandler (b3 (.Name "PackError" l)) (b3 n) (j::h) t] [] [] pos) (V5 K ml (sTry g z i k)):=by subst s;refine iP rfl b e o hz λaa D C a x s' u L=>?_;obtain⟨Cp,f⟩:=L.xc.pk;exact mW (r:=ba) (k:=k) b p hi hl c d (m Cp f.at_) f.q (by decide) L (λ_=>⟨hk,rfl⟩) λz=>nomatch z
end
section
variable{X:Cx}{K:Ag}{ml:List Nat}{e a b c fx:Sf}{es:List Sf}{pa ta ia pb tb ib pf ft fi ps:Bool}{fa fb fe:VF}{B:Bs}{O:Nat->Option Sa}{H H1 H':Hp}{σ:St}{δ δ':Ev}{v:V}{d:cT}{pos:Pos}{R:Sb->Option Sa->St->Hp->Prop}
noncomputable def V8:List cT->Option (List Bool)
 |[]=>b3 []
 |.bl i::ds=>(V8 ds).map λns=>i::ns
 |_=>b5
theorem JB{N:Sa->Prop}:∀{xs:List V}{ds:List cT}{ns:List Bool},b6 K N H xs ds->V8 ds=b3 ns->xs=ns.map V.bl
 |_,_,_,.nil,h=>by cases h;rfl
 | _,_,_,@b6.cons _ _ _ v vs d ds h t,e => by
  cases d with
  |bl k=>
   cases h;have e:(V8 ds).map (λks=>k::ks)=b3 _:=e;cases h2:V8 ds with
   |none=>rw[h2]at e;cases e
   |some ks=>
    rw[h2]at e;cases e;rw[JB t h2];rfl
  |_=>cases e
noncomputable def DY(n:Bool):List Bool->Option Nat
 |[]=>b5
 |i::ns=>if i=n then b3 0 else(DY n ns).map (· +1)
theorem J0{n:Bool}:∀{ns:List Bool}{j:Nat},DY n ns=b3 j->ns[j]?=b3 n/\∀m,m<j->ns[m]? ≠b3 n
 |[],_,h=>by cases h
 | i :: ns,j,h => by
  unfold DY at h;split at h
  ·rename_i hi
   cases h;exact⟨by rw[hi];rfl,λm a=>absurd a (Qh _)⟩
  ·rename_i hi
   cases h1:DY n ns with
   |none=>rw[h1]at h;cases h
   |some k=>
    rw[h1]at h;cases h;obtain⟨h2,b⟩:=J0 h1;refine⟨by simpa using h2,λm a=>?_⟩;cases m with
    |zero=>simpa using hi
    |succ m=>simpa using b m (Nat.lt_of_succ_lt_succ a)
noncomputable def FF(n:Bool):Rz->Bool
 |.bool i=>i==n
 |_=>bb
theorem LB:∀{ns:List Bool}{us:List Rz},bI (ns.map V.bl) us->us=ns.map Ge
 |[],_,.nil=>rfl
 |i::ns,_,.cons r t=>by rw[LB t];cases r;rfl
def IE(K:Ag):V->List V->Hp->VK->Prop:=λx vs H Q=>∃(l:Sa) (ns:List Bool) (n:Bool) (j:Nat),x=.ref l/\vs=[.bl n]/\XV K H l (ns.map V.bl)/\DY n ns=b3 j/\Q (.int j) H
def ID(K:Ag):V->List V->Hp->VK->Prop:=λx vs H Q=>∃(l:Sa) (ns:List Bool) (n:Bool),x=.ref l/\vs=[.bl n]/\XV K H l (ns.map V.bl)/\Q (.int (ns.count n:Nat)) H
def Wp{us:List Rz}{n:Bool}(r:bI [V.bl n] us):us=[.bool n]:=by
 cases r with
 |cons r t=>cases t;cases r;rfl
def iE:MtM X "list.index" (IE X.K):=by
 intro aa s σ H x vs v us Q I p t h;obtain⟨l,ns,n,j,rfl,rfl,u,A,q⟩:=h;cases p;obtain rfl:=Wp t;obtain⟨its,r,⟨o,c,e,hc,hd,g⟩,hz⟩:=I.list u;obtain⟨cls,dd,data,k⟩:=o;simp only at hc hd g;subst hc hd g;have hl:=r.length;obtain rfl:=LB r;obtain⟨h1,h2⟩:=J0 A;have a:j<ns.length:=(Ai.mp h1).1;have hsz:ns.length<=16777216:=by rw[Ba]at hz;rw[<-Ce];exact hz
 refine Eu F.slot_list_index ⟨_,e,rfl⟩ F.entry_list_index (F.args_list_index_2 _ _) (SeqAt.list_indexAt l (ns.map Ge).toArray c b5 k (.bool n) (FF n) j (by simpa using a) (by lia) ?_ ?_) ⟨e,?_,?_⟩
 ·have : ns[j] = n := by have := Fy a;rw [h1]at this;exact (Bx this).symm
  simp[FF,this]
 ·intro m w d
  have f:m<ns.length:=by simpa using w
  have:=h2 m d
  rw[Fy f]at this;simp only[List.getElem_toArray,List.getElem_map,FF];exact beq_eq_false_iff_ne.mpr λz=>this (by rw[z])
 ·intro y b
  have b:y∈ns.map Ge:=by simpa using b
  obtain⟨i,_,rfl⟩:=Ek.mp b;exact Mh i n
 ·exact⟨.int j,H,I.tok _,⟨_,rfl⟩,q⟩
def Yi:MtM X "list.count" (ID X.K):=by
 intro aa s σ H x vs v us Q I f g h;obtain⟨l,ns,n,rfl,rfl,j,q⟩:=h;cases f;obtain rfl:=Wp g;obtain⟨its,r,⟨o,c,e,hc,hd,b⟩,hz⟩:=I.list j;obtain⟨cls,dd,data,d⟩:=o;simp only at hc hd b;subst hc hd b;obtain rfl:=LB r;refine Eu Ov ⟨_,e,rfl⟩ Nt (Mx _ _) (Nu l (ns.map Ge).toArray c b5 d (.bool n) (FF n)) ⟨e,?_,?_⟩
 ·intro y a
  have a:y∈ns.map Ge:=by simpa using a
  obtain⟨i,_,rfl⟩:=Ek.mp a;exact Mh i n
 ·have k:(ns.map Ge).toArray.toList.countP (FF n)=ns.count n:=by rw[My,List.countP_map];rfl
  refine⟨.int (ns.count n:Nat),H,I.tok _,⟨s.toks,?_⟩,q⟩;rw[k]
def HY:cT->cT->Option cT
 |.lst ds,.bl n=>(V8 ds).bind λns=>(DY n ns).map λj=>.int j
 |_,_=>b5
def HX:cT->cT->Option cT
 |.lst ds,.bl n=>(V8 ds).map λns=>.int (ns.count n:Nat)
 |_,_=>b5
def Tx{af ae:Pos}{name:Sb}{id:String}{r:V->List V->Hp->VK->Prop}{o:cT->cT->Option cT}(w:X.K=K)(p:Slot "list" name id)(ty:Pe (.builtin id)=pure (.type "method_descriptor"))(mt:MtM X id r)(t:∀{x y d:cT},o x y=b3 d->∃ds n ns i,x=.lst ds/\y=.bl n/\V8 ds=b3 ns/\d=.int i/\∀(H:Hp) (l:Sa) (Q:VK),XV K H l (ns.map V.bl)->Q (.int i) H->r (.ref l) [.bl n] H Q)(v:PE X a (TV K ml pa ta ia fa))(u:PE X b (TV K ml pb tb ib fb))(G:Cd a name X.env (eval a X.env)=eval a X.env:=by rfl)(F:((Ct ae (Ap (b::[]) X.env)).all (λx=> !x.1)&&(Gu ae (Eh [] X.env)).all (λx=>x.1.isSome)&&decide ((b::([]:List Sf)).length+([]:List Fo).length+(if([]:List Fo).isEmpty then 0 else 1)<30))=ba:=by rfl)(I:(af.endLine==ae.line)=ba:=by rfl)(g:Ap (b::[]) X.env=(bb,eval b X.env)::Ap [] X.env:=by rfl)(J:(Ct ae (Ap [] X.env)).any (·.1)=bb:=by rfl)(hl:(pb || (ta&&ia))=ba:=by rfl):PE X (.Call (.Attribute a name af) [b] [] ae) (TV K ml (pa&&pb) ba ba (f2 o fa fb)):=
 (kBm (K := K) w Ep p ty mt v (bL u ZX g) G F I g J).imp λσ H Q q0 => by
  obtain⟨B,O,δ,d,e,S,q,k⟩:=q0;obtain⟨x,δ1,y,h1,h2,D⟩:=QC q;obtain⟨ds,n,ns,i,rfl,rfl,C,rfl,A⟩:=t D;refine⟨B,O,δ,_,δ1,S,h1,λM H1 c=>?_⟩;obtain⟨l,xs,rfl,sq,_⟩:=c.rep.lstE;refine⟨.inl ⟨rfl,xs,sq⟩,B,O,δ1,_,e,c.sta,h2,λL H2 R2=>?_⟩;have s:=R2.rep;cases s;obtain⟨N,m,E,f,r'⟩:=(R2.live hl c.rep).lstE;cases E;have:=JB r' C
  subst this;exact A H2 l Q f (k _ H2 ⟨R2.sta,c.frm.trans R2.frm,λz=>by obtain⟨j,h⟩:=(Af _ _).mp z;exact(c.pur j).trans (R2.pur h),.int _⟩)
def jI{x y d:cT}(h:HY x y=b3 d):∃ds n ns i,x=.lst ds/\y=.bl n/\V8 ds=b3 ns/\d=.int i/\∀(H:Hp) (l:Sa) (Q:VK),XV K H l (ns.map V.bl)->Q (.int i) H->IE K (.ref l) [.bl n] H Q:=by
 unfold HY at h;split at h
 ·rename_i ds n
  cases h1:V8 ds with
  |none=>rw[h1]at h;cases h
  |some ns=>
   rw[h1,Ay]at h;cases h2:DY n ns with
   |none=>rw[h2]at h;cases h
   |some j=>
    rw[h2]at h;cases h;exact⟨ds,n,ns,j,rfl,rfl,h1,rfl,λH l Q sq q=>⟨l,ns,n,j,rfl,rfl,sq,h2,q⟩⟩
 ·cases h
def gW{x y d:cT}(h:HX x y=b3 d):∃ds n ns i,x=.lst ds/\y=.bl n/\V8 ds=b3 ns/\d=.int i/\∀(H:Hp) (l:Sa) (Q:VK),XV K H l (ns.map V.bl)->Q (.int i) H->ID K (.ref l) [.bl n] H Q:=by
 unfold HX at h;split at h
 ·rename_i ds n
  cases h1:V8 ds with
  |none=>rw[h1]at h;cases h
  |some ns=>
   rw[h1]at h;cases h;exact⟨ds,n,ns,_,rfl,rfl,h1,rfl,λH l Q sq q=>⟨l,ns,n,rfl,rfl,sq,q⟩⟩
 ·cases h
def l8(h:X.K=K:=by rfl):MtM X "list.index" (IE K):=by subst h;exact iE
def lF(h:X.K=K:=by rfl):MtM X "list.count" (ID K):=by subst h;exact Yi
def rIsx(K:Ag):RC:=λxs H Q=>∃a C b u k,xs=[.ref a,u]/\H a=b3 (.ext b)/\(∀h,b h->AL h a C)/\XA K C/\(Rj K C).isSome=ba/\((∃D,u=.ref D/\Hb K (.ref C) (.ref D)=b3 k)∨∃n,u=.ty n/\Hb K (.ref C) (.type n)=b3 k)/\Q (.bl k) H
def Zh:aF X (.builtin "isinstance") (rIsx X.K):=by
 intro aa s σ H xs us Q I r h;obtain⟨a,C,l,u,k,rfl,j,b,d,hc,hk,q⟩:=h;obtain⟨v,c,rfl,i,e⟩:=GC r;cases i;obtain⟨o,vs,g,f,_⟩:=b _ (I.hok a _ j).1;have fin:∀tk,EP X aa σ Q (.bool k) {s with toks:=tk}:=λtk=>⟨.bl k,H,I.tok tk,rfl,q⟩;rcases hk with⟨D,rfl,hk⟩|⟨n,rfl,hk⟩
 ·cases e
  exact Ex (FJ d hc) I.kIn ⟨o,g,f⟩ hk (λz=>nomatch z) fin
 ·cases e
  exact Ex (FJ d hc) I.kIn ⟨o,g,f⟩ hk (λz=>nomatch z) fin
def QL(h:X.K=K:=by rfl):aF X (.builtin "isinstance") (rIsx K):=by subst h;exact Zh
structure XI(K:Ag)(cs all:List Sb):Prop where
 own:∀c∈cs,∃C,XC K c C
 isi:∀c∈cs,∀C,Ds K Sc c=b3 (b3 (.ref C))->∀x∈all,∃D,Ds K Sc x=b3 (b3 (.ref D))/\Hb K (.ref C) (.ref D)=b3 (decide (c=x))
 val:∀c∈cs,∀C,Ds K Sc c=b3 (b3 (.ref C))->Hb K (.ref C) (.type "ValueError")=b3 ba
 pke:∀c∈cs,∀C,Ds K Sc c=b3 (b3 (.ref C))->∃D,Ds K Sc "PackError"=b3 (b3 (.ref D))/\Hb K (.ref C) (.ref D)=b3 ba
noncomputable def BO(cs all:List Sb)(c:Sb):cT->Option cT
 |.fn x=>if c∈cs/\x∈all then b3 (.bl (decide (c=x)))else if c∈cs/\x= "PackError" then b3 (.bl ba)else b5
 |.ty n=>if c∈cs/\n= "ValueError" then b3 (.bl ba)else b5
 |_=>b5
def SQ(cs all:List Sb):cT->cT->Option cT
 |.exn c,y=>BO cs all c y
 |.exr c _ _,y=>BO cs all c y
 |_,_=>b5
def Ub{cs all:List Sb}(F:XI K cs all){N M:Sa->Prop}{c0:Sb}{C a:Sa}{l:Si->Prop}{y d:cT}{u:V}{Q:VK}(g:Ds K Sc c0=b3 (b3 (.ref C)))(i:H a=b3 (.ext l))(f:∀h,l h->AL h a C)(m:bB K N H M u y)(h:BO cs all c0 y=b3 d)(k:∀b:Bool,d=.bl b->Q (.bl b) H):rIsx K [.ref a,u] H Q:=by
 unfold BO at h;split at h
 ·rename_i p
  cases m with
  |fn n=>
   split at h
   ·rename_i c
    cases h;obtain⟨o,e⟩:=F.own _ c.1;have:=g.symm.trans e.at_
    cases this;obtain⟨D,j,hk⟩:=F.isi _ c.1 _ g _ c.2;have:=n.symm.trans j
    cases this;exact⟨_,_,_,_,_,rfl,i,f,e.att,e.cls,.inl ⟨_,rfl,hk⟩,k _ rfl⟩
   ·split at h
    ·rename_i c
     cases h;obtain⟨c,rfl⟩:=c;obtain⟨o,e⟩:=F.own _ c;have:=g.symm.trans e.at_
     cases this;obtain⟨D,j,hk⟩:=F.pke _ c _ g;have:=n.symm.trans j
     cases this;exact⟨_,_,_,_,_,rfl,i,f,e.att,e.cls,.inl ⟨_,rfl,hk⟩,k _ rfl⟩
    ·cases h
 ·rename_i q
  cases m;split at h
  ·rename_i c
   cases h;obtain⟨c,rfl⟩:=c;obtain⟨o,e⟩:=F.own _ c;have:=g.symm.trans e.at_
   cases this;exact⟨_,_,_,_,_,rfl,i,f,e.att,e.cls,.inr ⟨_,rfl,F.val _ c _ g⟩,k _ rfl⟩
  ·cases h
 ·cases h
def WH{cs all:List Sb}(F:XI K cs all):K3 K (rIsx K) (SQ cs all):=by
 intro H N N' M M' x y d e c Q j i h k;unfold SQ at h;split at h
 ·cases j with
  |exn f g a=>exact Ub F f g a i h λb e=>k (.bl b) λ_ _ _=>by rw[e];exact .bl b
 ·cases j with
  |exr f g a _ _=>exact Ub F f g (λh z=>by obtain⟨o,vs,n,m,l,_⟩:=a h z;exact⟨o,vs,n,m,l⟩) i h λb e=>k (.bl b) λ_ _ _=>by rw[e];exact .bl b
 ·cases h
end
end L2
namespace L2
open PySem PySem.Spec PyProof.Rows PySem.W
end L2
namespace L2
open PySem PySem.Spec PyProof.Rows
def kL(l b:Sa)(u v:Array Rz)(n m:Nat)(a:Array (Option Rz))(f:¬(!u.isEmpty&&Dw (u.size+v.size))=ba)(h1:u.size<=sizeLine)(h2:(u++v).size<=sizeLine+1):Meets (Gk.«list.extend» ⟨[.ref l,.ref b],[]⟩) (λ_ R s=>s.heap.get? l=b3 ⟨.type "list",b5,.seq u n,#[]⟩/\s.heap.get? b=b3 ⟨.type "list",b5,.seq v m,a⟩/\R (.ok (.ret .none)) {s with heap:=s.heap.update l (Fx λx=>x++v)}):=
 .of_wp λprog w A R s h=>by
  obtain⟨e,g,d,tk,os⟩:=s;obtain⟨hl,c,h⟩:=h;have f1:=Ik;have f2:=Ki;have f3:=Lh;have j:=Kt;have i:=Ku;wp_walk using(wpAny_updateSeq hl rfl (hz:=h1) (_hz':=h2)),Bg hl,Bg c
  exact⟨_,rfl,h⟩
def Ta(K:Ag):V->List V->Hp->VK->Prop:=λx vs H Q=>∃l b xs zs,x=.ref l/\vs=[.ref b]/\H l=b3 (.lst xs)/\XV K H b zs/\xs.length+zs.length<=sizeLine/\Q .non (upd H l (.lst (xs++zs)))
def jq{X:Cx}:MtM X "list.extend" (Ta X.K):=by
 intro aa s σ H x vs v us Q I i j h;obtain⟨l,b,xs,zs,rfl,rfl,d,p,hz,q⟩:=h;cases i;obtain⟨u,rfl,k⟩:=j.one;cases k;obtain⟨z,its,n,r,hl,e⟩:=I.lstM d;obtain⟨a,c,⟨⟨cls,dd,data,g⟩,m,t,hc,hd,f⟩,_⟩:=I.list p;simp only at hc hd f;subst hc hd f;have o:=c.length;have hsz:its.toArray.size+a.toArray.size<=sizeLine:=by rw[Ak,Ak];lia
 refine Eu F.slot_list_extend ⟨_,e,rfl⟩ F.entry_list_extend (F.args_list_extend_2 _ _) (kL l b its.toArray a.toArray n m g (by rw[nM hsz,Bool.and_false];exact Ea) (by rw[Ak];lia) (by rw[Oq];lia)) ⟨e,t,?_⟩
 refine⟨.non,_,I.lset (its':=its++a) d e (by simp) (r.append c) ?_,rfl,q⟩;rw[Ao];lia
def Sw{X:Cx}{K:Ag}(h:X.K=K):MtM X "list.extend" (Ta K):=by subst h;exact jq
noncomputable def mExt:List cT->List cT->Option (List cT)
 |ds,[.lst es]=>if ds.length+es.length<=16777216 then b3 (ds++es)else b5
 |_,_=>b5
def DM{K:Ag}:MuV K (Ta K) mExt:=by
 intro H N l xs vs ds es e Q hl f a c h k;cases c with
 |nil=>cases h
 | @cons v vs d es hd t=>
  cases t with
  |cons _ _=>cases d<;>cases h
  |nil=>
   cases d with
   |lst es=>
    simp only[mExt]at h;split at h
    ·rename_i hz
     cases h;obtain⟨b,zs,rfl,sq,r⟩:=hd.lstE;exact⟨l,b,xs,zs,rfl,rfl,hl,sq,by rw[a.length,r.length,Ce];exact hz,k _ _ (a.append r)⟩
    ·cases h
   |_=>cases h
def KN:Bm "ValueError"=b3 (.type "ValueError"):=by decide+kernel
def X0.mark{k:Nat}{A:Cb}(r:X0 k A)(h:Option Rz):X0 k (A.mark h):=⟨r.dp,r.un⟩
noncomputable def xiOk(K:Ag)(cs all:List Sb):Bool:=cs.all λc=>match Ds K Sc c with
 |some (b3 (.ref C))=>all.all (λx=>match Ds K Sc x with
  |some (b3 (.ref D))=>Hb K (.ref C) (.ref D)==b3 (decide (c=x))
  |_=>bb)&&(Hb K (.ref C) (.type "ValueError")==b3 ba&&match Ds K Sc "PackError" with
  |some (b3 (.ref D))=>Hb K (.ref C) (.ref D)==b3 ba
  |_=>bb)
 |_=>bb
def XI.of{K:Ag}{cs all:List Sb}(own:∀c∈cs,∃C,XC K c C)(h:xiOk K cs all=ba):XI K cs all:=by
 have key:∀c∈cs,∀C,Ds K Sc c=b3 (b3 (.ref C))->(∀x∈all,∃D,Ds K Sc x=b3 (b3 (.ref D))/\Hb K (.ref C) (.ref D)=b3 (decide (c=x)))/\Hb K (.ref C) (.type "ValueError")=b3 ba/\∃D,Ds K Sc "PackError"=b3 (b3 (.ref D))/\Hb K (.ref C) (.ref D)=b3 ba:=by
  intro c hc C a;have:=Fe.mp h c hc
  rw[a]at this;simp only[Af,beq_iff_eq]at this;refine⟨λx d=>?_,this.2.1,?_⟩;rotate_left
  ·have h2:=this.2.2
   split at h2
   ·rename_i D b
    exact⟨D,b,beq_iff_eq.mp h2⟩
   ·cases h2
  have h2:=Fe.mp this.1 x d;split at h2
  ·rename_i D b
   exact⟨D,b,beq_iff_eq.mp h2⟩
  ·cases h2
 exact⟨own,λc hc C a=>(key c hc C a).1,λc hc C a=>(key c hc C a).2.1,λc hc C a=>(key c hc C a).2.2⟩
def okZ(P:Az)(w:Sg)(K:Ag)(mg:Sb->Option Rz)(base:Si){x qual:Sb}{st:Sj}{f:Sa}{fd:Ch}(N ps:List Sb)(k:Nat)(z:VZ)(F:OY K x qual st f fd)(S:aA N ps (cJ st))(d:∀(a:Rz) (A:Cb) (outer:List Env) (s:Ad) (H:Hp) (E:XK) (b:Z4 k (A.deeper (envOfC qual (cJ st) s.heap.objs.size f a))) (_:(A.deeper (envOfC qual (cJ st) s.heap.objs.size f a)).units+64<cLine) (_:(A.deeper (envOfC qual (cJ st) s.heap.objs.size f a)).units+1<cLine),W1 (TK (CXv P w) P w K mg base N qual (cJ st) f a A outer s H E) (bH st) (ZS (rE K E) K [] z))(c:ps.length<=N.length:=by decide):YV P w K mg base (CXv P w) (k+1) f fd ps (spX K ps.length (runZ N.length z)):=
 OY.okX F S c λa A outer s H E b=>d a A outer s H E b b.units (To b)
def okWH(P:Az)(w:Sg)(K:Ag)(mg:Sb->Option Rz)(base:Si){x qual:Sb}{st:Sj}{f:Sa}{fd:Ch}(N ps:List Sb)(k:Nat)(g:VS)(ml:List Nat)(F:OY K x qual st f fd)(S:aA N ps (cJ st))(d:∀(a:Rz) (A:Cb) (outer:List Env) (s:Ad) (H:Hp) (b:X0 k (A.deeper (envOfC qual (cJ st) s.heap.objs.size f a))) (_:(A.deeper (envOfC qual (cJ st) s.heap.objs.size f a)).units+64<cLine) (_:(A.deeper (envOfC qual (cJ st) s.heap.objs.size f a)).units+1<cLine),W1 (cxH P w K mg base N qual (cJ st) f a A outer s H) (bH st) (V5 K ml g))(c:ps.length<=N.length:=by decide):FnH P w K mg base (k+1) f fd ps (spV K ml ps.length (a8 N.length ml g)):=
 OY.okVH F S c λa A outer s H b=>d a A outer s H b b.units b.unit
def V4{α:Type}(k:Nat)(xs:List α):List α:=(Aj k xs).flatten
def MG{α:Type}(k:Nat)(xs:List α):(V4 k xs).length=xs.length*k:=by
 unfold V4;induction k with
 |zero=>simp
 |succ k a=>rw[Dh,Fz,Ao,a,Nat.mul_succ,Pg]
def bI.repV{xs:List V}{us:List Rz}(r:bI xs us)(k:Nat):bI (V4 k xs) (V4 k us):=by
 unfold V4;induction k with
 |zero=>exact .nil
 |succ k a=>rw[Dh,Dh,Fz,Fz];exact r.append a
def b6.rep{K:Ag}{N:Sa->Prop}{H:Hp}{xs:List V}{ds:List cT}(r:b6 K N H xs ds)(k:Nat):b6 K N H (V4 k xs) (V4 k ds):=by
 unfold V4;induction k with
 |zero=>exact .nil
 |succ k a=>rw[Dh,Dh,Fz,Fz];exact r.append a
def ON:fillsNumberSlot (.type "tuple") "mul"=pure bb:=
 PySem.fillsNumberSlot_seq (id:= "tuple.__mul__") (r:=b3 (.builtin "tuple.__rmul__")) F.slot_tuple_mul.lookup (by decide+kernel) F.slot_tuple_rmul.lookup (by decide+kernel)
def IG:seqRepeat? (.type "tuple")=pure (b3 (.builtin "tuple.__mul__")):=by unfold seqRepeat?;rw[Pr (T:= "tuple") (name:= "__mul__") (id:= "tuple.__mul__") F.slot_tuple_mul.lookup (by decide+kernel),Pr (T:= "tuple") (name:= "__rmul__") (id:= "tuple.__rmul__") F.slot_tuple_rmul.lookup (by decide+kernel)];rfl
def D4(a:Int)(t:Su)(l:Sa)(u:Array Rz)(n:Nat)(dd:Option Sa)(b:Array (Option Rz)):Meets (Gk.«int.__rmul__» ⟨[.int a t,.ref l],[]⟩) (λ_ R s=>s.heap.get? l=b3 ⟨.type "tuple",dd,.seq u n,b⟩/\R (.ok (.ret Value.notImplemented)) s):=
 .of_wp λprog w A R s h=>by obtain⟨c,g,d,tk,os⟩:=s;obtain⟨hl,h⟩:=h;wp_walk;exact⟨_,rfl,h⟩
def DN(l:Sa)(t:Su)(u:Array Rz)(n:Nat)(dd:Option Sa)(a:Array (Option Rz)):Meets (Gk.«tuple.__mul__» ⟨[.ref l,.int 1 t],[]⟩) (λ_ R s=>s.heap.get? l=b3 ⟨.type "tuple",dd,.seq u n,a⟩/\R (.ok (.ret (.ref l))) s):=
 .of_wp λprog w A R s h=>by
  obtain⟨b,g,d,tk,os⟩:=s;obtain⟨hl,h⟩:=h;have f1:=Ik;unfold Gk.«tuple.__mul__»;wp_walk using Bg hl
  exact⟨_,rfl,h⟩
def DO(l:Sa)(x:Int)(t:Su)(u:Array Rz)(n:Nat)(dd:Option Sa)(e:Array (Option Rz))(h1:1<x)(h2:x<2 ^ 62)(f:u.isEmpty=bb)(hz:u.size*x.toNat<=16777216):Meets (Gk.«tuple.__mul__» ⟨[.ref l,.int x t],[]⟩) (λ_ R s=>s.heap.get? l=b3 ⟨.type "tuple",dd,.seq u n,e⟩/\R (.ok (.ret (.ref s.heap.objs.size))) {s with heap:=s.heap.push {cls:=.type "tuple",data:=.seq ((Aj x.toNat u).foldl (· ++ ·) #[])}}):=
 .of_wp λprog w A R s h=>by
  obtain⟨p,g,d,tk,os⟩:=s;obtain⟨hl,h⟩:=h;have f1:=Ik;unfold Gk.«tuple.__mul__»;have o:(decide (x< -2 ^ 63) || decide (x≥2 ^ 63))=bb:=by simp;lia
  have m:(x==1)=bb:=by simp;lia
  have k:decide (x<=0)=bb:=by simp;lia
  have a:(u.size:Int)*x=((u.size*x.toNat:Nat):Int):=by rw[Int.natCast_mul,Int.toNat_of_nonneg (by lia)]
  have j:¬((u.size:Int)*x>(2 ^ 63-1)/8):=by rw[a];lia
  have i:Jr ((u.size:Int)*x)=bb:=by rw[a];unfold Jr;simp only[Ce,decide_eq_false_iff_not];lia
  wp_walk using Bg hl
  rw[o];wp_walk using Bg hl
  simp only[f,m,k,Rc];wp_walk;rw[i,if_neg j];have q:¬(List.foldl (λc b=>c++b) #[] (Aj x.toNat u)).size>sizeLine:=by
   have:=MG x.toNat u.toList
   unfold V4 at this;rw[listMul_foldl,Ak];show¬([]++(Aj x.toNat u.toList).flatten).length>sizeLine;rw[Cv,this,Ga,Ce];lia
  wp_walk;exact⟨_,rfl,h⟩
section
variable{X:Cx}{K:Ag}
def Vb(K:Ag):R2:=λx y H Q=>∃l xs k,x=.ref l/\y=.int k/\XV K H l xs/\(0<=k/\k<2 ^ 62)/\xs.length*k.toNat<=16777216/\∀p,H p=b5->Q (.ref p) (upd H p (.lst (V4 k.toNat xs)))
def zGX:WV X (Fh .Mult) (Vb X.K):=by
 intro aa s σ H x y v u Q I g f h;obtain⟨l,xs,x,rfl,rfl,i,⟨k,j⟩,hz,q⟩:=h;cases g;obtain⟨t,rfl⟩:=f;obtain⟨its,r,⟨⟨cls,dd,data,c⟩,n,a,hc,hd,d⟩,_⟩:=I.list i;simp only at hc hd d;subst hc hd d;have hl:=r.length;have hsz:its.toArray.size*x.toNat<=16777216:=by rw[Ak,<-hl];exact hz
 refine Kb (T:= "list") (U:= "int") (by decide) ⟨_,a,rfl⟩ (λs'=>Md s' x t) noFill_list_mul Ql Jh repeat_list F.slot_int_index.lookup
  (Eu Jh (Md s x t) Ps (Ow _ _) (lm_int_rmul_list_any x t l its.toArray n b5 c) ⟨a,rfl,⟨_,a,rfl⟩,?_⟩)
 refine Eu F.slot_list_mul ⟨_,a,rfl⟩ F.entry_list_mul (F.args_list_mul_2 _ _) (lm_list_mul_any l its.toArray n b5 c x t (by simp[Builtin.List.listFitsIndex];lia) (by lia) (by simp[Dw,sizeLine];lia)) ⟨a,?_⟩;rw[listMul_foldl_if];refine⟨.ref s.heap.objs.size,_,I.laid (t':=s.toks) (o:=.lst (V4 x.toNat xs)) (λb m e=>Ae _ e) (Ax _) ?_,rfl,q _ (I.hok.fresh (Ax _))⟩;exact⟨by rw[MG,Ce];exact hz,V4 x.toNat its,0,r.repV _,Aw _ rfl⟩
def Wg(K:Ag):R2:=λx y H Q=>∃l xs k,x=.ref l/\y=.int k/\UO K H l xs/\xs≠[]/\(1<=k/\k<2 ^ 62)/\xs.length*k.toNat<=16777216/\(k=1->Q (.ref l) H)/\∀p,H p=b5->Q (.ref p) (upd H p (.tup (V4 k.toNat xs)))
def nO:WV X (Fh .Mult) (Wg X.K):=by
 intro aa s σ H x y v u Q I j i h;obtain⟨l,xs,x,rfl,rfl,m,f,⟨p,g⟩,hz,q1,q⟩:=h;cases j;obtain⟨t,rfl⟩:=i;obtain⟨its,r,⟨⟨cls,dd,data,d⟩,c,hc,n,hd⟩,_⟩:=I.tuple m;simp only at hc hd;subst hc hd;have hl:=r.length;have hsz:its.toArray.size*x.toNat<=16777216:=by rw[Ak,<-hl];exact hz
 have k:its.toArray.isEmpty=bb:=by
  cases its with
  |nil=>exact absurd (r.nil_iff.mp rfl) f
  |cons a b=>rfl
 refine Kb (T:= "tuple") (U:= "int") (by decide) ⟨_,c,rfl⟩ (λs'=>Md s' x t) ON Ql Jh IG F.slot_int_index.lookup
  (Eu Jh (Md s x t) Ps (Ow _ _) (D4 x t l its.toArray n dd d) ⟨c,rfl,⟨_,c,rfl⟩,?_⟩)
 by_cases hk:x=1
 ·subst hk
  exact Eu Pt ⟨_,c,rfl⟩ Ox (Nv _ _) (DN l t its.toArray n dd d) ⟨c,⟨.ref l,H,I,rfl,q1 rfl⟩⟩
 ·refine Eu Pt ⟨_,c,rfl⟩ Ox (Nv _ _) (DO l x t its.toArray n dd d (by lia) g k hsz) ⟨c,?_⟩
  rw[listMul_foldl];refine⟨.ref s.heap.objs.size,_,I.laid (t':=s.toks) (o:=.tup (V4 x.toNat xs)) (λb w e=>Ae _ e) (Ax _) ?_,rfl,q _ (I.hok.fresh (Ax _))⟩;exact⟨by rw[MG,Ce];exact hz,V4 x.toNat its,r.repV _,Kg _ _⟩
def Wu(K:Ag):R2:=λx y H Q=>Vb K x y H Q∨Wg K x y H Q
def kRep(h:X.K=K:=by rfl):WV X (Fh .Mult) (Wu K):=by subst h;exact zGX.or nO
noncomputable def FV:cT->cT->Option cT
 |.lst ds,.int k=>if(0<=k/\k<2 ^ 62)/\ds.length*k.toNat<=16777216 then b3 (.lst (V4 k.toNat ds))else b5
 |.tup (d::ds),.int k=>if(1<=k/\k<2 ^ 62)/\(ds.length+1)*k.toNat<=16777216 then b3 (.tup (V4 k.toNat (d::ds)))else b5
 |_,_=>b5
def lv:OpC K (Wu K) FV:=by
 intro H N M M' x y d e c Q l j h k;cases d with
 |lst ds=>
  cases e with
  |int i=>
   simp only[FV]at h;split at h
   ·rename_i hz
    cases h;obtain⟨a,xs,rfl,q1,b⟩:=l.lstE;cases j;exact .inl ⟨a,xs,i,rfl,rfl,q1,hz.1,by rw[b.length];exact hz.2,λp f=>k _ _ (cK f) λM g=>.lst cG (λz=>by obtain⟨o,q⟩:=g _ z;rw[f]at q;cases q) ((b.rep _).same (cK f))⟩
   ·cases h
  |_=>cases h
 |tup ds=>
  cases ds with
  |nil=>cases h
  |cons d ds=>
   cases e with
   |int i=>
    simp only[FV]at h;split at h
    ·rename_i hz
     cases h;obtain⟨a,xs,rfl,q1,b⟩:=l.tupE;cases j;refine .inr ⟨a,xs,i,rfl,rfl,q1,λz=>?_,hz.1,by rw[b.length];exact hz.2,λz=>?_,λp f=>k _ _ (cK f) λM g=>.tup (UO.of cG) ((b.rep _).same (cK f))⟩
     ·subst z
      cases b
     ·subst z
      refine k _ _ (aM.refl _) λM g=>?_;rw[show V4 (1:Int).toNat (d::ds)=d::ds by simp[V4]];exact .tup q1 b
    ·cases h
   |_=>cases h
 |_=>cases h
end
section
variable{X:Cx}{aa:List (Sa×Sk)}{σ:St}{H:Hp}{s:Ad}{a C dx p q:Sa}{f g nm:Sb}{xs ys:List V}{v:V}{A:Cb}{E:Rz->Ad->Prop}
def A5{P:Az}{w:Sg}{h:Si}(b:UN P w H h)(e:H a=b3 (.flt C dx f g p q xs ys)):∃mA,EM h a dx C mA/\(∀n,UQ (([(f,.ref p),(g,.ref q)]:List (Sb×V)).lookup n) (mA n))/\Jt mA [f,g]:=by obtain⟨_,⟨d,_⟩,c,⟨mA,n,r,z⟩,_⟩:=(show aG P w H h a (.flt C dx f g p q xs ys) from b a _ e);exact⟨mA,⟨c,n,d⟩,r,z⟩
def FD{b:Bool}{Q:Rz->Ad->Prop}(I:b9 X aa σ H s)(e:H a=b3 (.flt C dx f g p q xs ys))(c:Cls X.K C)(n:ZD X.K C nm)(l:([(f,.ref p),(g,.ref q)]:List (Sb×V)).lookup nm=b3 v)(h:∀u s',b9 X aa σ H s'->bA v u->Q u s'):Sd (Se X.prog X.w) A (getAttr (.ref a) nm b) Q E s:=by obtain⟨mA,O,r,_⟩:=A5 I.hok e;obtain⟨u,i,d⟩:=UQ.some_of (v:=v) (o:=mA nm) (by rw[<-l];exact r nm);exact iA I.kIn O (c.get nm) c.hd n i (nH d) (h u _ (I.tok _) d)
def FE{m:Sb}{k:Sa}{pl:Sr Bool}{Q:Rz×List Rz->Ad->Prop}(I:b9 X aa σ H s)(e:H a=b3 (.flt C dx f g p q xs ys))(c:Cls X.K C)(b:Meth X.K C m k)(l:([(f,.ref p),(g,.ref q)]:List (Sb×V)).lookup m=b5)(h:Q (.ref k,[.ref a]) s):Sd (Se X.prog X.w) A (Nd (.ref a) m pl) Q E s:=by obtain⟨mA,O,r,_⟩:=A5 I.hok e;have d:mA m=b5:=UQ.none_of (by rw[<-l];exact r m);exact gH I.kIn O (c.get m) b.at_ b.fn d h
end
def tPrt(K:Ag)(ta:TE)(nm:Sb):TE:=λσ H Q=>ta σ H λx H1=>∃a C dx f g p q xs ys v,x=.ref a/\H1 a=b3 (.flt C dx f g p q xs ys)/\Cls K C/\ZD K C nm/\([(f,.ref p),(g,.ref q)]:List (Sb×V)).lookup nm=b3 v/\Q v H1
section
variable{X:Cx}{e:Sf}{nm:Sb}{pos:Pos}{ta:TE}
def DT(d:PE X e ta)(i:Cd e nm X.env (eval e X.env)=eval e X.env):PE X (.Attribute e nm pos) (tPrt X.K ta nm):=by intro aa s σ H Q I h;refine Xq i (ZP (d aa s σ H _ I h) λu s1 ⟨x,H1,m,b,a,C,dx,f,g,p,q,xs,ys,v,ex,j,c,n,l,k⟩=>?_);subst ex;obtain rfl:u=Bk a:=b;exact FD m j c n l λu s' o r=>⟨v,H1,o,r,k⟩
end
def lk1{f g:Sb}{p q:V}:([(f,p),(g,q)]:List (Sb×V)).lookup f=b3 p:=by rw[Bw];simp
def lk2{f g:Sb}{p q:V}(h:f≠g):([(f,p),(g,q)]:List (Sb×V)).lookup g=b3 q:=by
 rw[Bw,Bw];have:(g==f)=bb:=by simpa using h.symm
 rw[this];simp
structure NA(K:Ag)(x f g:Sb):Prop where
 cls:∀C,Ds K Sc x=b3 (b3 (.ref C))->Cls K C/\ZD K C f/\ZD K C g
 ne:f≠g
noncomputable def fA(x f g:Sb)(b:Bool)(i:Nat):VF:=λδ=>match δ[i]? with
 |some (.ow (.flt a c g' k ds))=>if a=x/\c=f/\g'=g then b3 (.lst (if b then ds.take k else ds.drop k),δ)else b5
 |_=>b5
section
variable{X:Cx}{K:Ag}{ml:List Nat}{e:Sf}{pos:Pos}{x f g:Sb}
def Wa{i:Nat}(b:Bool)(v:X.K=K)(c:NA K x f g)(h:PE X e (ZH i))(u:Cd e (if b then f else g) X.env (eval e X.env)=eval e X.env):PE X (.Attribute e (if b then f else g) pos) (TV K ml ba bb ba (fA x f g b i)):=by
 subst v;refine(DT h u).imp λσ H Q j=>?_;obtain⟨B,O,δ,d',δ',S,q,k⟩:=j;unfold fA at q;split at q
 ·rename_i E F g' n ds hd
  split at q
  ·rename_i t
   obtain⟨rfl,rfl,rfl⟩:=t;cases q;obtain⟨a,G,l,w⟩:=S.ow i _ hd;cases w with
   | @flt _ _ _ xs ys _ q r=>
    obtain⟨C,dx,p,d,e,⟨s,o⟩,y⟩:=q;obtain⟨m,D,A⟩:=c.cls C y;cases b with
    |true=>
     refine⟨.ref a,l,a,C,dx,_,_,p,d,xs,ys,.ref p,rfl,e,m,D,lk1,k _ H (AQ.refl S (.fzm (xs:=xs) (.inr (.inr ⟨a,C,dx,_,_,p,d,xs,ys,s,e,λz=>z,.inl ⟨rfl,rfl⟩⟩)) ?_))⟩;have:=r.take xs.length
     rw[Gz]at this;exact this
    |false=>
     refine⟨.ref a,l,a,C,dx,_,_,p,d,xs,ys,.ref d,rfl,e,m,A,lk2 c.ne,k _ H (AQ.refl S (.fzm (xs:=ys) (.inr (.inr ⟨a,C,dx,_,_,p,d,xs,ys,o,e,λz=>z,.inr ⟨rfl,rfl⟩⟩)) ?_))⟩;have:=r.drop xs.length
     rw[Fq]at this;exact this
  ·cases q
 ·cases q
end
def gD:V->List V->Hp->VK->Prop:=λx vs H Q=>∃l a C dx f g p q xs ys y,x=.ref l/\vs=[y]/\H l=b3 (.own a)/\H a=b3 (.flt C dx f g p q xs ys)∧
 ((l=p/\xs.length<sizeLine/\Q .non (upd H a (.flt C dx f g p q (xs++[y]) ys)))∨(l=q/\ys.length<sizeLine/\Q .non (upd H a (.flt C dx f g p q xs (ys++[y])))))
section
variable{X:Cx}{aa:List (Sa×Sk)}{σ:St}{H:Hp}{s:Ad}{a C dx p q:Sa}{f g:Sb}{xs ys:List V}
def A6{P:Az}{w:Sg}{h h':Si}{l:Sa}{i d:List V}(x:aG P w H h a (.flt C dx f g p q xs ys))(A:H a=b3 (.flt C dx f g p q xs ys))(hl:H l=b3 (.own a))(hd:l≠dx)(k:∀b u,b≠l->h.get? b=b3 u->h'.get? b=b3 u)(y:i.length<=sizeLine/\∃(its:List Rz) (n:Nat),bI i its/\h'.get? p=b3 {cls:=.type "list",data:=.seq its.toArray n})(v:d.length<=sizeLine/\∃(its:List Rz) (n:Nat),bI d its/\h'.get? q=b3 {cls:=.type "list",data:=.seq its.toArray n}):aG P w (upd H a (.flt C dx f g p q i d)) h' a (.flt C dx f g p q i d):=by obtain⟨⟨s,o,m⟩,t,e,⟨mA,⟨od,es,B,D,c⟩,r⟩,_,_⟩:=x;have j:∀b,H b=b3 (.own a)->b≠a:=λb h=>Y3 h A (λz=>nomatch z);exact⟨⟨by rw[cH (j _ s)];exact s,by rw[cH (j _ o)];exact o,by rw[cH (j _ m)];exact m⟩,t,k _ _ (j _ hl).symm e,⟨mA,⟨od,es,B,k _ _ hd.symm D,c⟩,r⟩,y,v⟩
def gA:MtM X "list.append" gD:=by
 intro aa s σ H x vs v us Q I G J h;obtain⟨l,a,C,dx,f,g,p,q,xs,ys,y,rfl,rfl,hl,d,z⟩:=h;cases G;obtain⟨u,rfl,B⟩:=J.one;have ok:aG X.prog X.w H s.heap a (.flt C dx f g p q xs ys):=I.hok a _ d;obtain⟨_,⟨_,L,K,D,_⟩,_,_,⟨F,t,m1,o,m⟩,E,r,m2,n,j⟩:=ok;rcases z with⟨rfl,hz,k⟩|⟨rfl,hz,k⟩
 ·have M:=o.length
  refine Eu Hr ⟨_,m,rfl⟩ Hf (Gw _ _) (Ib l t.toArray m1 u (by rw[Ak];lia)) ⟨m,?_⟩;refine⟨.non,_,?_,rfl,k⟩;have i:=La m (λz=>z.push u);refine I.write (x:=a) (e:=l) (by rw[d];exact trivial) (.inr hl) (λA u c b=>(Bv s.heap _ (Dl c)).trans b) ⟨_,i⟩ ?_;refine A6 (I.hok a _ d) d hl L (λA u c b=>(Bv s.heap _ (Dl c)).trans b) ⟨by rw[Ao,Cn];lia,t++[u],_,o.append (.cons B .nil),by simpa using i⟩ ⟨E,r,m2,n,(Bv s.heap _ D).trans j⟩
 ·have M:=n.length
  refine Eu Hr ⟨_,j,rfl⟩ Hf (Gw _ _) (Ib l r.toArray m2 u (by rw[Ak];lia)) ⟨j,?_⟩;refine⟨.non,_,?_,rfl,k⟩;have i:=La j (λz=>z.push u);refine I.write (x:=a) (e:=l) (by rw[d];exact trivial) (.inr hl) (λA u c b=>(Bv s.heap _ (Dl c)).trans b) ⟨_,i⟩ ?_;refine A6 (I.hok a _ d) d hl K (λA u c b=>(Bv s.heap _ (Dl c)).trans b) ⟨F,t,m1,o,(Bv s.heap _ (Dl D)).trans m⟩ ⟨by rw[Ao,Cn];lia,r++[u],_,n.append (.cons B .nil),by simpa using i⟩
end
noncomputable def ownF(x f g:Sb)(δ:Ev)(i:Nat):Option (Nat×List cT):=match δ[i]? with
 |some (.ow (.flt a b g' k ds))=>if a=x/\b=f/\g'=g then b3 (k,ds)else b5
 |_=>b5
def OP{x f g:Sb}{δ:Ev}{i k:Nat}{ds:List cT}(h:ownF x f g δ i=b3 (k,ds)):δ[i]?=b3 (.ow (.flt x f g k ds)):=by
 unfold ownF at h;split at h
 ·rename_i e
  split at h
  ·rename_i z
   obtain⟨rfl,rfl,rfl⟩:=z;cases h;exact e
  ·cases h
 ·cases h
noncomputable def UV(b:Bool)(k:Nat)(ds:List cT)(d:cT):Nat×List cT:=if b then(k+1,ds.take k++d::ds.drop k)else(k,ds++[d])
def NW(x f g:Sb)(b:Bool)(i:Nat)(fs:R8):VS:=λδ=>(ownF x f g δ i).bind λ_=>(fs δ).bind λr=>(ownF x f g r.2 i).bind λz=>match r.1 with
 |[d]=>if z.2.length<16777216 then b3 (.nx (r.2.set i (.ow (.flt x f g (UV b z.1 z.2 d).1 (UV b z.1 z.2 d).2))))else b5
 |_=>b5
section
variable{X:Cx}{K:Ag}{ml:List Nat}{e:Sf}{es:List Sf}{pu:Bool}{pos:Pos}{x f g:Sb}{H:Hp}
def Yx{N:Sa->Prop}{l C dx p q:Sa}{f g:Sb}{us ws d c:List V}{xs:List V}{ds:List cT}(e:H l=b3 (.flt C dx f g p q us ws))(m:N l)(h:b6 K N H xs ds):b6 K N (upd H l (.flt C dx f g p q d c)) xs ds:=
 h.fr (P:=λb=>b=l) ⟨λb u q n=>by
  by_cases i:b=l
  ·subst i
   rw[e]at q;cases q;exact absurd (n rfl) λz=>z
  ·rw[cH i]
   exact q,NZ.upd λt o s g' p' r k j z=>by
  rw[e]at z;cases z;exact⟨_,_,rfl⟩⟩ λa z=>z▸m
def CO{i:Nat}{v:Sb}{aq af ae ah:Pos}{fs:R8}(b:Bool)(hK:X.K=K)(c:NA K x f g)(ho:PE X (.Name v ah) (ZH i))(ha:PA X (e::es) (GU K ml pu ba fs))(I:Cd (.Name v ah) (if b then f else g) X.env (eval (.Name v ah) X.env)=eval (.Name v ah) X.env)(ao:Cd (.Attribute (.Name v ah) (if b then f else g) aq) "append" X.env (eval (.Attribute (.Name v ah) (if b then f else g) aq) X.env)=eval (.Attribute (.Name v ah) (if b then f else g) aq) X.env)(au : ((Ct ae (Ap (e :: es) X.env)).all (λx => !x.1) && (Gu ae (Eh [] X.env)).all (λx => x.1.isSome) && decide ((e::es).length+([]:List Fo).length+(if([]:List Fo).isEmpty then 0 else 1)<30))=ba)(am:(af.endLine==ae.line)=ba)(hs:SE X e es)(ak:(Ct ae (Ap es X.env)).any (·.1)=bb)(F:Fu (.Call (.Attribute (.Attribute (.Name v ah) (if b then f else g) aq) "append" af) (e::es) [] ae) b5 pos.line X.env=pure bb):PS X (.Expr (.Call (.Attribute (.Attribute (.Name v ah) (if b then f else g) aq) "append" af) (e::es) [] ae) pos) (V5 K ml (NW x f g b i fs)):=by
 subst hK;refine(M8 (kBm (K:=X.K) rfl Ep De Df gA (DT ho I) ha ao au am hs ak) F).imp λD σ H G=>?_;obtain⟨B,O,δ,o,S,q,k⟩:=G;unfold NW at q;obtain⟨⟨k0,ds0⟩,h0,q⟩:=Aa.mp q;obtain⟨⟨es',δ1⟩,h1,q⟩:=Aa.mp q;obtain⟨⟨k1,ds⟩,h2,q⟩:=Aa.mp q;obtain⟨a,J,Y,w⟩:=S.ow i _ (OP h0);split at q
 ·rename_i d hd
  simp only at hd;subst hd;split at q
  ·rename_i hz
   cases q;cases w with
   | @flt _ _ _ xs ys _ w0 r0=>
    obtain⟨C,dx,p,l,e,⟨P,N⟩,U⟩:=w0;obtain⟨Z,c2,c3⟩:=c.cls C U;have fin:∀vs H1,ResA X.K ml B O H σ pu ba H1 δ1 vs [d]->∃us ws v,vs=[v]/\H1 a=b3 (.flt C dx f g p l us ws)/\us.length=k1/\(us++ws).length<sizeLine/\∀j m,(b6 X.K (Nn B O) H1 (us++ws) ds->bB X.K (Nn B O) H1 (Nn B O) v d->b6 X.K (Nn B O) H1 (j++m) (UV b k1 ds d).2/\j.length=(UV b k1 ds d).1)->
      D.nx σ (upd H1 a (.flt C dx f g p l j m)):=λvs H1 R=>by
     obtain⟨s,y,n⟩:=R.frm.ft _ _ _ _ _ _ _ _ _ e;obtain⟨a',W,_,w1⟩:=R.sta.ow i _ (OP h2);rw[J]at W;cases W;have rr:=R.rep;cases rr with
     | @cons v _ _ _ u t=>
      cases t;cases w1 with
      | @flt _ _ _ us ws _ w2 Q=>
       obtain⟨C',dx',p',q'',V,⟨M,L⟩,hC'⟩:=w2;rw[n]at V;cases V;have ai:=Q.length;refine⟨s,y,v,rfl,n,rfl,by rw[ai,Ce];exact hz,λj m hr=>?_⟩;obtain⟨r3,l3⟩:=hr Q u;have T:∀b,H1 b=b3 (.own a)->b≠a:=λb h=>Y3 h n (λz=>nomatch z);have ow:R7 X.K (Nn B O) (upd H1 a (.flt C dx f g p l j m)) a (.flt x f g j.length (UV b s.length ds d).2):=
        .flt ⟨C,dx,p,l,cG,⟨by rw[cH (T _ M)];exact M,by rw[cH (T _ L)];exact L⟩,U⟩ (Yx n (.inr ⟨i,J⟩) r3)
       rw[l3]at ow;exact k σ _ O (R.sta.wrote J (λz=>z) (λ_ _ _ _ _ _ _ _ z=>by rw[n]at z;cases z;exact⟨_,_,rfl⟩) ow)
    cases b with
    |true=>
     refine⟨.ref a,Y,a,C,dx,_,_,p,l,xs,ys,.ref p,rfl,e,Z,c2,lk1,.inl ⟨rfl,_,.inl (.inl (.inr (.inr ⟨a,C,dx,_,_,p,l,xs,ys,P,e,.inl ⟨rfl,rfl⟩⟩)))⟩,B,O,δ,[d],δ1,S,h1,λvs H1 R=>?_⟩;obtain⟨us,ws,v,rfl,n,hk,hl,fn⟩:=fin vs H1 R;refine⟨p,a,C,dx,_,_,p,l,us,ws,v,rfl,rfl,R.frm _ _ P λ_=>trivial,n,.inl ⟨rfl,by rw[Ao]at hl;lia,fn _ _ λr u=>⟨?_,by simp[UV,hk]⟩⟩⟩;have E:=r.take us.length;have A:=r.drop us.length;rw[Gz]at E;rw[Fq]at A;rw[hk]at E A;have:=(E.snoc u).append A
     simpa[UV]using this
    |false=>
     refine⟨.ref a,Y,a,C,dx,_,_,p,l,xs,ys,.ref l,rfl,e,Z,c3,lk2 c.ne,.inl ⟨rfl,_,.inl (.inl (.inr (.inr ⟨a,C,dx,_,_,p,l,xs,ys,N,e,.inr ⟨rfl,rfl⟩⟩)))⟩,B,O,δ,[d],δ1,S,h1,λvs H1 R=>?_⟩;obtain⟨us,ws,v,rfl,n,hk,hl,fn⟩:=fin vs H1 R;refine⟨l,a,C,dx,_,_,p,l,us,ws,v,rfl,rfl,R.frm _ _ N λ_=>trivial,n,.inr ⟨rfl,by rw[Ao]at hl;lia,fn _ _ λr u=>⟨?_,by simp[UV,hk]⟩⟩⟩;have:=r.snoc u
     simpa[UV]using this
  ·cases q
 ·cases q
end
def Tt(C:Sa)(m:Sb)(sp:Sp)(dvs:List V)(E:XK)(ta:TE)(t:TA):TE:=λσ H Q=>ta σ H λx H1=>∃a dx f g p q xs ys,x=.ref a/\H1 a=b3 (.flt C dx f g p q xs ys)/\(f≠m/\g≠m)∧
 t σ H1 λvs H2=>sp (x::(vs++dvs)) H2 Q E
def lk0{f g m:Sb}{p q:V}(h:f≠m/\g≠m):([(f,p),(g,q)]:List (Sb×V)).lookup m=b5:=by
 rw[Bw,Bw];have h1:(m==f)=bb:=by simpa using h.1.symm
 have h2:(m==g)=bb:=by simpa using h.2.symm
 rw[h1,h2];rfl
section
variable{X:Cx}{o e:Sf}{es:List Sf}{C f:Sa}{m:Sb}{af pos:Pos}{CX:CS}{k:Nat}{fd:Ch}{ps:List Sb}{sp:Sp}{ds:List Rz}{dvs:List V}{E:XK}{ta:TE}{t:TA}
def jk{pl:Sr Bool}(J:PE X o ta)(c:Cls X.K C)(j:Meth X.K C m f)(F:YV X.prog X.w X.K X.mg X.base CX k f fd ps sp)(G:Z4 k X.A)(L:XX X.K fd ps ds)(hd:bI dvs ds)(B:N2 CX X E)(M:PA X (e::es) t)(b:SE X e es:=by rfl)(d:(Ct pos (Ap es X.env)).any (·.1)=bb:=by rfl)(D:eval (.Call (.Attribute o m af) (e::es) [] pos) X.env=(do
   let i<-eval o X.env
   Lk af.atName
   let (f,first)<-Gv [i] (Nd i m pl)
   callWith pos f first (Ct pos (Ap (e::es) X.env)) (Gu pos (Eh [] X.env))):=by rfl):
  PE X (.Call (.Attribute o m af) (e::es) [] pos) (Tt C m sp dvs E ta t):=by
 intro aa s σ H Q I h;refine W.methodCall_KW (pl:=pl) (ZP (J aa s σ H _ I h) λu s1 ⟨x,H1,v,y,a,dx,f,g,p,q,xs,ys,ex,N,l,z⟩=>?_) D;subst ex;obtain rfl:u=Bk a:=y;refine FE v N c j (lk0 l) ?_;refine Jv (first:=[.ref a]) (h₀:=X.base) I.ok.mod.kin j.kp (ZP (M pos aa s1 σ H1 _ v z) λus s2 ⟨vs,H2,n,r,q2⟩=>⟨n.kIn,?_⟩) b d;exact D5 (us:=.ref a::us) (vs:=.ref a::vs) F G L hd B n (.cons rfl r) q2
end
def ZT(x f g:Sb)(i n:Nat)(mF:List Nat)(F:cB)(fs:WO):VF:=λδ=>(ownF x f g δ i).bind λ_=>cE n mF F (aO i fs) δ
section
variable{X:Cx}{K:Ag}{ml:List Nat}{H:Hp}{σ:St}{ps:Bool}{x f g:Sb}
def ln{fs:WO}{j:Nat}{Q:List V->Hp->Prop}(h:KM K ml ps (aO j fs) σ H Q):∃v,σ[j]?=b3 (b3 v)/\KM K ml ps fs σ H λvs H1=>Q (v::vs) H1:=by obtain⟨B,O,δ,as,a,S,q,k⟩:=h;unfold aO at q;obtain⟨d,h1,q⟩:=Aa.mp q;have q:((fs δ).map λq=>(AV.o j::q.1,q.2))=b3 (as,a):=q;obtain⟨p2,h2,q⟩:=An.mp q;cases q;obtain⟨v,e⟩:=S.slot h1;exact⟨v,e,B,O,δ,_,_,S,h2,λvs H2 R2=>k _ H2 ⟨R2.sta,R2.frm,R2.pur,.o e R2.rep⟩⟩
def nR{i n:Nat}{mF:List Nat}{F:cB}{fs:WO}{Q:VK}{C:Sa}{m:Sb}(t:Ds K Sc x=b3 (b3 (.ref C)))(s:f≠m/\g≠m)(h:TV K ml (ps&&mF.isEmpty) ba ba (ZT x f g i n mF F fs) σ H Q):Tt C m (spV K mF n F) [] E0 (ZH i) (KM K ml ps fs) σ H Q:=by
 obtain⟨B,O,δ,d,c,S,q,k⟩:=h;unfold ZT at q;obtain⟨⟨k0,y⟩,u,q⟩:=Aa.mp q;obtain⟨a,A,l,w⟩:=S.ow i _ (OP u);have h1:=VT (ps:=ps) (Q:=Q) (show TV K ml (ps&&mF.isEmpty) ba ba (cE n mF F (aO i fs)) σ H Q from⟨B,O,δ,d,c,S,q,k⟩);obtain⟨v,j,h2⟩:=ln h1;rw[l]at j;cases j;cases w with
 | @flt _ _ _ xs ys _ o z=>
  obtain⟨D,dx,p,r,e,_,b⟩:=o;rw[t]at b;cases b;exact⟨.ref a,l,a,dx,f,g,p,r,xs,ys,rfl,e,s,h2⟩
structure DefM(P:Az)(w:Sg)(K:Ag)(mg:Sb->Option Rz)(base:Si)(x:Sb)(C:Sa)(m:Sb)(k:Nat)(ps:List Sb)(sp:Sp)(f:Sa):Prop where
 nm:Ds K Sc x=b3 (b3 (.ref C))
 cls:Cls K C
 at_:Meth K C m f
 ok:∃fd,YV P w K mg base CX0 k f fd ps sp/\XX K fd ps []
def lO{C ff:Sa}{m v:Sb}{kk j i n:Nat}{qs:List Sb}{mF:List Nat}{F:cB}{fs:WO}{ah af pos:Pos}{e:Sf}{es:List Sf}{pl:Sr Bool}(q:X.K=K)(D:DefM X.prog X.w K X.mg X.base x C m kk qs (spV K mF n F) ff)(o:f≠m/\g≠m)(k:Z4 j X.A)(hk:kk<=j)(l:PE X (.Name v ah) (ZH i))(p:PA X (e::es) (KM K ml ps fs))(a:SE X e es:=by rfl)(b:(Ct pos (Ap es X.env)).any (·.1)=bb:=by rfl)(d:eval (.Call (.Attribute (.Name v ah) m af) (e::es) [] pos) X.env=(do
   let c<-eval (.Name v ah) X.env
   Lk af.atName
   let (f,first)<-Gv [c] (Nd c m pl)
   callWith pos f first (Ct pos (Ap (e::es) X.env)) (Gu pos (Eh [] X.env))):=by rfl):
  PE X (.Call (.Attribute (.Name v ah) m af) (e::es) [] pos) (TV K ml (ps&&mF.isEmpty) ba ba (ZT x f g i n mF F fs)):=by
 subst q;obtain⟨fd,r,B⟩:=D.ok;exact(jk l D.cls D.at_ r (k.mono hk) B .nil FX p a b d).imp λ_ _ _ h=>nR D.nm o h
end
section
variable{X:Cx}{aa:List (Sa×Sk)}{σ:St}{H:Hp}{s:Ad}{a C dx p q:Sa}{f g:Sb}{xs ys:List V}
def W6(H:Hp)(a C dx:Sa)(f g:Sb)(p q:Sa)(xs ys:List V):Hp:=upd (upd (upd H p (.own a)) q (.own a)) a (.flt C dx f g p q xs ys)
def UN.pack{P:Az}{w:Sg}{h:Si}(ok:UN P w H h)(e:H a=b3 (.ins C dx [(f,.ref p),(g,.ref q)]))(k:H p=b3 (.lst xs))(j:H q=b3 (.lst ys))(n:p≠q)(m:f≠g):UN P w (W6 H a C dx f g p q xs ys) h:=by
 have pa:p≠a:=Y3 k e (λz=>nomatch z);have qa:q≠a:=Y3 j e (λz=>nomatch z);obtain⟨d,z,s,A,mA,B,r,y⟩:=(show aG P w H h a (.ins C dx [(f,.ref p),(g,.ref q)]) from ok a _ e);have dp:dx≠p:=Y3 d k (λz=>nomatch z);have x:dx≠q:=Y3 d j (λz=>nomatch z);have go:∀b,b≠a->b≠p->b≠q->W6 H a C dx f g p q xs ys b=H b:=λb h1 h2 l=>by unfold W6;rw[cH h1,cH l,cH h2]
 have D:W6 H a C dx f g p q xs ys a=b3 (.flt C dx f g p q xs ys):=cG;have v:W6 H a C dx f g p q xs ys p=b3 (.own a):=by unfold W6;rw[cH pa,cH n,cG]
 have t:W6 H a C dx f g p q xs ys q=b3 (.own a):=by unfold W6;rw[cH qa,cG]
 intro b u i;by_cases h1:b=a
 ·subst h1
  rw[D]at i;cases i;exact⟨⟨(go dx s dp x).trans d,v,t⟩,⟨s,dp.symm,x.symm,n,m⟩,A,⟨mA,B,r,y⟩,ok p _ k,ok q _ j⟩
 ·by_cases h2:b=p
  ·subst h2
   rw[v]at i;cases i;obtain⟨_,_,_,_,o⟩:=ok b _ k;exact⟨_,o⟩
  ·by_cases l:b=q
   ·subst l
    rw[t]at i;cases i;obtain⟨_,_,_,_,o⟩:=ok b _ j;exact⟨_,o⟩
   ·rw[go b h1 h2 l]at i
    refine(ok b u i).stay (λ_ _ _ z=>z) (λc hc=>?_) λc zs hc=>?_
    ·rw [go c (Y3 hc e λz => nomatch z) (Y3 hc k λz => nomatch z) (Y3 hc j λz => nomatch z)]
     exact hc
    ·rw [go c (Y3 hc e λz => nomatch z) (Y3 hc k λz => nomatch z) (Y3 hc j λz => nomatch z)]
     exact hc
def b9.pack(I:b9 X aa σ H s)(e:H a=b3 (.ins C dx [(f,.ref p),(g,.ref q)]))(i:H p=b3 (.lst xs))(d:H q=b3 (.lst ys))(n:p≠q)(j:f≠g):b9 X aa σ (W6 H a C dx f g p q xs ys) s:=by
 have go:∀b,b≠a->b≠p->b≠q->W6 H a C dx f g p q xs ys b=H b:=λb h1 h2 k=>by unfold W6;rw[cH h1,cH k,cH h2]
 have kp:∀b u,H b=b3 u->(∀C dx fs,u≠ .ins C dx fs)->(∀zs,u≠ .lst zs)->W6 H a C dx f g p q xs ys b=b3 u:=λb u h h1 h2=>by rw[go b (Y3 h e (h1 _ _ _)) (Y3 h i (h2 _)) (Y3 h d (h2 _))];exact h
 have fr:∀b o,s.heap.get? b=b3 o->H b=b5->W6 H a C dx f g p q xs ys b=b5:=λb o h c=>by rw[go b (aX e c).symm (aX i c).symm (aX d c).symm];exact c
 have u:Un X.fs [] H (W6 H a C dx f g p q xs ys) s.heap s.heap:=⟨λb o h _ _ _=>h,λb o h _ _ _=>⟨o.slots,h⟩,λb o h c _=>fr b o h c,λb o h _=>⟨o,h⟩,λb zs h=>kp b _ h (λ_ _ _ z=>nomatch z) (λ_ z=>nomatch z),λb o v h=>kp b _ h (λ_ _ _ z=>nomatch z) (λ_ z=>nomatch z),λb zs h=>⟨#[],by simpa using kp b _ h (λ_ _ _ z=>nomatch z) (λ_ z=>nomatch z)⟩⟩;exact I.un (h':=s.heap) (t':=s.toks) u (I.hok.pack e i d n j)
end
noncomputable def DF(H:Hp)(x C dx:Sa)(f g:Sb)(p q:Sa):Hp:=upd (upd (upd (upd H p (.lst [])) x (.ins C dx [(f,.ref p)])) q (.lst [])) x (.ins C dx [(f,.ref p),(g,.ref q)])
def spI(C:Sa)(f g:Sb):Sp:=λvs H Q _=>∃x dx,vs=[.ref x]/\H x=b3 (.ins C dx [])/\∀p q,H p=b5->H q=b5->p≠q->Q .non (DF H x C dx f g p q)
def KR(H:Hp)(x C dx:Sa)(f g:Sb)(p q:Sa):Hp:=W6 (DF (upd (upd H dx (.own x)) x (.ins C dx [])) x C dx f g p q) x C dx f g p q [] []
def lD(C:Sa)(f g:Sb):TE:=λ_ H Q=>∀x dx p q,H x=b5->H dx=b5->H p=b5->H q=b5->dx≠x->p≠x->p≠dx->q≠x->q≠dx->p≠q->Q (.ref x) (KR H x C dx f g p q)
section
variable{X:Cx}{CX:CS}{k:Nat}{ff C:Sa}{fd:Ch}{ps:List Sb}{f g y:Sb}{pn pos:Pos}
def jD(M:Mk X.K C ff)(F:YV X.prog X.w X.K X.mg X.base CX0 k ff fd ps (spI C f g))(t:Z4 (k+1) X.A)(D:Gl X y)(B:X.mg y=b3 (.ref C))(E:XX X.K fd ps [])(e:f≠g)(i:ND y:=by decide):PE X (.Call (.Name y pn) [] [] pos) (lD C f g):=by
 intro aa s σ H Q I h;have base:=mC (p:=pn) (pos:=pos) M F t D B E .nil FX i aa s σ H (λv H2=>∃x dx p q,v=.ref x/\H2=DF (upd (upd H dx (.own x)) x (.ins C dx [])) x C dx f g p q/\dx≠x/\p≠x/\p≠dx/\q≠x/\q≠dx/\p≠q/\Q v (KR H x C dx f g p q)) I (λx dx h1 h2 m=>by
  refine⟨x,dx,rfl,cG,λp q b a n=>⟨rfl,x,dx,p,q,rfl,rfl,m,?_⟩⟩;have d:p≠x:=λz=>by rw[z,cG]at b;cases b
  have qx:q≠x:=λz=>by rw[z,cG]at a;cases a
  rw[cH d]at b;rw[cH qx]at a;have pd:p≠dx:=λz=>by rw[z,cG]at b;cases b
  have c:q≠dx:=λz=>by rw[z,cG]at a;cases a
  rw[cH pd]at b;rw[cH c]at a;exact⟨d,pd,qx,c,n,h x dx p q h1 h2 b a m d pd qx c n⟩)
 refine ZP base λu s' ⟨v,H2,L,o,x,dx,p,q,J,G,P,l,O,r,N,j,k⟩=>?_;subst J;subst G;refine⟨.ref x,_,L.pack (f:=f) (g:=g) (p:=p) (q:=q) (xs:=[]) (ys:=[]) cG ?_ ?_ j e,o,k⟩
 ·unfold DF
  rw[cH l,cH j,cH l,cG]
 ·unfold DF
  rw[cH r,cG]
def im{H:Hp}{x C dx p q:Sa}(c:p≠x)(b:q≠x)(a:p≠q):KR H x C dx f g p q x=b3 (.flt C dx f g p q [] [])/\KR H x C dx f g p q p=b3 (.own x)/\KR H x C dx f g p q q=b3 (.own x):=by unfold KR W6;exact⟨cG,by rw[cH c,cH a,cG],by rw[cH b,cG]⟩
def eQ{H:Hp}{x C dx p q b:Sa}(h1:b≠x)(h2:b≠dx)(c:b≠p)(a:b≠q):KR H x C dx f g p q b=H b:=by unfold KR W6 DF;rw[cH h1,cH a,cH c,cH h1,cH a,cH h1,cH c,cH h1,cH h2]
def E8(y f g:Sb):VF:=λδ=>b3 (.flt y f g 0 [],δ)
def je{K:Ag}{ml:List Nat}(v:X.K=K)(M:Mk K C ff)(F:YV X.prog X.w K X.mg X.base CX0 k ff fd ps (spI C f g))(s:Z4 (k+1) X.A)(u:Gl X y)(t:X.mg y=b3 (.ref C))(z:Ds K Sc y=b3 (b3 (.ref C)))(a:XX K fd ps [])(j:f≠g)(l:ND y:=by decide):PE X (.Call (.Name y pn) [] [] pos) (TN K ml ba (E8 y f g)):=by
 subst v;refine(jD M F s u t a j l).imp λσ H Q i=>?_;obtain⟨B,O,δ,d,δ',S,q,k⟩:=i;cases q;intro x dx p q h1 h2 E D L r J n I m;obtain⟨ex,G,eq⟩:=im (H:=H) (C:=C) (dx:=dx) (f:=f) (g:=g) r n m;have h:aM H (KR H x C dx f g p q):=λb o e=>by rw[eQ (aX e h1) (aX e h2) (aX e E) (aX e D)];exact e
 have c:aM (upd H x (.flt C dx f g p q [] [])) (KR H x C dx f g p q):=λb o e=>by
  by_cases a:b=x
  ·subst a
   rw[cG]at e;cases e;exact ex
  ·rw[cH a]at e
   exact h b o e
 exact k x _ ⟨(S.laid h1).same c,h.fr,λ_=>h,.flt (xs:=[]) (ys:=[]) ⟨C,dx,p,q,ex,⟨G,eq⟩,z⟩ .nil,S.new h1,S.fresh h1⟩
end
def Xo{P:Az}{w:Sg}{K:Ag}{mg:Sb->Option Rz}{base:Si}{y qual:Sb}{st:Sj}{ff C:Sa}{fd:Ch}{k:Nat}{f g:Sb}(F:OY K y qual st ff fd)(S:aA ["self"] ["self"] (cJ st))(c:Cls K C)(o:ZD K C f)(n:ZD K C g)(i:f≠g)(t:∀(b:Rz) (A:Cb) (outer:List Env) (s:Ad) (H:Hp) (E:XK),Z4 k (A.deeper (envOfC qual (cJ st) s.heap.objs.size ff b))->W1 (TK CX0 P w K mg base ["self"] qual (cJ st) ff b A outer s H E).nox (bH st) (tSeq (sFld K (ZH 0) (tLst KZ) f) (sFld K (ZH 0) (tLst KZ) g))):YV P w K mg base CX0 (k+1) ff fd ["self"] (spI C f g):=by
 refine F.ok S (λvs H Q E h=>?_) λb A outer s H vs Q E r h=>⟨_,t b A outer s H E r,?_⟩
 ·obtain⟨x,dx,rfl,_⟩:=h
  rfl
 ·obtain⟨x,dx,rfl,l,k⟩:=h
  have d:(start ["self"] [V.ref x])[0]?=b3 (b3 (V.ref x)):=rfl;refine⟨Ee _,λp m=>⟨.ref x,d,x,C,dx,[],rfl,?_,c,o,by simp,?_⟩⟩
  ·rw[cH (aX l m)]
   exact l
  ·refine ⟨Ee _,λq a => ⟨.ref x,d,x,C,dx,[(f,.ref p)],rfl,?_,c,n,by simp,?_⟩⟩
   ·have a:upd (upd H p (.lst [])) x (.ins C dx (UJ f (.ref p) [])) q=b5:=a
    have qx:q≠x:=λz=>by rw[z,cG]at a;cases a
    rw[cH (Dl qx),cG];rfl
   ·have a:upd (upd H p (.lst [])) x (.ins C dx (UJ f (.ref p) [])) q=b5:=a
    have qx:q≠x:=λz=>by rw[z,cG]at a;cases a
    rw[cH qx]at a;have j:q≠p:=λz=>by rw[z,cG]at a;cases a
    rw[cH j]at a;have e:UJ g (.ref q) [(f,V.ref p)]=[(f,.ref p),(g,.ref q)]:=by show(if f=g then _ else _)=_;rw[if_neg i];rfl
    have:=k p q m a (Dl j)
    unfold DF at this;rw[e];exact this
section
variable{X:Cx}{K:Ag}{ml:List Nat}{a:Sf}{es:List Sf}{pos:Pos}{x f g:Sb}{ps bs:Bool}
def dI{i:Nat}{fs:R8}(b:Bool)(R:X.K=K)(c:NA K x f g)(P:PE X a (ZH i))(N:Cd a (if b then f else g) X.env (eval a X.env)=eval a X.env)(L:PA X es (GU K ml ps bs fs))(J:Ap (.Attribute a (if b then f else g) pos::es) X.env=(bb,eval (.Attribute a (if b then f else g) pos) X.env)::Ap es X.env)(hl:ps=ba:=by rfl)(M:i∉ml:=by decide):PA X (.Attribute a (if b then f else g) pos::es) (GU K ml ps bb (cO (fA x f g b i) fs)):=by
 subst R;refine(bL (DT P N) L J).imp λσ H Q s=>?_;obtain⟨B,O,δ,d,l,S,q,k⟩:=s;obtain⟨y,δ1,xs,h1,h2,rfl⟩:=OB q;unfold fA at h1;split at h1
 ·rename_i W Y g' n ds hd
  split at h1
  ·rename_i I
   obtain⟨rfl,rfl,rfl⟩:=I;cases h1;obtain⟨o,D,A,w⟩:=S.ow i _ hd;have t:¬av B O bb o:=λz=>by
    rcases z.2 with z|⟨j,z⟩
    ·exact(S.old i o D).1 z
    ·have v:=S.par.1 j o z
     have:O j=b3 o:=(S.par.2 j v).trans z
     exact M (S.inj j i o this D▸v)
   have u:∀z,av B O bb z->Nn B O z:=λz h=>h.1;cases w with
   | @flt _ _ _ us ws _ q0 r=>
    obtain⟨C,dx,p,m,e,⟨G,F⟩,T⟩:=q0;obtain⟨E,V,U⟩:=c.cls C T;cases b with
    |true=>
     refine⟨.ref o,A,o,C,dx,_,_,p,m,us,ws,.ref p,rfl,e,E,V,lk1,B,O,δ,xs,l,S,h2,λvs H2 R2=>k _ H2 ⟨R2.sta,R2.frm,R2.pur,.cons (bB.same (R2.pur hl) (.fzm (xs:=us) (.inr (.inr ⟨o,C,dx,_,_,p,m,us,ws,G,e,t,.inl ⟨rfl,rfl⟩⟩)) ?_)) (R2.rep.mono (T5 (b:=bb) λz=>nomatch z))⟩⟩;have:=(r.mono u).take us.length
     rw[Gz]at this;exact this
    |false=>
     refine⟨.ref o,A,o,C,dx,_,_,p,m,us,ws,.ref m,rfl,e,E,U,lk2 c.ne,B,O,δ,xs,l,S,h2,λvs H2 R2=>k _ H2 ⟨R2.sta,R2.frm,R2.pur,.cons (bB.same (R2.pur hl) (.fzm (xs:=ws) (.inr (.inr ⟨o,C,dx,_,_,p,m,us,ws,F,e,t,.inr ⟨rfl,rfl⟩⟩)) ?_)) (R2.rep.mono (T5 (b:=bb) λz=>nomatch z))⟩⟩;have:=(r.mono u).drop us.length
     rw[Fq]at this;exact this
  ·cases h1
 ·cases h1
end
def NB(P:Az)(w:Sg)(K:Ag)(mg:Sb->Option Rz)(base:Si)(x m:Sb)(k:Nat)(ps:List Sb)(mF:List Nat)(n:Nat)(F:cB)(f:Sa):Prop:=∃C,DefM P w K mg base x C m k ps (spV K mF n F) f
def A4m(K:Ag)(c x q:Sb)(st:Sj)(f:Sa):Prop:=∃(C:Sa) (e:Rz) (od:Option Sa) (kV doc d:Rz) (g:Option Sa) (a ct:Rz) (b:Array (Option Rz)),
 Ds K Sc c=b3 (b3 (.ref C))/\Cls K C/\Gs K (.ref C) x=b3 (b3 (.ref f))/\W.isFn K (.ref f)=ba∧
 K.lookup f=b3 ⟨e,od,.func (Hh x q (aB st) (bH st) (cJ st) .none kV doc d g a ct),b⟩/\Jw K a q=ba/\Em K (.ref f)=ba
def Ul{P:Az}{w:Sg}{K:Ag}{mg:Sb->Option Rz}{base:Si}{c x q:Sb}{st:Sj}{f:Sa}{ps:List Sb}{mF:List Nat}{n:Nat}{F:cB}{k:Nat}(p:A4m K c x q st f)(ok:∀{fd:Ch},OY K x q st f fd->YV P w K mg base CX0 k f fd ps (spV K mF n F))(l:∀{kV doc g:Rz}{h:Option Sa}{e ct:Rz}(us:List Rz),us.length=ps.length->bindArgs (Hh x q (aB st) (bH st) (cJ st) .none kV doc g h e ct) ⟨us,[]⟩=pure (ps.zip us)):NB P w K mg base c x k ps mF n F f:=by obtain⟨C,o,od,kV,doc,g,h,e,ct,j,a,z,m,i,b,c,d⟩:=p;have U:=OD (st:=st) b c d;exact⟨C,a,z,⟨m,i,d⟩,_,ok U,U.binds λ_ _ _ _ _ _=>l⟩
def NewF(P:Az)(w:Sg)(K:Ag)(mg:Sb->Option Rz)(base:Si)(y f g:Sb):Prop:=∃C ff fd ps,Mk K C ff/\YV P w K mg base CX0 1 ff fd ps (spI C f g)/\mg y=b3 (.ref C)/\Ds K Sc y=b3 (b3 (.ref C))/\XX K fd ps []
section
variable{X:Cx}{K:Ag}{ml:List Nat}{e:Sf}{es:List Sf}{ps pu:Bool}{x f g m v:Sb}{pos ah af aq ae:Pos}{i j kk n:Nat}{fs:R8}
def Uh{pn:Pos}(h:NewF X.prog X.w K X.mg X.base x f g)(c:NA K x f g)(b:Z4 j X.A)(i:X.K=K:=by rfl)(d:2<=j:=by decide)(e:Gl X x:=by rfl)(a:ND x:=by decide):PE X (.Call (.Name x pn) [] [] pos) (TN K ml ba (E8 x f g)):=by obtain⟨C,ff,fd,ps,M,F,h1,h2,k⟩:=h;exact je i M F (b.mono d) e h1 h2 k c.ne a
def CN(c:NA K x f g)(h:PE X e (ZH i))(b:X.K=K:=by rfl)(a:Cd e f X.env (eval e X.env)=eval e X.env:=by rfl):PE X (.Attribute e f pos) (TV K ml ba bb ba (fA x f g ba i)):=Wa ba b c h a
def Vp(c:NA K x f g)(h:PE X e (ZH i))(b:X.K=K:=by rfl)(a:Cd e g X.env (eval e X.env)=eval e X.env:=by rfl):PE X (.Attribute e g pos) (TV K ml ba bb ba (fA x f g bb i)):=Wa bb b c h a
def Zk(c:NA K x f g)(h:PE X (.Name v ah) (ZH i))(j:PA X (e::es) (GU K ml pu ba fs))(k:X.K=K:=by rfl)(b:Cd (.Name v ah) f X.env (eval (.Name v ah) X.env)=eval (.Name v ah) X.env:=by rfl)(m:Cd (.Attribute (.Name v ah) f aq) "append" X.env (eval (.Attribute (.Name v ah) f aq) X.env)=eval (.Attribute (.Name v ah) f aq) X.env:=by rfl)(l:((Ct ae (Ap (e::es) X.env)).all (λx=> !x.1)&&(Gu ae (Eh [] X.env)).all (λx=>x.1.isSome)&&decide ((e::es).length+([]:List Fo).length+(if([]:List Fo).isEmpty then 0 else 1)<30))=ba:=by rfl)(n:(af.endLine==ae.line)=ba:=by rfl)(d:SE X e es:=by rfl)(o:(Ct ae (Ap es X.env)).any (·.1)=bb:=by rfl)(a:Fu (.Call (.Attribute (.Attribute (.Name v ah) f aq) "append" af) (e::es) [] ae) b5 pos.line X.env=pure bb:=by rfl):PS X (.Expr (.Call (.Attribute (.Attribute (.Name v ah) f aq) "append" af) (e::es) [] ae) pos) (V5 K ml (NW x f g ba i fs)):=CO ba k c h j b m l n d o a
def Vq(c:NA K x f g)(h:PE X (.Name v ah) (ZH i))(j:PA X (e::es) (GU K ml pu ba fs))(k:X.K=K:=by rfl)(b:Cd (.Name v ah) g X.env (eval (.Name v ah) X.env)=eval (.Name v ah) X.env:=by rfl)(m:Cd (.Attribute (.Name v ah) g aq) "append" X.env (eval (.Attribute (.Name v ah) g aq) X.env)=eval (.Attribute (.Name v ah) g aq) X.env:=by rfl)(l:((Ct ae (Ap (e::es) X.env)).all (λx=> !x.1)&&(Gu ae (Eh [] X.env)).all (λx=>x.1.isSome)&&decide ((e::es).length+([]:List Fo).length+(if([]:List Fo).isEmpty then 0 else 1)<30))=ba:=by rfl)(n:(af.endLine==ae.line)=ba:=by rfl)(d:SE X e es:=by rfl)(o:(Ct ae (Ap es X.env)).any (·.1)=bb:=by rfl)(a:Fu (.Call (.Attribute (.Attribute (.Name v ah) g aq) "append" af) (e::es) [] ae) b5 pos.line X.env=pure bb:=by rfl):PS X (.Expr (.Call (.Attribute (.Attribute (.Name v ah) g aq) "append" af) (e::es) [] ae) pos) (V5 K ml (NW x f g bb i fs)):=CO bb k c h j b m l n d o a
def vaP2{bs:Bool}(c:NA K x f g)(j:PE X e (ZH i))(b:PA X es (GU K ml ps bs fs))(k:X.K=K:=by rfl)(h:Cd e g X.env (eval e X.env)=eval e X.env:=by rfl)(a:Ap (.Attribute e g pos::es) X.env=(bb,eval (.Attribute e g pos) X.env)::Ap es X.env:=by rfl)(hl:ps=ba:=by rfl)(d:i∉ml:=by decide):PA X (.Attribute e g pos::es) (GU K ml ps bb (cO (fA x f g bb i) fs)):=dI bb k c j h b a hl d
def W8{ff:Sa}{qs:List Sb}{mF:List Nat}{F:cB}{gs:WO}{pl:Sr Bool}(D:NB X.prog X.w K X.mg X.base x m kk qs mF n F ff)(h:Z4 j X.A)(k:PE X (.Name v ah) (ZH i))(o:PA X (e::es) (KM K ml ps gs))(p:X.K=K:=by rfl)(l:f≠m/\g≠m:=by decide)(hk:kk<=j:=by decide)(a:SE X e es:=by rfl)(b:(Ct pos (Ap es X.env)).any (·.1)=bb:=by rfl)(d:eval (.Call (.Attribute (.Name v ah) m af) (e::es) [] pos) X.env=(do
   let c<-eval (.Name v ah) X.env
   Lk af.atName
   let (f,first)<-Gv [c] (Nd c m pl)
   callWith pos f first (Ct pos (Ap (e::es) X.env)) (Gu pos (Eh [] X.env))):=by rfl):
  PE X (.Call (.Attribute (.Name v ah) m af) (e::es) [] pos) (TV K ml (ps&&mF.isEmpty) ba ba (ZT x f g i n mF F gs)):=by
 obtain⟨C,D⟩:=D;exact lO p D l h hk k o a b d
end
def mq{P:Az}{w:Sg}{K:Ag}{mg:Sb->Option Rz}{base:Si}{y q f g:Sb}{st:Sj}{ff:Sa}(X:∀x a,Ds K Sc x=b3 (b3 (.ref a))->mg x=b3 (.ref a))(c:NA K y f g)(p:A4m K y "__init__" q st ff)(mk:∀C,Ds K Sc y=b3 (b3 (.ref C))->Lm K C=ba/\Em K (.ref C)=ba)(ok:∀{C:Sa}{fd:Ch},OY K "__init__" q st ff fd->Cls K C->ZD K C f->ZD K C g->YV P w K mg base CX0 1 ff fd ["self"] (spI C f g))(l:∀{kV doc h:Rz}{j:Option Sa}{e ct:Rz}(us:List Rz),us.length=1->bindArgs (Hh "__init__" q (aB st) (bH st) (cJ st) .none kV doc h j e ct) ⟨us,[]⟩=pure ((["self"]:List Sb).zip us)):NewF P w K mg base y f g:=by obtain⟨C,t,od,kV,doc,h,j,e,ct,k,a,z,m,i,b,s,d⟩:=p;have U:=OD (st:=st) b s d;obtain⟨r,o,n⟩:=c.cls C a;exact⟨C,ff,_,["self"],⟨(mk C a).1,m,i,(mk C a).2⟩,ok U r o n,X _ _ a,a,U.binds λ_ _ _ _ _ _=>l⟩
def ini2{X:Cx}{K:Ag}{f g v:Sb}{a p2 i h e d c b:Pos}(h1:PE X (.Name v a) (ZH 0))(h2:PE X (.Name v p2) (ZH 0))(j:X.K=K:=by rfl)(s1:Fu (.List [] i) (b3 (.Attribute (.Name v a) f h)) e.line X.env=pure bb:=by rfl)(s2:Fu (.List [] d) (b3 (.Attribute (.Name v p2) g c)) b.line X.env=pure bb:=by rfl):W1 X [.Assign [.Attribute (.Name v a) f h] (.List [] i) e,.Assign [.Attribute (.Name v p2) g c] (.List [] d) b] (tSeq (sFld K (ZH 0) (tLst KZ) f) (sFld K (ZH 0) (tLst KZ) g)):=by subst j;exact SW (Tv h1 (MB ZX) s1) (Zs (Tv h2 (MB ZX) s2))
def clsF{K:Ag}{x f g:Sb}{C:Sa}(h:Ds K Sc x=b3 (b3 (.ref C)))(c:Cls K C)(d:ZD K C f)(b:ZD K C g)(a:f≠g:=by decide):NA K x f g:=⟨λe h'=>by rw[h]at h';cases h';exact⟨c,d,b⟩,a⟩
def mksF{K:Ag}{x:Sb}{C:Sa}(h:Ds K Sc x=b3 (b3 (.ref C)))(h1:Lm K C=ba)(h2:Em K (.ref C)=ba):∀C,Ds K Sc x=b3 (b3 (.ref C))->Lm K C=ba/\Em K (.ref C)=ba:=λa h'=>by rw[h]at h';cases h';exact⟨h1,h2⟩
noncomputable def NH:cT->Bool
 |.non=>ba
 |_=>bb
def ioN:cT->Bool
 |.non=>ba
 |.int _=>ba
 |_=>bb
def dV:cT->V
 |.int i=>.int i
 |_=>.non
def isNo:Rz->Bool
 |.none=>ba
 |_=>bb
section
variable{X:Cx}{K:Ag}{ml:List Nat}{a b:Sf}{pa ta ia pb tb ib:Bool}{fa fb:VF}{H:Hp}
theorem Xd{N:Sa->Prop}:∀{xs:List V}{ds:List cT},b6 K N H xs ds->ds.all ioN=ba->xs=ds.map dV
 |_,_,.nil,_=>rfl
 |_,_,@b6.cons _ _ _ v vs d ds h t,e=>by
  rw[Ks,Af]at e;rw[Be,<-Xd t e.2];cases d with
  |int i=>rw[h.onI];rfl
  |non=>rw[h.onN];rfl
  |_=>cases e.1
theorem Wh:∀{ds:List cT}{us:List Rz},ds.all ioN=ba->bI (ds.map dV) us->(∀u∈us,u=.none∨∃i t,u=.int i t)/\us.countP isNo=ds.countP NH
 |[],_,_,.nil=>⟨(λ_ h=>nomatch h),rfl⟩
 | d :: ds,_,e,.cons r t => by
  rw[Ks,Af]at e;obtain⟨h1,h2⟩:=Wh e.2 t;cases d with
  |int i=>
   obtain⟨k,rfl⟩:=r;exact⟨λv a=>(Ar.mp a).elim (λz=>.inr ⟨i,k,z⟩) (h1 v),by rw[Hc,Hc,h2];rfl⟩
  |non=>
   cases r;exact⟨λv a=>(Ar.mp a).elim .inl (h1 v),by rw[Hc,Hc,h2];rfl⟩
  |_=>cases e.1
def B3(K:Ag):V->List V->Hp->VK->Prop:=λx vs H Q=>∃(l:Sa) (ds:List cT),x=.ref l/\vs=[.non]/\ds.all ioN=ba/\XV K H l (ds.map dV)/\Q (.int (ds.countP NH:Nat)) H
def iT:MtM X "list.count" (B3 X.K):=by
 intro aa s σ H x vs v us Q I f g h;obtain⟨l,ds,rfl,rfl,hd,m,q⟩:=h;cases f;obtain⟨u,rfl,j⟩:=g.one;cases j;obtain⟨its,r,⟨o,c,e,hc,a,b⟩,hz⟩:=I.list m;obtain⟨cls,dd,data,d⟩:=o;simp only at hc a b;subst hc a b;obtain⟨h1,h2⟩:=Wh hd r;refine Eu Ov ⟨_,e,rfl⟩ Nt (Mx _ _) (Nu l its.toArray c b5 d .none isNo) ⟨e,?_,?_⟩
 ·intro y k
  rcases h1 y (by simpa using k)with rfl|⟨i,t,rfl⟩
  ·exact SeqAt.EqAt.same _
  ·exact SeqAt.EqAt.int_none i t
 ·refine⟨.int (ds.countP NH:Nat),H,I.tok _,⟨s.toks,?_⟩,q⟩
  rw[My,h2]
def nI(h:X.K=K):MtM X "list.count" (B3 K):=by subst h;exact iT
def HW:cT->cT->Option cT
 |.lst ds,.non=>if ds.all ioN=ba then b3 (.int (ds.countP NH:Nat))else b5
 |_,_=>b5
def kj{af ae:Pos}(r:PE X a (TV K ml pa ta ia fa))(p:PE X b (TV K ml pb tb ib fb))(i:X.K=K:=by rfl)(u:Cd a "count" X.env (eval a X.env)=eval a X.env:=by rfl)(t:((Ct ae (Ap (b::[]) X.env)).all (λx=> !x.1)&&(Gu ae (Eh [] X.env)).all (λx=>x.1.isSome)&&decide ((b::([]:List Sf)).length+([]:List Fo).length+(if([]:List Fo).isEmpty then 0 else 1)<30))=ba:=by rfl)(v:(af.endLine==ae.line)=ba:=by rfl)(h:Ap (b::[]) X.env=(bb,eval b X.env)::Ap [] X.env:=by rfl)(w:(Ct ae (Ap [] X.env)).any (·.1)=bb:=by rfl)(hl:(pb || (ta&&ia))=ba:=by rfl):PE X (.Call (.Attribute a "count" af) [b] [] ae) (TV K ml (pa&&pb) ba ba (f2 HW fa fb)):=
 (kBm (K := K) i Ep Kv Kw (nI i) r (bL p ZX h) u t v h w).imp λσ H Q q0 => by
  obtain⟨B,O,δ,d,f,S,q,k⟩:=q0;obtain⟨x,δ1,y,h1,h2,c⟩:=QC q;unfold HW at c;split at c
  case h_2=>cases c
  rename_i ds;split at c
  case isFalse=>cases c
  rename_i hd;cases c;refine⟨B,O,δ,_,δ1,S,h1,λC H1 e=>?_⟩;obtain⟨l,xs,rfl,sq,_⟩:=e.rep.lstE;refine⟨.inl ⟨rfl,xs,sq⟩,B,O,δ1,_,f,e.sta,h2,λA H2 R2=>?_⟩;have o:=R2.rep.onN;subst o;obtain⟨D,n,s,g,r'⟩:=(R2.live hl e.rep).lstE;cases s;have:=Xd r' hd
  subst this;exact⟨l,ds,rfl,rfl,hd,g,k _ H2 ⟨R2.sta,e.frm.trans R2.frm,λz=>by obtain⟨m,j⟩:=(Af _ _).mp z;exact(e.pur m).trans (R2.pur j),.int _⟩⟩
end
end L2
namespace L2
open PySem
section
variable{α β:Type}{d x y z c:cT}{δ δ1 δ':Ev}{fa fb fc:VF}{o o':cT->cT->Option cT}{i j k n:Nat}{s:Sl}{b:Bool}{ds:List cT}
def q0(r:Option α)(δ:Ev):Option (α×Ev):=r.map λc=>(c,δ)
@[simp] theorem q0_s{a:α}:q0 (b3 a) δ=b3 (a,δ):=rfl
@[simp] theorem fC_e:fC d δ=b3 (d,δ):=rfl
noncomputable def qV:Option Sl->Ev->Option (cT×Ev)
 |some (.va d),δ=>b3 (d,δ)
 |_,_=>b5
noncomputable def qO:Option Sl->Ev->Option (cT×Ev)
 |some (.va d),δ=>b3 (d,δ)
 |some (.ow d),δ=>b3 (d,δ)
 |_,_=>b5
@[simp] theorem fV_e:fV i δ=qV δ[i]? δ:=by unfold fV qV;split<;>simp_all
@[simp] theorem fO_e:fO i δ=qO δ[i]? δ:=by unfold fO qO;split<;>simp_all
@[simp] theorem qV_s:qV (b3 (.va d)) δ=b3 (d,δ):=rfl
@[simp] theorem qO_v:qO (b3 (.va d)) δ=b3 (d,δ):=rfl
@[simp] theorem qO_o:qO (b3 (.ow d)) δ=b3 (d,δ):=rfl
def q1(o:cT->Option cT)(r:Option (cT×Ev)):Option (cT×Ev):=r.bind λp=>q0 (o p.1) p.2
@[simp] theorem f1_e{o:cT->Option cT}:f1 o fa δ=q1 o (fa δ):=rfl
@[simp] theorem q1_s{o:cT->Option cT}:q1 o (b3 (x,δ))=q0 (o x) δ:=rfl
def q2(o:cT->cT->Option cT)(r:Option (cT×Ev))(fb:VF):Option (cT×Ev):=r.bind λp=>(fb p.2).bind λq=>q0 (o p.1 q.1) q.2
def q2b(o:cT->cT->Option cT)(x:cT)(r:Option (cT×Ev)):Option (cT×Ev):=r.bind λq=>q0 (o x q.1) q.2
@[simp] theorem f2_e:f2 o fa fb δ=q2 o (fa δ) fb:=rfl
@[simp] theorem q2_s:q2 o (b3 (x,δ)) fb=q2b o x (fb δ):=rfl
@[simp] theorem tK:q2b o x (b3 (y,δ))=q0 (o x y) δ:=rfl
noncomputable def q3(o o':cT->cT->Option cT)(r:Option (cT×Ev))(fb fc:VF):Option (cT×Ev):=r.bind λp=>(fb p.2).bind λq=>(o p.1 q.1).bind λz=>match z with
 |.bl ba=>(fc q.2).bind λs=>(o' q.1 s.1).map λu=>(u,s.2)
 |.bl bb=>b3 (.bl bb,q.2)
 |_=>b5
def q3b(o o':cT->cT->Option cT)(x:cT)(r:Option (cT×Ev))(fc:VF):Option (cT×Ev):=q3 o o' (b3 (x,[])) (λ_=>r) fc
noncomputable def q3c(o':cT->cT->Option cT)(y:cT)(δ:Ev)(fc:VF):Option cT->Option (cT×Ev)
 |some (.bl ba)=>q2b o' y (fc δ)
 |some (.bl bb)=>b3 (.bl bb,δ)
 |_=>b5
@[simp] theorem f3_e:f3 o o' fa fb fc δ=q3 o o' (fa δ) fb fc:=rfl
@[simp] theorem q3_s:q3 o o' (b3 (x,δ)) fb fc=q3b o o' x (fb δ) fc:=rfl
@[simp] theorem oM:q3b o o' x (b3 (y,δ)) fc=q3c o' y δ fc (o x y):=by
 simp only[q3b,q3,Ay];cases o x y with
 |none=>rfl
 |some z=>cases z with
  |bl b=>cases b<;>rfl
  |_=>rfl
@[simp] theorem pC:q3c o' y δ fc (b3 (.bl ba))=q2b o' y (fc δ):=rfl
@[simp] theorem pW:q3c o' y δ fc (b3 (.bl bb))=b3 (.bl bb,δ):=rfl
noncomputable def qc(r:Option (cT×Ev))(fs:R8):Option (List cT×Ev):=r.bind λp=>(fs p.2).map λq=>(p.1::q.1,q.2)
noncomputable def qcb(x:cT)(r:Option (List cT×Ev)):Option (List cT×Ev):=r.map λq=>(x::q.1,q.2)
@[simp] theorem uC:bO δ=b3 ([],δ):=rfl
@[simp] theorem sw{fs:R8}:cO fa fs δ=qc (fa δ) fs:=rfl
@[simp] theorem qc_s{fs:R8}:qc (b3 (x,δ)) fs=qcb x (fs δ):=rfl
@[simp] theorem sT:qcb x (b3 (ds,δ))=b3 (x::ds,δ):=rfl
noncomputable def qT(g:List cT->cT)(r:Option (List cT×Ev)):Option (cT×Ev):=r.bind λp=>if p.1.length<=16777216 then b3 (g p.1,p.2)else b5
@[simp] theorem sG{fs:R8}:aH fs δ=qT .tup (fs δ):=rfl
@[simp] theorem tz{fs:R8}:XW fs δ=qT .lst (fs δ):=rfl
@[simp] theorem qT_s{g:List cT->cT}:qT g (b3 (ds,δ))=if ds.length<=16777216 then b3 (g ds,δ)else b5:=rfl
noncomputable def qB:Option (cT×Ev)->Option (Bool×Ev)
 |some (.bl k,δ)=>b3 (k,δ)
 |_=>b5
@[simp] theorem fB_e:fB fa δ=qB (fa δ):=by
 unfold fB qB;cases fa δ with
 |none=>rfl
 |some p=>
  obtain⟨d,e⟩:=p;cases d<;>rfl
@[simp] theorem qB_s:qB (b3 (.bl b,δ))=b3 (b,δ):=rfl
variable{tb tb':VB}{g g':VS}
noncomputable def qAnd(r:Option (Bool×Ev))(y:VB):Option (Bool×Ev):=r.bind λp=>if p.1=ba then y p.2 else b3 (bb,p.2)
noncomputable def qOr(r:Option (Bool×Ev))(y:VB):Option (Bool×Ev):=r.bind λp=>if p.1=ba then b3 (ba,p.2)else y p.2
noncomputable def qNot(r:Option (Bool×Ev)):Option (Bool×Ev):=r.map λp=>(!p.1,p.2)
@[simp] theorem sZ:NE tb tb' δ=qAnd (tb δ) tb':=rfl
@[simp] theorem uT:GK tb tb' δ=qOr (tb δ) tb':=rfl
@[simp] theorem qk:VY tb δ=qNot (tb δ):=rfl
@[simp] theorem Vr:U2 δ=b3 (ba,δ):=rfl
@[simp] theorem tX:qAnd (b3 (ba,δ)) tb=tb δ:=rfl
@[simp] theorem rR:qAnd (b3 (bb,δ)) tb=b3 (bb,δ):=rfl
@[simp] theorem t6:qOr (b3 (ba,δ)) tb=b3 (ba,δ):=rfl
@[simp] theorem tu:qOr (b3 (bb,δ)) tb=tb δ:=rfl
@[simp] theorem rh:qNot (b3 (b,δ))=b3 (!b,δ):=rfl
noncomputable def qA(r:Option (cT×Ev))(y:VF):Option (cT×Ev):=r.bind λp=>match p.1 with
 |.bl ba=>y p.2
 |.bl bb=>b3 (.bl bb,p.2)
 |_=>b5
@[simp] theorem qP:fAnd fa fb δ=qA (fa δ) fb:=rfl
@[simp] theorem qA_t:qA (b3 (.bl ba,δ)) fb=fb δ:=rfl
@[simp] theorem qA_f:qA (b3 (.bl bb,δ)) fb=b3 (.bl bb,δ):=rfl
def qI(r:Option (Bool×Ev))(x y:VF):Option (cT×Ev):=r.bind λp=>if p.1=ba then x p.2 else y p.2
@[simp] theorem rG:K1 tb fa fb δ=qI (tb δ) fa fb:=rfl
@[simp] theorem qI_t:qI (b3 (ba,δ)) fa fb=fa δ:=rfl
@[simp] theorem qI_f:qI (b3 (bb,δ)) fa fb=fb δ:=rfl
def qS(r:Option Ou)(g:VS):Option Ou:=r.bind λo=>match o with
 |.nx δ'=>g δ'
 |o=>b3 o
@[simp] theorem pL:aW δ=b3 (.nx δ):=rfl
@[simp] theorem iZ:b8 g g' δ=qS (g δ) g':=rfl
@[simp] theorem qS_n:qS (b3 (.nx δ)) g=g δ:=rfl
@[simp] theorem qS_r:qS (b3 (.rt d δ)) g=b3 (.rt d δ):=rfl
@[simp] theorem qS_b:qS (b3 (.bk δ)) g=b3 (.bk δ):=rfl
@[simp] theorem qS_c:qS (b3 (.ct δ)) g=b3 (.ct δ):=rfl
def qJ(r:Option (Bool×Ev))(x y:VS):Option Ou:=r.bind λp=>if p.1=ba then x p.2 else y p.2
@[simp] theorem Vs:Y5 tb g g' δ=qJ (tb δ) g g':=rfl
@[simp] theorem qJ_t:qJ (b3 (ba,δ)) g g'=g δ:=rfl
@[simp] theorem qJ_f:qJ (b3 (bb,δ)) g g'=g' δ:=rfl
noncomputable def qRet(r:Option (cT×Ev)):Option Ou:=r.map λp=>.rt p.1 p.2
def Vy(r:Option (cT×Ev)):Option Ou:=r.map λp=>.nx p.2
@[simp] theorem rp:bY fa δ=qRet (fa δ):=rfl
@[simp] theorem qY:qRet (b3 (d,δ))=b3 (.rt d δ):=rfl
@[simp] theorem sQ:UX fa δ=Vy (fa δ):=rfl
@[simp] theorem sX:Vy (b3 (d,δ))=b3 (.nx δ):=rfl
noncomputable def qx(f:cT->Sl)(r:Option (cT×Ev)):Option (Sl×Ev):=r.map λp=>(f p.1,p.2)
@[simp] theorem xV_e:xV fa δ=qx .va (fa δ):=rfl
@[simp] theorem xO_e:xO fa δ=qx .ow (fa δ):=rfl
@[simp] theorem qx_s{f:cT->Sl}:qx f (b3 (d,δ))=b3 (f d,δ):=rfl
noncomputable def qSet(i:Nat)(r:Option (Sl×Ev)):Option Ou:=r.bind λp=>if i<p.2.length then b3 (.nx (p.2.set i p.1))else b5
@[simp] theorem uo{x:VX}:Z5 i x δ=qSet i (x δ):=rfl
@[simp] theorem tW:qSet i (b3 (s,δ))=if i<δ.length then b3 (.nx (δ.set i s))else b5:=rfl
noncomputable def qP2(i j:Nat)(r:Option (Sl×Ev))(y:VX):Option Ou:=r.bind λp=>(y p.2).bind λq=>if i<q.2.length/\j<q.2.length then b3 (.nx ((q.2.set j q.1).set i p.1))else b5
noncomputable def qP2b(i j:Nat)(s:Sl)(r:Option (Sl×Ev)):Option Ou:=r.bind λq=>if i<q.2.length/\j<q.2.length then b3 (.nx ((q.2.set j q.1).set i s))else b5
@[simp] theorem tw{x y:VX}:F2 i j x y δ=qP2 i j (x δ) y:=rfl
@[simp] theorem rP{y:VX}:qP2 i j (b3 (s,δ)) y=qP2b i j s (y δ):=rfl
@[simp] theorem so{s':Sl}:qP2b i j s (b3 (s',δ))=if i<δ.length/\j<δ.length then b3 (.nx ((δ.set j s').set i s))else b5:=rfl
@[simp] theorem LI:gN i d δ=b3 (δ.set i (.va d)):=rfl
def qg(r:Option Ev)(gs:VGs)(ds:List cT):Option Ev:=r.bind λδ1=>gs ds δ1
@[simp] theorem sL:WD [] δ=b3 δ:=rfl
@[simp] theorem pM{gg:VG}{gs:VGs}:aN gg gs (d::ds) δ=qg (gg d δ) gs ds:=rfl
@[simp] theorem qg_s{gs:VGs}:qg (b3 δ) gs ds=gs ds δ:=rfl
@[simp] theorem rJ{gs:VGs}:FC n gs (.tup ds) δ=if ds.length=n then gs ds δ else b5:=rfl
@[simp] theorem pR{gs:VGs}:FC n gs (.lst ds) δ=if ds.length=n then gs ds δ else b5:=rfl
noncomputable def qAsg(r:Option (cT×Ev))(gg:VG):Option Ou:=r.bind λp=>(gg p.1 p.2).map Ou.nx
@[simp] theorem uS{gg:VG}:NJ fa gg δ=qAsg (fa δ) gg:=rfl
@[simp] theorem oT{gg:VG}:qAsg (b3 (d,δ)) gg=(gg d δ).map Ou.nx:=rfl
def qM(i:Nat)(m:List cT->List cT->Option (List cT))(r:Option (List cT))(δ:Ev)(fs:R8):Option Ou:=r.bind λ_=>(fs δ).bind λp=>(V3 p.2 i).bind λds=>(m ds p.1).map λa=>.nx (p.2.set i (.ow (.lst a)))
def qMb(i:Nat)(m:List cT->List cT->Option (List cT))(r:Option (List cT×Ev)):Option Ou:=r.bind λp=>(V3 p.2 i).bind λds=>(m ds p.1).map λa=>.nx (p.2.set i (.ow (.lst a)))
noncomputable def qMc(i:Nat)(m:List cT->List cT->Option (List cT))(es:List cT)(δ:Ev)(r:Option (List cT)):Option Ou:=r.bind λds=>(m ds es).map λa=>.nx (δ.set i (.ow (.lst a)))
noncomputable def qMd(i:Nat)(δ:Ev)(r:Option (List cT)):Option Ou:=r.map λa=>.nx (δ.set i (.ow (.lst a)))
@[simp] theorem u8{m:List cT->List cT->Option (List cT)}{fs:R8}:MJ i m fs δ=qM i m (V3 δ i) δ fs:=rfl
@[simp] theorem qM_s{m:List cT->List cT->Option (List cT)}{fs:R8}:qM i m (b3 ds) δ fs=qMb i m (fs δ):=rfl
@[simp] theorem oh{m:List cT->List cT->Option (List cT)}{es:List cT}:qMb i m (b3 (es,δ))=qMc i m es δ (V3 δ i):=rfl
@[simp] theorem qu{m:List cT->List cT->Option (List cT)}{es:List cT}:qMc i m es δ (b3 ds)=qMd i δ (m ds es):=rfl
@[simp] theorem tP:qMd i δ (b3 ds)=b3 (.nx (δ.set i (.ow (.lst ds)))):=rfl
noncomputable def qOl:Option Sl->Option (List cT)
 |some (.ow (.lst ds))=>b3 ds
 |_=>b5
@[simp] theorem uP:V3 δ i=qOl δ[i]? :=by unfold V3 qOl;split<;>simp_all
@[simp] theorem qU:qOl (b3 (.ow (.lst ds)))=b3 ds:=rfl
@[simp] theorem oE:FO ds [d]=if ds.length<16777216 then b3 (ds++[d])else b5:=rfl
noncomputable def qOd:Option Sl->Option (List aQ×List cT)
 |some (.ow (.dct ks ds))=>b3 (ks,ds)
 |_=>b5
@[simp] theorem rD:WY δ i=qOd δ[i]? :=by unfold WY qOd;split<;>simp_all
@[simp] theorem sO{ks:List aQ}:qOd (b3 (.ow (.dct ks ds)))=b3 (ks,ds):=rfl
def qL(i:Nat)(r:Option (cT×Ev))(fi:VF):Option Ou:=r.bind λp=>(V3 p.2 i).bind λ_=>(fi p.2).bind λq=>(V3 q.2 i).bind λds=>match q.1 with
 |.int k=>(KQ ds.length k).map λj=>.nx (q.2.set i (.ow (.lst (ds.set j p.1))))
 |_=>b5
def qLb(i:Nat)(x:cT)(r:Option (List cT))(δ:Ev)(fi:VF):Option Ou:=r.bind λ_=>(fi δ).bind λq=>(V3 q.2 i).bind λds=>match q.1 with
 |.int k=>(KQ ds.length k).map λj=>.nx (q.2.set i (.ow (.lst (ds.set j x))))
 |_=>b5
def qLc(i:Nat)(x:cT)(r:Option (cT×Ev)):Option Ou:=r.bind λq=>(V3 q.2 i).bind λds=>match q.1 with
 |.int k=>(KQ ds.length k).map λj=>.nx (q.2.set i (.ow (.lst (ds.set j x))))
 |_=>b5
def qLd(i:Nat)(x:cT)(k:Int)(δ:Ev)(r:Option (List cT)):Option Ou:=r.bind λds=>(KQ ds.length k).map λj=>.nx (δ.set i (.ow (.lst (ds.set j x))))
@[simp] theorem tF{fi fv:VF}:F3 i fi fv δ=qL i (fv δ) fi:=rfl
@[simp] theorem qL_s{fi:VF}:qL i (b3 (x,δ)) fi=qLb i x (V3 δ i) δ fi:=rfl
@[simp] theorem pZ{fi:VF}:qLb i x (b3 ds) δ fi=qLc i x (fi δ):=rfl
@[simp] theorem si{k:Int}:qLc i x (b3 (.int k,δ))=qLd i x k δ (V3 δ i):=rfl
@[simp] theorem qj{k:Int}:qLd i x k δ (b3 ds)=(KQ ds.length k).map λj=>.nx (δ.set i (.ow (.lst (ds.set j x)))):=rfl
def qi(r:Option (cT×Ev)):Option (List cT×Ev):=r.bind λp=>(WZ p.1).map λds=>(ds,p.2)
@[simp] theorem rq:Q9 fa δ=qi (fa δ):=rfl
@[simp] theorem qi_t:qi (b3 (.tup ds,δ))=b3 (ds,δ):=rfl
@[simp] theorem qi_l:qi (b3 (.lst ds,δ))=b3 (ds,δ):=rfl
noncomputable def qr1:Option (cT×Ev)->Option (List cT×Ev)
 |some (.int j,δ)=>if -4611686018427387904<=j/\j<4611686018427387904 then b3 (TQ 0 j.toNat,δ)else b5
 |_=>b5
@[simp] theorem oR:iR1 fa δ=qr1 (fa δ):=by
 unfold iR1 qr1;cases fa δ with
 |none=>rfl
 |some p=>
  obtain⟨d,e⟩:=p;cases d<;>rfl
@[simp] theorem oB{j:Int}:qr1 (b3 (.int j,δ))=if -4611686018427387904<=j/\j<4611686018427387904 then b3 (TQ 0 j.toNat,δ)else b5:=rfl
def qe(r:Option (cT×Ev)):Option (List cT×Ev):=r.bind λp=>(WZ p.1).map λds=>(TL 0 ds,p.2)
@[simp] theorem oQ:BD fa δ=qe (fa δ):=rfl
@[simp] theorem qe_t:qe (b3 (.tup ds,δ))=b3 (TL 0 ds,δ):=rfl
@[simp] theorem qe_l:qe (b3 (.lst ds,δ))=b3 (TL 0 ds,δ):=rfl
def qz(r:Option (cT×Ev))(g:VF):Option (List cT×Ev):=r.bind λp=>(g p.2).bind λq=>(WZ p.1).bind λds=>(WZ q.1).map λes=>(RB ds es,q.2)
def qzb(x:cT)(r:Option (cT×Ev)):Option (List cT×Ev):=r.bind λq=>(WZ x).bind λds=>(WZ q.1).map λes=>(RB ds es,q.2)
@[simp] theorem pH:iZip fa fb δ=qz (fa δ) fb:=rfl
@[simp] theorem qz_s:qz (b3 (x,δ)) fb=qzb x (fb δ):=rfl
@[simp] theorem pP:qzb x (b3 (y,δ))=(WZ x).bind λds=>(WZ y).map λes=>(RB ds es,δ):=rfl
@[simp] theorem tT:WZ (.tup ds)=b3 ds:=rfl
@[simp] theorem oK:WZ (.lst ds)=b3 ds:=rfl
def qF(r:Option (List cT×Ev))(gg:VG)(g:VS):Option Ou:=r.bind λp=>YC gg g p.1 p.2
@[simp] theorem uf{fi:VI}{gg:VG}:MI fi gg g δ=qF (fi δ) gg g:=rfl
@[simp] theorem qF_s{gg:VG}:qF (b3 (ds,δ)) gg g=YC gg g ds δ:=rfl
def qK(ix:List Nat)(nl:Nat)(r:Option (List cT×Ev))(gg:VG)(tb:VB)(fe:VF):Option (cT×Ev):=r.bind λp=>(ZJ ix.length nl gg tb fe p.1 [] (Z8 ix p.2)).map λq=>(.lst q.1,YO ix q.2 p.2)
def qKb(ix:List Nat)(δ:Ev)(r:Option (List cT×Ev)):Option (cT×Ev):=r.map λq=>(.lst q.1,YO ix q.2 δ)
@[simp] theorem pJ{ix:List Nat}{nl:Nat}{fi:VI}{gg:VG}:W5 ix nl fi gg tb fa δ=qK ix nl (fi δ) gg tb fa:=rfl
@[simp] theorem qK_s{ix:List Nat}{nl:Nat}{gg:VG}:qK ix nl (b3 (ds,δ)) gg tb fa=qKb ix δ (ZJ ix.length nl gg tb fa ds [] (Z8 ix δ)):=rfl
@[simp] theorem rV{ix:List Nat}:qKb ix δ (b3 (ds,δ1))=b3 (.lst ds,YO ix δ1 δ):=rfl
variable{as:List AV}{fs:WO}{mF:List Nat}{F:cB}
noncomputable def qa(r:Option (cT×Ev))(fs:WO):Option (List AV×Ev):=r.bind λp=>(fs p.2).map λq=>(.d p.1::q.1,q.2)
noncomputable def qab(x:AV)(r:Option (List AV×Ev)):Option (List AV×Ev):=r.map λq=>(x::q.1,q.2)
@[simp] theorem md:bZ δ=b3 ([],δ):=rfl
@[simp] theorem ES:aE fa fs δ=qa (fa δ) fs:=rfl
@[simp] theorem qa_s:qa (b3 (x,δ)) fs=qab (.d x) (fs δ):=rfl
@[simp] theorem Sv{a:AV}:qab a (b3 (as,δ))=b3 (a::as,δ):=rfl
def qao(j:Nat)(r:Option cT)(δ:Ev)(fs:WO):Option (List AV×Ev):=r.bind λ_=>qab (.o j) (fs δ)
@[simp] theorem aO_e:aO j fs δ=qao j (slot δ j) δ fs:=rfl
@[simp] theorem nP:qao j (b3 d) δ fs=qab (.o j) (fs δ):=rfl
noncomputable def qsl:Option Sl->Option cT
 |some (.va d)=>b3 d
 |some (.ow d)=>b3 d
 |_=>b5
@[simp] theorem tH:slot δ j=qsl δ[j]? :=by unfold slot qsl;split<;>simp_all
@[simp] theorem sP:qsl (b3 (.va d))=b3 d:=rfl
@[simp] theorem uO:qsl (b3 (.ow d))=b3 d:=rfl
@[simp] theorem sS:WW δ []=b3 []:=rfl
@[simp] theorem pq:WW δ (.d d::as)=(WW δ as).map λds=>d::ds:=rfl
@[simp] theorem sj:WW δ (.o j::as)=(slot δ j).bind λd=>(WW δ as).map λds=>d::ds:=rfl
def Um(n:Nat)(mF:List Nat)(F:cB)(r:Option (List AV×Ev)):Option (cT×Ev):=r.bind λp=>(WW p.2 p.1).bind λds=>if ds.length=n/\T7 mF p.1 p.2=ba then(F ds).bind λq=>if U3 mF p.1 q.1 q.2=ba then b3 (q.1,UW p.1 mF q.2 p.2)else b5 else b5
def qCb(n:Nat)(mF:List Nat)(F:cB)(as:List AV)(δ:Ev)(r:Option (List cT)):Option (cT×Ev):=r.bind λds=>if ds.length=n/\T7 mF as δ=ba then(F ds).bind λq=>if U3 mF as q.1 q.2=ba then b3 (q.1,UW as mF q.2 δ)else b5 else b5
def qCc(mF:List Nat)(as:List AV)(δ:Ev)(r:Option (cT×List cT)):Option (cT×Ev):=r.bind λq=>if U3 mF as q.1 q.2=ba then b3 (q.1,UW as mF q.2 δ)else b5
@[simp] theorem M4:cE n mF F fs δ=Um n mF F (fs δ):=rfl
@[simp] theorem Zz:Um n mF F (b3 (as,δ))=qCb n mF F as δ (WW δ as):=rfl
@[simp] theorem lS:qCb n mF F as δ (b3 ds)=if ds.length=n/\T7 mF as δ=ba then qCc mF as δ (F ds)else b5:=rfl
@[simp] theorem iw{os:List cT}:qCc mF as δ (b3 (d,os))=if U3 mF as d os=ba then b3 (d,UW as mF os δ)else b5:=rfl
@[simp] theorem oX:BL δ as i=(match as[i]? with
 |some (.o j)=>match δ[j]? with
  |some (.ow _)=>ba
  |_=>bb
 |_=>bb):=rfl
@[simp] theorem oC:WF []=[]:=rfl
@[simp] theorem oz:WF (.d d::as)=WF as:=rfl
@[simp] theorem oj:WF (.o j::as)=j::WF as:=rfl
@[simp] theorem qb:T7 mF as δ=(mF.all (BL δ as)&&decide (WF as).Nodup):=rfl
@[simp] theorem qm:X2 mF [] i=ba:=rfl
@[simp] theorem oG:X2 mF (.d d::as) i=X2 mF as (i+1):=rfl
@[simp] theorem r6:X2 mF (.o j::as) i=(decide (i∈mF)&&X2 mF as (i+1)):=rfl
@[simp] theorem uN{os:List cT}:U3 mF as d os=((X2 mF as 0 || d.hard)&&(X2 mF as 0 || os.all PK)&&decide (mF.length=os.length)):=rfl
@[simp] theorem rH{os:List cT}:UW as [] os δ=δ:=by cases os<;>rfl
@[simp] theorem o9{os:List cT}{is:List Nat}:UW as (i::is) (d::os) δ=(match as[i]? with
  |some (.o j)=>UW as is os (δ.set j (.ow d))
  |_=>UW as is os δ):=rfl
@[simp] theorem o8:dflt F d ds=F (ds++[d]):=rfl
noncomputable def qins(r:Option (cT×List cT)):Option (cT×List cT):=r.map λq=>(q.1,q.2.dropLast)
@[simp] theorem uw:insD i F ds=qins (F (ds.take i++ .dct [] []::ds.drop i)):=rfl
@[simp] theorem uc{os:List cT}:qins (b3 (d,os))=b3 (d,os.dropLast):=rfl
def qH(n:Nat)(mF:List Nat)(tb:List (Sb×cB))(fs:WO)(δ:Ev):Option Sl->Option (cT×Ev)
 |some (.va (.fn x))=>(WK tb x).bind λF=>cE n mF F fs δ
 |_=>b5
@[simp] theorem nZ{tb:List (Sb×cB)}:LG n mF tb i fs δ=qH n mF tb fs δ δ[i]? :=by unfold LG qH;split<;>simp_all
@[simp] theorem qH_s{tb:List (Sb×cB)}{x:Sb}:qH n mF tb fs δ (b3 (.va (.fn x)))=(WK tb x).bind λF=>cE n mF F fs δ:=rfl
@[simp] theorem oU:pNo δ=b3 (b5,δ):=rfl
noncomputable def qpS:Option (cT×Ev)->Option (Option Int×Ev)
 |some (.int i,δ)=>b3 (b3 i,δ)
 |_=>b5
@[simp] theorem tE:pSo fa δ=qpS (fa δ):=by
 unfold pSo qpS;cases fa δ with
 |none=>rfl
 |some p=>
  obtain⟨d,e⟩:=p;cases d<;>rfl
@[simp] theorem rF{i:Int}:qpS (b3 (.int i,δ))=b3 (b3 i,δ):=rfl
def qSl(r:Option (cT×Ev))(fl fh:VP):Option (cT×Ev):=r.bind λp=>(fl p.2).bind λl=>(fh l.2).bind λu=>(oSl p.1 l.1 u.1).map λc=>(c,u.2)
def qSlb(x:cT)(r:Option (Option Int×Ev))(fh:VP):Option (cT×Ev):=r.bind λl=>(fh l.2).bind λu=>(oSl x l.1 u.1).map λc=>(c,u.2)
def qSlc(x:cT)(l:Option Int)(r:Option (Option Int×Ev)):Option (cT×Ev):=r.bind λu=>q0 (oSl x l u.1) u.2
@[simp] theorem tR{fl fh:VP}:fSl fa fl fh δ=qSl (fa δ) fl fh:=rfl
@[simp] theorem rf{fl fh:VP}:qSl (b3 (x,δ)) fl fh=qSlb x (fl δ) fh:=rfl
@[simp] theorem rY{l:Option Int}{fh:VP}:qSlb x (b3 (l,δ)) fh=qSlc x l (fh δ):=rfl
@[simp] theorem sH{l u:Option Int}:qSlc x l (b3 (u,δ))=q0 (oSl x l u) δ:=rfl
@[simp] theorem qZ{l u:Option Int}:oSl (.tup ds) l u=b3 (.tup (LD ds l u)):=rfl
@[simp] theorem tJ{l u:Option Int}:oSl (.lst ds) l u=b3 (.lst (LD ds l u)):=rfl
noncomputable def qSt(i j:Nat):Option (cT×Ev)->Option Ou
 |some (.tup (d::ds),δ)=>b3 (.nx ((δ.set i (.va d)).set j (.va (.lst ds))))
 |_=>b5
@[simp] theorem sK:J4 i j fa δ=qSt i j (fa δ):=by
 unfold J4 qSt;cases fa δ with
 |none=>rfl
 |some p=>
  obtain⟨d,e⟩:=p;cases d with
  |tup ds=>cases ds<;>rfl
  |_=>rfl
@[simp] theorem tL:qSt i j (b3 (.tup (d::ds),δ))=b3 (.nx ((δ.set i (.va d)).set j (.va (.lst ds)))):=rfl
def qDg(i:Nat)(r:Option (List aQ×List cT))(δ:Ev)(fk fx:VF):Option (cT×Ev):=r.bind λ_=>(fk δ).bind λp=>(fx p.2).bind λq=>(U8 p.1).bind λk=>(WY q.2 i).map λz=>((bJ z.1 z.2 k).getD q.1,q.2)
def qDgb(i:Nat)(r:Option (cT×Ev))(fx:VF):Option (cT×Ev):=r.bind λp=>(fx p.2).bind λq=>(U8 p.1).bind λk=>(WY q.2 i).map λz=>((bJ z.1 z.2 k).getD q.1,q.2)
def qDgc(i:Nat)(x:cT)(r:Option (cT×Ev)):Option (cT×Ev):=r.bind λq=>(U8 x).bind λk=>(WY q.2 i).map λz=>((bJ z.1 z.2 k).getD q.1,q.2)
@[simp] theorem qR:HD i fa fb δ=qDg i (WY δ i) δ fa fb:=rfl
@[simp] theorem nV{z:List aQ×List cT}:qDg i (b3 z) δ fa fb=qDgb i (fa δ) fb:=rfl
@[simp] theorem oV:qDgb i (b3 (x,δ)) fb=qDgc i x (fb δ):=rfl
@[simp] theorem tN:qDgc i x (b3 (y,δ))=(U8 x).bind λk=>(WY δ i).map λz=>((bJ z.1 z.2 k).getD y,δ):=rfl
def qDp(i:Nat)(r:Option (cT×Ev))(fk:VF):Option Ou:=r.bind λp=>(WY p.2 i).bind λ_=>(fk p.2).bind λq=>(U8 q.1).bind λk=>(WY q.2 i).bind λz=>if z.1.length<16777216/\z.1.Nodup then b3 (.nx (q.2.set i (.ow (let r:=YT z.1 z.2 k p.1;.dct r.1 r.2))))else b5
def qDpb(i:Nat)(x:cT)(r:Option (List aQ×List cT))(δ:Ev)(fk:VF):Option Ou:=r.bind λ_=>(fk δ).bind λq=>(U8 q.1).bind λk=>(WY q.2 i).bind λz=>if z.1.length<16777216/\z.1.Nodup then b3 (.nx (q.2.set i (.ow (let r:=YT z.1 z.2 k x;.dct r.1 r.2))))else b5
def qDpc(i:Nat)(x:cT)(r:Option (cT×Ev)):Option Ou:=r.bind λq=>(U8 q.1).bind λk=>(WY q.2 i).bind λz=>if z.1.length<16777216/\z.1.Nodup then b3 (.nx (q.2.set i (.ow (.dct (YT z.1 z.2 k x).1 (YT z.1 z.2 k x).2))))else b5
@[simp] theorem sk{fk fv:VF}:J2 i fk fv δ=qDp i (fv δ) fk:=rfl
@[simp] theorem rK{fk:VF}:qDp i (b3 (x,δ)) fk=qDpb i x (WY δ i) δ fk:=rfl
@[simp] theorem pw{z:List aQ×List cT}{fk:VF}:qDpb i x (b3 z) δ fk=qDpc i x (fk δ):=rfl
@[simp] theorem uD:qDpc i x (b3 (y,δ))=(U8 y).bind λk=>(WY δ i).bind λz=>if z.1.length<16777216/\z.1.Nodup then b3 (.nx (δ.set i (.ow (.dct (YT z.1 z.2 k x).1 (YT z.1 z.2 k x).2))))else b5:=rfl
@[simp] theorem uI{i:Int}:U8 (.int i)=b3 (.inl i):=rfl
@[simp] theorem t4{s:Sb}:U8 (.str s)=b3 (.inr s):=rfl
def qPc(r:Option (cT×Ev))(fv:VF)(fs:ER):Option (List (aQ×cT)×Ev):=r.bind λp=>(U8 p.1).bind λk=>(fv p.2).bind λq=>(fs q.2).map λr=>((k,q.1)::r.1,r.2)
noncomputable def qPcb(k:Option aQ)(δ:Ev)(fv:VF)(fs:ER):Option (List (aQ×cT)×Ev):=k.bind λk=>(fv δ).bind λq=>(fs q.2).map λr=>((k,q.1)::r.1,r.2)
noncomputable def qPcc(k:aQ)(r:Option (cT×Ev))(fs:ER):Option (List (aQ×cT)×Ev):=r.bind λq=>(fs q.2).map λr=>((k,q.1)::r.1,r.2)
noncomputable def qPcd(k:aQ)(x:cT)(r:Option (List (aQ×cT)×Ev)):Option (List (aQ×cT)×Ev):=r.map λr=>((k,x)::r.1,r.2)
@[simp] theorem oo:Tb δ=b3 ([],δ):=rfl
@[simp] theorem sv{fs:ER}:OR fa fb fs δ=qPc (fa δ) fb fs:=rfl
@[simp] theorem sU{fs:ER}:qPc (b3 (x,δ)) fb fs=qPcb (U8 x) δ fb fs:=rfl
@[simp] theorem qh{k:aQ}{fs:ER}:qPcb (b3 k) δ fb fs=qPcc k (fb δ) fs:=rfl
@[simp] theorem q9{k:aQ}{fs:ER}:qPcc k (b3 (x,δ)) fs=qPcd k x (fs δ):=rfl
@[simp] theorem tG{k:aQ}{a:List (aQ×cT)}:qPcd k x (b3 (a,δ))=b3 ((k,x)::a,δ):=rfl
noncomputable def qD(r:Option (List (aQ×cT)×Ev)):Option (cT×Ev):=r.bind λp=>if(p.1.map Ed).Nodup/\p.1.length<=15 then b3 (.dct (p.1.map Ed) (p.1.map Fb),p.2)else b5
@[simp] theorem oF{fs:ER}:AZ fs δ=qD (fs δ):=rfl
@[simp] theorem qD_s{a:List (aQ×cT)}:qD (b3 (a,δ))=if(a.map Ed).Nodup/\a.length<=15 then b3 (.dct (a.map Ed) (a.map Fb),δ)else b5:=rfl
noncomputable def qLr(r:Option (cT×Ev))(fb fc:VF):Option (cT×Ev):=r.bind λp=>(fb p.2).bind λq=>(fc q.2).bind λr=>match p.1,q.1,r.1 with
 |.int i,.int j,.int k=>if(0<k/\k<1073741824)/\XS i j k<9223372036854775808 then b3 (.int (XS i j k),r.2)else b5
 |_,_,_=>b5
def qLrb(x:cT)(r:Option (cT×Ev))(fc:VF):Option (cT×Ev):=qLr (b3 (x,[])) (λ_=>r) fc
def qLrc(x y:cT)(r:Option (cT×Ev)):Option (cT×Ev):=qLr (b3 (x,[])) (λ_=>b3 (y,[])) (λ_=>r)
@[simp] theorem pE:HE fa fb fc δ=qLr (fa δ) fb fc:=rfl
@[simp] theorem uF:qLr (b3 (x,δ)) fb fc=qLrb x (fb δ) fc:=rfl
@[simp] theorem tM:qLrb x (b3 (y,δ)) fc=qLrc x y (fc δ):=rfl
@[simp] theorem pz{i j k:Int}:qLrc (.int i) (.int j) (b3 (.int k,δ))=if(0<k/\k<1073741824)/\XS i j k<9223372036854775808 then b3 (.int (XS i j k),δ)else b5:=rfl
def qRun(ml:List Nat):Option Ou->Option (cT×List cT)
 |some (.rt d δ)=>(SV ml δ).map λos=>(d,os)
 |some (.nx δ)=>(SV ml δ).map λos=>(.non,os)
 |_=>b5
def cA{ml:List Nat}:a8 n ml g ds=qRun ml (g (b7 ml n ds)):=by
 unfold a8 qRun;cases g (b7 ml n ds)with
 |none=>rfl
 |some o=>cases o<;>rfl
@[simp] theorem sr{ml:List Nat}:qRun ml (b3 (.rt d δ))=(SV ml δ).map λos=>(d,os):=rfl
@[simp] theorem uU{ml:List Nat}:qRun ml (b3 (.nx δ))=(SV ml δ).map λos=>(.non,os):=rfl
def qow:Option Sl->Option cT
 |some (.ow d)=>b3 d
 |_=>b5
@[simp] theorem rZ:SV [] δ=b3 []:=rfl
@[simp] theorem sE{ml:List Nat}:SV (i::ml) δ=(qow δ[i]?).bind λd=>(SV ml δ).map λos=>d::os:=by
 unfold SV;rw[Qp];cases h:(δ[i]? :Option Sl)with
 |none=>rfl
 | some s => cases s with
  |no=>rfl
  |va d=>rfl
  |ow d=>
   show(Option.bind _ λos=>b3 (d::os))=Option.map (λos=>d::os) _;cases (List.mapM _ ml:Option (List cT))<;>rfl
@[simp] theorem oq:qow (b3 (.ow d))=b3 d:=rfl
end
section
variable{i j:Int}{x y:Sb}{ds es:List cT}
@[simp] theorem oI_e{C:Int->Int->Bool}{g:Int->Int->cT}:oI C g (.int i) (.int j)=if C i j=ba then b3 (g i j)else b5:=rfl
@[simp] theorem qQ:aR (.int i) (.int j)=b3 (.int (i+j)):=rfl
@[simp] theorem rC:aR (.tup ds) (.tup es)=if ds.length+es.length<=16777216 then b3 (.tup (ds++es))else b5:=rfl
@[simp] theorem qE:aR (.lst ds) (.lst es)=if ds.length+es.length<=16777216 then b3 (.lst (ds++es))else b5:=rfl
@[simp] theorem qy{g:Int->Int->Int}:o2I g (.int i) (.int j)=b3 (.int (g i j)):=rfl
@[simp] theorem uj:YY (.tup ds)=b3 (.int ds.length):=rfl
@[simp] theorem rW:YY (.lst ds)=b3 (.int ds.length):=rfl
@[simp] theorem pF:L7 (.tup ds)=b3 (.lst ds):=rfl
@[simp] theorem pB:L7 (.lst ds)=b3 (.lst ds):=rfl
@[simp] theorem oY:OO (.tup ds)=b3 (.tup ds):=rfl
@[simp] theorem o6:OO (.lst ds)=b3 (.tup ds):=rfl
@[simp] theorem qr:bV (.tup ds) (.int i)=UR ds i:=rfl
@[simp] theorem nC:bV (.lst ds) (.int i)=UR ds i:=rfl
@[simp] theorem jn{ks:List aQ}:bV (.dct ks ds) (.int i)=bJ ks ds (.inl i):=rfl
@[simp] theorem qW{ks:List aQ}:bV (.dct ks ds) (.str x)=bJ ks ds (.inr x):=rfl
@[simp] theorem uv:JY (.int i)=ba:=rfl
@[simp] theorem rj:JY .non=ba:=rfl
@[simp] theorem oJ{b:Bool}:JY (.bl b)=ba:=rfl
@[simp] theorem uG:OI "int" "bool"=b3 bb:=by decide+kernel
@[simp] theorem t8:OI "int" "int"=b3 ba:=by decide+kernel
@[simp] theorem qv:OI "tuple" "tuple"=b3 ba:=by decide+kernel
@[simp] theorem u7:OI "str" "str"=b3 ba:=by decide+kernel
@[simp] theorem sB:OI "list" "list"=b3 ba:=by decide+kernel
@[simp] theorem tI{n:String}:TM (.int i) (.ty n)=(OI "int" n).map cT.bl:=rfl
@[simp] theorem pA{n:String}:TM (.tup ds) (.ty n)=(OI "tuple" n).map cT.bl:=rfl
@[simp] theorem uu{n:String}:TM (.lst ds) (.ty n)=(OI "list" n).map cT.bl:=rfl
@[simp] theorem qX{n:String}:TM (.str x) (.ty n)=(OI "str" n).map cT.bl:=rfl
@[simp] theorem om:QQ .non .non=b3 (.bl ba):=rfl
@[simp] theorem tU:QQ (.int i) .non=b3 (.bl bb):=rfl
@[simp] theorem sy:QQ (.str x) .non=b3 (.bl bb):=rfl
@[simp] theorem rT:QQ (.tup ds) .non=b3 (.bl bb):=rfl
@[simp] theorem rX:VQ .non .non=b3 (.bl bb):=rfl
@[simp] theorem sA:VQ (.int i) .non=b3 (.bl ba):=rfl
@[simp] theorem ql:VQ (.str x) .non=b3 (.bl ba):=rfl
@[simp] theorem pI:VQ (.tup ds) .non=b3 (.bl ba):=rfl
end
section
variable{d x:cT}{δ δ1:Ev}{r acc:List cT}{gg:VG}{tb:VB}{fe:VF}{n nl:Nat}{g:VS}
def qk1(n nl:Nat)(gg:VG)(tb:VB)(fe:VF)(r acc:List cT)(o:Option Ev):Option (List cT×Ev):=o.bind λδ1=>(tb δ1).bind λp=>if p.1=ba then(fe p.2).bind λq=>if acc.length<16777216 then ZJ n nl gg tb fe r (acc++[q.1]) (q.2.take n)else b5 else ZJ n nl gg tb fe r acc (p.2.take n)
def qk2(n nl:Nat)(gg:VG)(tb:VB)(fe:VF)(r acc:List cT)(o:Option (Bool×Ev)):Option (List cT×Ev):=o.bind λp=>if p.1=ba then(fe p.2).bind λq=>if acc.length<16777216 then ZJ n nl gg tb fe r (acc++[q.1]) (q.2.take n)else b5 else ZJ n nl gg tb fe r acc (p.2.take n)
def qk3(n nl:Nat)(gg:VG)(tb:VB)(fe:VF)(r acc:List cT)(o:Option (cT×Ev)):Option (List cT×Ev):=o.bind λq=>if acc.length<16777216 then ZJ n nl gg tb fe r (acc++[q.1]) (q.2.take n)else b5
@[simp] theorem uV:ZJ n nl gg tb fe [] acc δ=b3 (acc,δ):=rfl
@[simp] theorem AX:ZJ n nl gg tb fe (d::r) acc δ=qk1 n nl gg tb fe r acc (gg d (δ++K2 nl)):=rfl
@[simp] theorem Xg:qk1 n nl gg tb fe r acc (b3 δ)=qk2 n nl gg tb fe r acc (tb δ):=rfl
@[simp] theorem Wz:qk2 n nl gg tb fe r acc (b3 (ba,δ))=qk3 n nl gg tb fe r acc (fe δ):=rfl
@[simp] theorem sR:qk2 n nl gg tb fe r acc (b3 (bb,δ))=ZJ n nl gg tb fe r acc (δ.take n):=rfl
@[simp] theorem Wr:qk3 n nl gg tb fe r acc (b3 (x,δ))=if acc.length<16777216 then ZJ n nl gg tb fe r (acc++[x]) (δ.take n)else b5:=rfl
def qf1(gg:VG)(g:VS)(r:List cT)(o:Option Ev):Option Ou:=o.bind λδ1=>(g δ1).bind (X1 (YC gg g r))
def qf2(gg:VG)(g:VS)(r:List cT)(o:Option Ou):Option Ou:=o.bind (X1 (YC gg g r))
@[simp] theorem Ww:YC gg g [] δ=b3 (.nx δ):=rfl
@[simp] theorem U4:YC gg g (d::r) δ=qf1 gg g r (gg d δ):=rfl
@[simp] theorem Q5:qf1 gg g r (b3 δ)=qf2 gg g r (g δ):=rfl
@[simp] theorem NU:qf2 gg g r (b3 (.nx δ))=YC gg g r δ:=rfl
@[simp] theorem nX:qf2 gg g r (b3 (.ct δ))=YC gg g r δ:=rfl
@[simp] theorem rl:qf2 gg g r (b3 (.bk δ))=b3 (.nx δ):=rfl
@[simp] theorem rn:qf2 gg g r (b3 (.rt d δ))=b3 (.rt d δ):=rfl
@[simp] theorem uK{ss:Ev}:YO [] ss δ=δ:=by cases ss<;>rfl
@[simp] theorem sM{i:Nat}{is:List Nat}{ss:Ev}:YO (i::is) (.ow d::ss) δ=YO is ss (δ.set i (.ow d)):=rfl
@[simp] theorem sg{i:Nat}{is:List Nat}{ss:Ev}:YO (i::is) (.va d::ss) δ=YO is ss δ:=rfl
@[simp] theorem ua{i:Nat}{is:List Nat}{ss:Ev}:YO (i::is) (.no::ss) δ=YO is ss δ:=rfl
end
@[simp] theorem Xa:K2 1=[.no]:=rfl
@[simp] theorem uL:K2 2=[.no,.no]:=rfl
@[simp] theorem ul:K2 3=[.no,.no,.no]:=rfl
@[simp] theorem qG{i:Int}:TQ i 0=[]:=rfl
@[simp] theorem tj:TQ 0 1=[.int 0]:=rfl
@[simp] theorem rQ:TQ 0 2=[.int 0,.int 1]:=rfl
@[simp] theorem pG:TQ 0 3=[.int 0,.int 1,.int 2]:=rfl
@[simp] theorem pT:TQ 0 4=[.int 0,.int 1,.int 2,.int 3]:=rfl
def U1{α:Type}{xs:List α}{i:Int}(a:0<=i)(h1:i<xs.length):UR xs i=xs[i.toNat]? :=by unfold UR KQ;rw[if_pos a,if_pos h1];rfl
def CY{α:Type}{xs:List α}{i:Int}(a:0<=i)(h1:i<xs.length):∃x∈xs,UR xs i=b3 x:=by
 rw[U1 a h1];have h:i.toNat<xs.length:=by lia
 exact⟨xs[i.toNat],Pu _,Fy h⟩
section
variable{F:cB}{fa fb fc:VF}{δ:Ev}{x y z d o:cT}{j:Nat}
noncomputable def BZ(δ:Ev):Option (cT×List cT)->Option (cT×Ev)
 |some (d,[])=>b3 (d,δ)
 |_=>b5
@[simp] theorem t7:BZ δ (b3 (d,[]))=b3 (d,δ):=rfl
def C2{n:Nat}{ds:List cT}{as:List AV}(h:WW δ as=b3 ds)(a:ds.length=n)(b:WF as=[])(c:X2 [] as 0=ba):qCb n [] F as δ (b3 ds)=BZ δ (F ds):=by
 have hc:T7 [] as δ=ba:=by simp[b]
 rw[lS,if_pos ⟨a,hc⟩];cases F ds with
 |none=>rfl
 |some q=>
  obtain⟨r,os⟩:=q;rw[iw];cases os with
  |nil=>simp[c,BZ]
  |cons o os=>simp[BZ]
def qx1(F:cB)(r:Option (cT×Ev)):Option (cT×Ev):=r.bind λp=>BZ p.2 (F [p.1])
@[simp] theorem rO:qx1 F (b3 (x,δ))=BZ δ (F [x]):=rfl
@[simp high] theorem call1:cE 1 [] F (aE fa bZ) δ=qx1 F (fa δ):=by
 rw[M4,ES];cases fa δ with
 |none=>rfl
 |some p=>exact C2 (as:=[.d p.1]) rfl rfl rfl rfl
def qx2(F:cB)(r:Option (cT×Ev))(fb:VF):Option (cT×Ev):=r.bind λp=>(fb p.2).bind λq=>BZ q.2 (F [p.1,q.1])
def qx2b(F:cB)(x:cT)(r:Option (cT×Ev)):Option (cT×Ev):=r.bind λq=>BZ q.2 (F [x,q.1])
@[simp] theorem ny:qx2 F (b3 (x,δ)) fb=qx2b F x (fb δ):=rfl
@[simp] theorem ub:qx2b F x (b3 (y,δ))=BZ δ (F [x,y]):=rfl
@[simp high] theorem call2:cE 2 [] F (aE fa (aE fb bZ)) δ=qx2 F (fa δ) fb:=by
 rw[M4,ES];cases fa δ with
 |none=>rfl
 |some p=>
  rw[qa_s,ES,ny];cases fb p.2 with
  |none=>rfl
  |some q=>exact C2 (as:=[.d p.1,.d q.1]) rfl rfl rfl rfl
def qx3(F:cB)(r:Option (cT×Ev))(fb fc:VF):Option (cT×Ev):=r.bind λp=>(fb p.2).bind λq=>(fc q.2).bind λs=>BZ s.2 (F [p.1,q.1,s.1])
def qx3b(F:cB)(x:cT)(r:Option (cT×Ev))(fc:VF):Option (cT×Ev):=r.bind λq=>(fc q.2).bind λs=>BZ s.2 (F [x,q.1,s.1])
def qx3c(F:cB)(x y:cT)(r:Option (cT×Ev)):Option (cT×Ev):=r.bind λs=>BZ s.2 (F [x,y,s.1])
@[simp] theorem eK:qx3 F (b3 (x,δ)) fb fc=qx3b F x (fb δ) fc:=rfl
@[simp] theorem mP:qx3b F x (b3 (y,δ)) fc=qx3c F x y (fc δ):=rfl
@[simp] theorem qt:qx3c F x y (b3 (z,δ))=BZ δ (F [x,y,z]):=rfl
@[simp high] theorem call3:cE 3 [] F (aE fa (aE fb (aE fc bZ))) δ=qx3 F (fa δ) fb fc:=by
 rw[M4,ES];cases fa δ with
 |none=>rfl
 |some p=>
  rw[qa_s,ES,eK];cases fb p.2 with
  |none=>rfl
  |some q=>
   rw[qa_s,ES,mP];cases fc q.2 with
   |none=>rfl
   |some s=>exact C2 (as:=[.d p.1,.d q.1,.d s.1]) rfl rfl rfl rfl
noncomputable def qw3(j:Nat)(δ:Ev):Option (cT×List cT)->Option (cT×Ev)
 |some (r,[o])=>b3 (r,δ.set j (.ow o))
 |_=>b5
def qw2(F:cB)(j:Nat)(x y:cT)(δ:Ev):Option Sl->Option (cT×Ev)
 |some (.ow d)=>qw3 j δ (F [x,d,y])
 |_=>b5
def qwb(F:cB)(j:Nat)(x:cT)(r:Option (cT×Ev)):Option (cT×Ev):=r.bind λq=>qw2 F j x q.1 q.2 q.2[j]?
def qwa(F:cB)(j:Nat)(x:cT)(δ:Ev)(fb:VF)(s:Option cT):Option (cT×Ev):=s.bind λ_=>qwb F j x (fb δ)
def qw(F:cB)(j:Nat)(r:Option (cT×Ev))(fb:VF):Option (cT×Ev):=r.bind λp=>qwa F j p.1 p.2 fb (slot p.2 j)
@[simp] theorem tZ:qw3 j δ (b3 (x,[o]))=b3 (x,δ.set j (.ow o)):=rfl
@[simp] theorem ui:qw2 F j x y δ (b3 (.ow d))=qw3 j δ (F [x,d,y]):=rfl
@[simp] theorem Yd:qwb F j x (b3 (y,δ))=qw2 F j x y δ δ[j]? :=rfl
@[simp] theorem jR:qwa F j x δ fb (b3 d)=qwb F j x (fb δ):=rfl
@[simp] theorem qw_s:qw F j (b3 (x,δ)) fb=qwa F j x δ fb (slot δ j):=rfl
@[simp high] theorem callO:cE 3 [1] F (aE fa (aO j (aE fb bZ))) δ=qw F j (fa δ) fb:=by
 rw[M4,ES];cases fa δ with
 |none=>rfl
 |some p=>
  obtain⟨x,δ1⟩:=p;rw[qa_s,aO_e,qw_s];cases h:slot δ1 j with
  |none=>rfl
  |some d0=>
   rw[nP,ES,jR];cases fb δ1 with
   |none=>rfl
   |some q=>
    obtain⟨y,a⟩:=q;rw[Yd,qa_s,md,Sv,Sv,Sv,Zz];cases h2:a[j]? with
    |none=>simp[h2,qsl,qCb,qw2]
    |some s=>
     cases s with
     |no=>simp[h2,qsl,qCb,qw2]
     |va d=>simp[h2,qw2]
     |ow d=>
      simp[h2];cases F [x,d,y]with
      |none=>rfl
      |some r=>
       obtain⟨v,os⟩:=r;cases os with
       |nil=>simp[qw3]
       |cons o os=>
        cases os with
        |nil=>simp
        |cons b os=>simp[qw3]
end
section
variable{δ:Ev}{i j k l:Nat}{d e:cT}{ds es zs:List cT}{sh:List (Option Nat)}{fv fk:VF}{fs:R8}{fg:WO}{F:cB}{n m:Int}{as:List AV}
@[simp] theorem uh:NG (b5::sh) (d::ds) 0=b3 d:=rfl
@[simp] theorem uz:LU (b3 k::sh) ds 0=b3 (ds.take k):=rfl
@[simp] theorem oS:LU (b5::sh) (d::ds) 1=LU sh ds 0:=rfl
@[simp] theorem p9:NI (b5::sh) (e::ds) 0 d=d::ds:=rfl
@[simp] theorem uQ:PX (b3 k::sh) ds 0 es=es++ds.drop k:=rfl
@[simp] theorem ut:PX (b5::sh) (e::ds) 1 es=e::PX sh ds 0 es:=rfl
def qNv(j:Nat)(δ:Ev):Option Sl->Option (cT×Ev)
 |some (.ow (.nst sh ds))=>(NG sh ds j).map λd=>(d,δ)
 |_=>b5
@[simp] theorem sV:fNv i j δ=qNv j δ δ[i]? :=rfl
@[simp] theorem pN:qNv j δ (b3 (.ow (.nst sh ds)))=(NG sh ds j).map λd=>(d,δ):=rfl
def qPt(k:Nat):Option Sl->Option cT
 |some (.ow (.nst sh ds))=>(LU sh ds k).map cT.lst
 |_=>b5
@[simp] theorem rm:part δ j k=qPt k δ[j]? :=rfl
@[simp] theorem ox:qPt k (b3 (.ow (.nst sh ds)))=(LU sh ds k).map cT.lst:=rfl
@[simp] theorem ug:fNl i j δ=(part δ i j).map λd=>(d,δ):=rfl
def qaP(i j:Nat)(r:Option cT)(δ:Ev)(fs:WO):Option (List AV×Ev):=r.bind λ_=>qab (.p i j) (fs δ)
@[simp] theorem aP_e:aP i j fg δ=qaP i j (part δ i j) δ fg:=rfl
@[simp] theorem rL:qaP i j (b3 d) δ fg=qab (.p i j) (fg δ):=rfl
@[simp] theorem rB:WW δ (.p j k::as)=(part δ j k).bind λd=>(WW δ as).map λds=>d::ds:=rfl
@[simp] theorem ph:WF (.p j k::as)=j::WF as:=rfl
def qNp(i j:Nat)(r:Option (cT×Ev)):Option Ou:=r.bind λp=>match p.1,p.2[i]? with
 |.int k,b3 (.ow (.nst sh ds))=>(NG sh ds j).map λ_=>.nx (p.2.set i (.ow (.nst sh (NI sh ds j (.int k)))))
 |_,_=>b5
def qNpb(i j:Nat)(n:Int)(δ:Ev):Option Sl->Option Ou
 |some (.ow (.nst sh ds))=>(NG sh ds j).map λ_=>.nx (δ.set i (.ow (.nst sh (NI sh ds j (.int n)))))
 |_=>b5
@[simp] theorem pO:CC i j fv δ=qNp i j (fv δ):=rfl
@[simp] theorem uJ:qNp i j (b3 (.int n,δ))=qNpb i j n δ δ[i]? :=by
 unfold qNp qNpb;simp only[Ay];generalize δ[i]?=r;cases r with
 |none=>rfl
 |some s=>
  cases s with
  |ow d=>cases d<;>rfl
  |_=>rfl
@[simp] theorem pK:qNpb i j n δ (b3 (.ow (.nst sh ds)))=(NG sh ds j).map λ_=>Ou.nx (δ.set i (.ow (.nst sh (NI sh ds j (.int n))))):=rfl
def qNa(i j:Nat)(r:Option (List cT×Ev)):Option Ou:=r.bind λr=>match r.1,r.2[i]? with
 |[d],b3 (.ow (.nst sh ds))=>(LU sh ds j).bind λzs=>if zs.length<16777216 then b3 (.nx (r.2.set i (.ow (.nst (sh.set j (b3 (zs.length+1))) (PX sh ds j (zs++[d]))))))else b5
 |_,_=>b5
def qNab(i j:Nat)(d:cT)(δ:Ev):Option Sl->Option Ou
 |some (.ow (.nst sh ds))=>(LU sh ds j).bind λzs=>if zs.length<16777216 then b3 (.nx (δ.set i (.ow (.nst (sh.set j (b3 (zs.length+1))) (PX sh ds j (zs++[d]))))))else b5
 |_=>b5
@[simp] theorem uB:CA i j fs δ=(part δ i j).bind λ_=>qNa i j (fs δ):=rfl
@[simp] theorem su:qNa i j (b3 ([d],δ))=qNab i j d δ δ[i]? :=by
 unfold qNa qNab;simp only[Ay];generalize δ[i]?=r;cases r with
 |none=>rfl
 |some s=>
  cases s with
  |ow d=>cases d<;>rfl
  |_=>rfl
@[simp] theorem tO:qNab i j d δ (b3 (.ow (.nst sh ds)))=(LU sh ds j).bind λzs=>if zs.length<16777216 then b3 (Ou.nx (δ.set i (.ow (.nst (sh.set j (b3 (zs.length+1))) (PX sh ds j (zs++[d]))))))else b5:=rfl
def qNq(i j k:Nat)(r:Option (List cT×Ev)):Option Ou:=r.bind λr=>match r.1,r.2[i]? with
 |[.int n,.int d],b3 (.ow (.nst sh ds))=>(NG sh ds j).bind λ_=>if k<r.2.length then b3 (.nx ((r.2.set i (.ow (.nst sh (NI sh ds j (.int n))))).set k (.va (.int d))))else b5
 |_,_=>b5
def qNqb(i j k:Nat)(n m:Int)(δ:Ev):Option Sl->Option Ou
 |some (.ow (.nst sh ds))=>(NG sh ds j).bind λ_=>if k<δ.length then b3 (.nx ((δ.set i (.ow (.nst sh (NI sh ds j (.int n))))).set k (.va (.int m))))else b5
 |_=>b5
@[simp] theorem tD:CB i j k fs δ=qNq i j k (fs δ):=rfl
@[simp] theorem ou:qNq i j k (b3 ([.int n,.int m],δ))=qNqb i j k n m δ δ[i]? :=by
 unfold qNq qNqb;simp only[Ay];generalize δ[i]?=r;cases r with
 |none=>rfl
 |some s=>
  cases s with
  |ow d=>cases d<;>rfl
  |_=>rfl
@[simp] theorem oA:qNqb i j k n m δ (b3 (.ow (.nst sh ds)))=(NG sh ds j).bind λ_=>if k<δ.length then b3 (Ou.nx ((δ.set i (.ow (.nst sh (NI sh ds j (.int n))))).set k (.va (.int m))))else b5:=rfl
def qNc(i j:Nat)(r:Option (cT×Ev)):Option Ou:=r.bind λr=>match r.1,r.2[i]? with
  |.int k,b3 (.ow (.nst sh ds))=>(LU sh ds j).bind λzs=>if 0<=k/\k<=zs.length then b3 (.nx (r.2.set i (.ow (.nst (sh.set j (b3 k.toNat)) (PX sh ds j (zs.take k.toNat))))))else b5
  |_,_=>b5
def qNcb(i j:Nat)(k:Int)(δ:Ev):Option Sl->Option Ou
 |some (.ow (.nst sh ds))=>(LU sh ds j).bind λzs=>if 0<=k/\k<=zs.length then b3 (.nx (δ.set i (.ow (.nst (sh.set j (b3 k.toNat)) (PX sh ds j (zs.take k.toNat))))))else b5
 |_=>b5
def hJ(h:fv δ=b3 (.lst [],δ)):J3 i j fv fk δ=(part δ i j).bind λ_=>qNc i j (fk δ):=by unfold J3;rw[h];rfl
@[simp] theorem sF:J3 i j (XW bO) fk δ=(part δ i j).bind λ_=>qNc i j (fk δ):=hJ rfl
@[simp] theorem qf:qNc i j (b3 (.int n,δ))=qNcb i j n δ δ[i]? :=by
 unfold qNc qNcb;simp only[Ay];generalize δ[i]?=r;cases r with
 |none=>rfl
 |some s=>
  cases s with
  |ow d=>cases d<;>rfl
  |_=>rfl
@[simp] theorem sf:qNcb i j n δ (b3 (.ow (.nst sh ds)))=(LU sh ds j).bind λzs=>if 0<=n/\n<=zs.length then b3 (Ou.nx (δ.set i (.ow (.nst (sh.set j (b3 n.toNat)) (PX sh ds j (zs.take n.toNat))))))else b5:=rfl
@[simp] theorem oy:DG d i F ds=qins (F (ds.take i++d::ds.drop i)):=rfl
end
def Z7:cT:=.int 999
def jh:cT:=.tup [.str "plus",.str "minus",.str "times",.str "least",.str "most",.str "less",.str "over"]
def V9:cT:=.dct [.inr "plus",.inr "minus",.inr "times",.inr "least",.inr "most",.inr "less",.inr "over"] [.fn "plus",.fn "minus",.fn "times",.fn "least",.fn "most",.fn "less",.fn "over"]
def W4:cT:=.int 64
def Z6:cT:=.int 40
def O8:cT:=.int 63
def G1:cT:=.tup [.str "row",.str "row"]
def QU:cT:=.dct [.inr "number",.inr "pick",.inr "load",.inr "take",.inr "store",.inr "put"] [.tup [.str "word"],.tup [.str "row",.str "row",.str "row"],.tup [.str "place"],.tup [.str "place",.str "row",.str "row"],.tup [.str "place",.str "row"],.tup [.str "place",.str "row",.str "row"]]
def XM:cT:=.tup [.str "load",.str "take"]
def ZY:cT:=.tup [.str "store",.str "put"]
def O7:cT:=.int 64
def XJ:cT:=.int 20
def NL:cT:=.int 3
def G2:cT:=.int 0
def AT:cT:=.int 1
abbrev GG:List Sb:=["NoTree","TooLong"]
noncomputable abbrev TF:List Sb:=["NoBlock","NoCells","NoRow","NoLanes","NoPlan","NoProgram","NoTree","NoLoop","NoText","NoName","TooMany","TooLong","NotValid","Nothing"]
def QF:VS:=
   (b8 (Y5 (GK (fB (f2 TM (fV 0) (fC (.ty "bool")))) (VY (fB (f2 TM (fV 0) (fC (.ty "int"))))))
   (bY (fC (.bl bb)))
   aW)
   (bY (f3 oLe oLe (fV 1) (fV 0) (fV 2))))
def ZK:cB:=a8 3 [] QF
def DD:VS:=
   (bY (f2 L8 (f2 aR (fV 0) (fV 1)) (f2 aR (fC Z7) (fC (.int 1)))))
def GS:cB:=a8 2 [] DD
def HH:VS:=
   (bY (f2 L8 (f2 SR (fV 0) (fV 1)) (f2 aR (fC Z7) (fC (.int 1)))))
def MX:cB:=a8 2 [] HH
def HI:VS:=
   (bY (f2 L8 (f2 SS (fV 0) (fV 1)) (f2 aR (fC Z7) (fC (.int 1)))))
def MY:cB:=a8 2 [] HI
def HG:VS:=
   (bY (f2 oMin (fV 0) (fV 1)))
def MW:cB:=a8 2 [] HG
def DB:VS:=
   (bY (f2 oMax (fV 0) (fV 1)))
def GQ:cB:=a8 2 [] DB
def DA:VS:=
   (bY (K1 (fB (f2 oLt (fV 0) (fV 1))) (fC (.int 1)) (fC (.int 0))))
def GO:cB:=a8 2 [] DA
def LN:VS:=
   (bY (K1 (fB (f2 YK (fV 1) (fC (.int 0)))) (fC .non) (f2 L6 (fV 0) (fV 1))))
def RZ:cB:=a8 2 [] LN
def DC:VS:=
   (bY (K1 (fB (f2 HZ (fV 0) (fC (.int 0)))) (fV 1) (fV 2)))
def GR:cB:=a8 3 [] DC
def LJ:VS:=
   (b8 (Y5 (fB (f2 YK (fV 0) (fC (.str "pick"))))
   (bY (cE 3 [] GR (aE (f2 bV (fV 1) (fC (.int 0))) (aE (f2 bV (fV 1) (fC (.int 1))) (aE (f2 bV (fV 1) (fC (.int 2))) bZ)))))
   aW)
   (b8 (Z5 2 (xV (f2 bV (fC V9) (fV 0))))
   (bY (LG 2 [] [("plus",GS),("minus",MX),("times",MY),("least",MW),("most",GQ),("less",GO),("over",RZ)] 2 (aE (f2 bV (fV 1) (fC (.int 0))) (aE (f2 bV (fV 1) (fC (.int 1))) bZ))))))
def U0:cB:=a8 3 [] LJ
def LP:VS:=
   (b8 (Y5 (fB (f2 (UG bb) (fV 0) (fC jh)))
   (bY (fC G1))
   aW)
   (bY (f2 Tw (fC QU) (fV 0))))
def ZN:cB:=a8 1 [] LP
def PC:VS:=
   (bY (f2 (UG ba) (f2 bV (fV 0) (fC (.int 0))) (fC ZY)))
def WR:cB:=a8 1 [] PC
def YW:VS:=
   (bY (K1 (GK (fB (f2 (UG bb) (f2 bV (fV 0) (fC (.int 0))) (fC XM))) (fB (f2 (UG bb) (f2 bV (fV 0) (fC (.int 0))) (fC ZY)))) (f2 bV (fV 0) (fC (.int 1))) (fC .non)))
def aS:cB:=a8 1 [] YW
def LM:VS:=
   (b8 (J4 1 2 (fV 0))
   (bY (W5 [] 2 (iZip (cE 1 [] ZN (aE (fV 1) bZ)) (fV 2)) (FC 2 (aN (gN 0) (aN (gN 1) WD))) (fB (f2 YK (fV 0) (fC (.str "row")))) (fV 1))))
def T2:cB:=a8 3 [] LM
def PD:VS:=
   (bY (f2 aR (fSl (fV 0) pNo (pSo (f2 SR (f1 YY (fV 0)) (f1 YY (fV 1))))) (f1 OO (fV 1))))
def T3:cB:=a8 2 [] PD
def QK:VS:=
   (bY (fAnd (cE 3 [] ZK (aE (fV 0) (aE (fC (.int 0)) (aE (f2 SR (f1 YY (fV 1)) (fC (.int 1))) bZ)))) (f2 bV (fV 1) (fV 0))))
def V6:cB:=a8 2 [] QK
def LK:VS:=
   (b8 (Y5 (fB (f2 YK (fV 0) (fC (.str "word"))))
   (bY (cE 3 [] ZK (aE (fV 1) (aE (fC (.int 0)) (aE (fC Z7) bZ)))))
   aW)
   (b8 (Y5 (fB (f2 YK (fV 0) (fC (.str "place"))))
   (bY (cE 3 [] ZK (aE (fV 1) (aE (fC (.int 0)) (aE (fC O8) bZ)))))
   aW)
   (bY (cE 2 [] V6 (aE (fV 1) (aE (fV 2) bZ))))))
def RW:cB:=a8 3 [] LK
def LL:VS:=
   (b8 (Y5 (GK (VY (fB (f2 TM (fV 0) (fC (.ty "tuple"))))) (fB (f2 YK (f1 YY (fV 0)) (fC (.int 0)))))
   (bY (fC (.bl bb)))
   aW)
   (b8 (J4 2 3 (fV 0))
   (b8 (Z5 4 (xV (K1 (fB (f2 TM (fV 2) (fC (.ty "str")))) (cE 1 [] ZN (aE (fV 2) bZ)) (fC .non))))
   (b8 (Y5 (GK (fB (f2 QQ (fV 4) (fC .non))) (fB (f2 HZ (f1 YY (fV 4)) (f1 YY (fV 3)))))
   (bY (fC (.bl bb)))
   aW)
   (bY (f1 oAll (W5 [1] 2 (iZip (fV 4) (fV 3)) (FC 2 (aN (gN 1) (aN (gN 2) WD))) U2 (cE 3 [] RW (aE (fV 1) (aE (fV 2) (aE (fV 0) bZ)))))))))))
def RX:cB:=a8 5 [] LL
def WT:VS:=
   (b8 (Y5 (VY (fB (cE 2 [] RX (aE (fV 4) (aO 3 bZ)))))
   (bY (fC (.bl bb)))
   aW)
   (MJ 3 FO (cO (cE 1 [] WR (aE (fV 4) bZ)) bO)))
def T9:VS:=
   (b8 (Y5 (GK (VY (fB (f2 TM (fV 0) (fC (.ty "tuple"))))) (fB (f2 HZ (f1 YY (fV 0)) (fC (.int 2)))))
   (bY (fC (.bl bb)))
   aW)
   (b8 (NJ (fV 0) (FC 2 (aN (gN 1) (aN (gN 2) WD))))
   (b8 (Y5 (VY (fB (cE 3 [] ZK (aE (fV 1) (aE (fC (.int 0)) (aE (fC W4) bZ))))))
   (bY (fC (.bl bb)))
   aW)
   (b8 (Y5 (GK (VY (fB (f2 TM (fV 2) (fC (.ty "tuple"))))) (fB (f2 BN (f1 YY (fV 2)) (fC Z6))))
   (bY (fC (.bl bb)))
   aW)
   (b8 (Z5 3 (xO (XW bO)))
   (b8 (MI (Q9 (fV 2)) (gN 4)
   WT)
   (bY (fC (.bl ba)))))))))
def YH:cB:=a8 5 [] T9
def QE:VS:=
   (b8 (Y5 (GK (VY (fB (f2 TM (fV 0) (fC (.ty "list"))))) (VY (fB (f3 oLe oLe (fV 1) (f1 YY (fV 0)) (fC O7)))))
   (bY (fC (.bl bb)))
   aW)
   (bY (f1 oAll (W5 [] 1 (Q9 (fV 0)) (gN 0) U2 (cE 3 [] ZK (aE (fV 0) (aE (fC (.int 0)) (aE (fC Z7) bZ))))))))
def TY:cB:=a8 2 [] QE
def RJ:VS:=
   (b8 (Y5 (fB (f2 YK (fV 0) (fC (.str "take"))))
   (bY (f2 HZ (f2 bV (fV 1) (fC (.int 0))) (fC (.int 0))))
   aW)
   (b8 (Y5 (fB (f2 YK (fV 0) (fC (.str "put"))))
   (bY (f2 HZ (f2 bV (fV 1) (fC (.int 1))) (fC (.int 0))))
   aW)
   (bY (fC (.bl ba)))))
def YE:cB:=a8 2 [] RJ
def aT:VS:=
   (b8 (Y5 (VY (fB (cE 2 [] YE (aE (fV 0) (aE (fV 2) bZ)))))
   (bY (aH (cO (K1 (fB (f2 YK (fV 0) (fC (.str "take")))) (f2 bV (fV 2) (fC (.int 1))) (fC .non)) (cO (fC .non) bO))))
   aW)
   (b8 (Y5 (fB (f2 oGe (fV 1) (f1 YY (fO 3))))
   (bY (aH (cO (fC .non) (cO (fC (.str "beyond")) bO))))
   aW)
   (b8 (Y5 (fB (f2 (UG bb) (fV 0) (fC ZY)))
   (b8 (F3 3 (fV 1) (f2 bV (fV 2) (fC (.int 0))))
   (bY (aH (cO (fC .non) (cO (fC .non) bO)))))
   aW)
   (bY (aH (cO (f2 bV (fO 3) (fV 1)) (cO (fC .non) bO)))))))
def aZ:cB:=a8 4 [3] aT
def SG:VS:=
   (b8 (Z5 4 (xV (f2 bV (fV 0) (fC (.int 0)))))
   (b8 (Y5 (fB (f2 YK (fV 4) (fC (.str "number"))))
   (bY (aH (cO (f2 bV (fV 0) (fC (.int 1))) (cO (fC .non) bO))))
   aW)
   (b8 (Z5 5 (xV (cE 1 [] aS (aE (fV 0) bZ))))
   (b8 (Y5 (fB (f2 VQ (fV 5) (fC .non)))
   (bY (cE 4 [3] aZ (aE (fV 4) (aE (f2 aR (fV 5) (fV 3)) (aE (fV 1) (aO 2 bZ))))))
   aW)
   (b8 (Z5 6 (xV (cE 2 [] U0 (aE (fV 4) (aE (fV 1) bZ)))))
   (bY (aH (cO (fV 6) (cO (K1 (fB (f2 QQ (fV 6) (fC .non))) (fC (.str "nought")) (fC .non)) bO)))))))))
def XY:cB:=a8 7 [2] SG
def VN:VS:=
   (b8 (NJ (cE 3 [2] (dflt XY (.int 0)) (aE (fV 4) (aE (W5 [2] 1 (Q9 (cE 1 [] T2 (aE (fV 4) bZ))) (gN 1) U2 (f2 bV (fO 0) (fV 1))) (aO 1 bZ)))) (FC 2 (aN (gN 5) (aN (gN 6) WD))))
   (b8 (Y5 (fB (f2 VQ (fV 6) (fC .non)))
   (bY (aH (cO (fO 2) (cO (aH (cO (fV 3) (cO (fV 6) bO))) bO))))
   aW)
   (MJ 2 FO (cO (fV 5) bO))))
def OE:VS:=
   (b8 (Z5 2 (xO (XW bO)))
   (b8 (MI (BD (fV 0)) (FC 2 (aN (gN 3) (aN (gN 4) WD)))
   VN)
   (bY (aH (cO (fO 2) (cO (fC .non) bO))))))
def RD:cB:=a8 7 [1] OE
def SF:VS:=
   (b8 (Y5 (VY (fB (cE 1 [] YH (aE (fV 0) bZ))))
   (λ_=>b5)
   aW)
   (Y5 (VY (fB (cE 2 [] TY (aE (fV 1) (aE (f2 bV (fV 0) (fC (.int 0))) bZ)))))
   (λ_=>b5)
   aW))
def VH:cB:=a8 2 [] SF
def Tf:VS:=
   (b8 (UX (cE 2 [] VH (aE (fV 0) (aE (fV 1) bZ))))
   (b8 (Z5 2 (xO (f1 L7 (fV 1))))
   (b8 (NJ (cE 2 [1] RD (aE (f2 bV (fV 0) (fC (.int 1))) (aO 2 bZ))) (FC 2 (aN (gN 3) (aN (gN 4) WD))))
   (bY (aH (cO (fO 2) (cO (fV 4) bO)))))))
def AM:cB:=a8 5 [] Tf
def A8:VS:=
   (b8 (Y5 (GK (VY (fB (f2 TM (fV 0) (fC (.ty "tuple"))))) (fB (f2 HZ (f1 YY (fV 0)) (fC (.int 4)))))
   (bY (fC (.bl bb)))
   aW)
   (bY (fAnd (f2 TM (f2 bV (fV 0) (fC (.int 0))) (fC (.ty "str"))) (f2 YK (f2 bV (fV 0) (fC (.int 0))) (fC (.str "if"))))))
def MV:cB:=a8 1 [] A8
def YS(R:cB):VS:=
   (b8 (Z5 5 (xV (cE 3 [] R (aE (fV 4) (aE (fV 3) (aE (f2 aR (fV 2) (fC (.int 1))) bZ))))))
   (b8 (Y5 (fB (f2 QQ (fV 5) (fC .non)))
   (bY (fC .non))
   aW)
   (Z5 3 (xV (f2 aR (fV 3) (f2 FV (XW (cO (fC (.bl bb)) bO)) (f2 SR (f1 YY (fV 5)) (f1 YY (fV 3)))))))))
def X5(R:cB):VS:=
   (b8 (Y5 (GK (fB (f2 YK (fV 2) (fC NL))) (VY (fB (cE 2 [] V6 (aE (f2 bV (fV 0) (fC (.int 1))) (aE (fV 1) bZ))))))
   (bY (fC .non))
   aW)
   (b8 (Z5 3 (xV (f2 aR (fV 1) (XW (cO (fC (.bl bb)) bO)))))
   (b8 (MI (Q9 (fSl (fV 0) (pSo (fC (.int 2))) pNo)) (gN 4)
   (YS R))
   (bY (fV 3)))))
def Y0(R:cB):cB:=a8 6 [] (X5 R)
def aD(R:cB):VS:=
   (b8 (Y5 (fB (cE 1 [] MV (aE (fV 4) bZ)))
   (Z5 3 (xV (cE 3 [] (Y0 R) (aE (fV 4) (aE (fV 3) (aE (fV 2) bZ))))))
   (Y5 (fB (cE 2 [] RX (aE (fV 4) (aE (fV 3) bZ))))
   (Z5 3 (xV (f2 aR (fV 3) (XW (cO (cE 1 [] WR (aE (fV 4) bZ)) bO)))))
   (bY (fC .non))))
   (Y5 (GK (fB (f2 QQ (fV 3) (fC .non))) (fB (f2 BN (f1 YY (fV 3)) (fC XJ))))
   (bY (fC .non))
   aW))
def YX(R:cB):VS:=
   (b8 (Y5 (VY (fB (f2 TM (fV 0) (fC (.ty "tuple")))))
   (bY (fC .non))
   aW)
   (b8 (Z5 3 (xV (fV 1)))
   (b8 (MI (Q9 (fV 0)) (gN 4)
   (aD R))
   (bY (fV 3)))))
def a7:Nat->cB:=recV λR=>a8 5 [] (YX R)
def OF:VS:=
   (b8 (Y5 (GK (VY (fB (f2 TM (fV 0) (fC (.ty "tuple"))))) (fB (f2 HZ (f1 YY (fV 0)) (fC (.int 2)))))
   (bY (fC (.bl bb)))
   aW)
   (bY (fAnd (cE 3 [] ZK (aE (f2 bV (fV 0) (fC (.int 0))) (aE (fC (.int 0)) (aE (fC W4) bZ)))) (f2 VQ (cE 3 [] (a7 8) (aE (f2 bV (fV 0) (fC (.int 1))) (aE (XW bO) (aE (fC (.int 0)) bZ)))) (fC .non)))))
def WM:cB:=a8 1 [] OF
def QD:VS:=
   (b8 (NW "Flat" "laid" "numbers" ba 0 (cO (fV 1) bO))
   (bY (f2 SR (f1 YY (fA "Flat" "laid" "numbers" ba 0)) (fC (.int 1)))))
def ZW:cB:=a8 2 [0] QD
def SD:VS:=
   (bY (ZT "Flat" "laid" "numbers" 0 2 [0] ZW (aE (aH (cO (fC (.str "pick")) (cO (fV 1) (cO (fV 2) (cO (fC G2) bO))))) bZ)))
def YD:cB:=a8 3 [0] SD
def U5(R:cB):VS:=
   (b8 (Z5 3 (xV (f2 bV (fA "Flat" "laid" "numbers" bb 0) (f2 bV (fV 1) (fC (.int 1))))))
   (b8 (NW "Flat" "laid" "numbers" bb 0 (cO (fC .non) bO))
   (b8 (UX (ZT "Flat" "laid" "numbers" 0 3 [0] R (aE (f2 bV (fV 1) (fC (.int 2))) (aE (ZT "Flat" "laid" "numbers" 0 3 [0] YD (aE (fV 2) (aE (fV 3) bZ))) bZ))))
   (UX (ZT "Flat" "laid" "numbers" 0 3 [0] R (aE (f2 bV (fV 1) (fC (.int 3))) (aE (ZT "Flat" "laid" "numbers" 0 2 [0] ZW (aE (aH (cO (fC (.str "pick")) (cO (fV 3) (cO (fC G2) (cO (fV 2) bO))))) bZ)) bZ)))))))
def Y7(R:cB):cB:=a8 4 [0] (U5 R)
def U6:VS:=
   (b8 (Z5 3 (xV (f2 bV (fV 1) (fC (.int 0)))))
   (b8 (Y5 (fB (f2 YK (fV 3) (fC (.str "load"))))
   (bY (aH (cO (fC (.str "take")) (cO (f2 bV (fV 1) (fC (.int 1))) (cO (fV 2) (cO (fV 2) bO))))))
   aW)
   (b8 (Y5 (fB (f2 YK (fV 3) (fC (.str "take"))))
   (bY (aH (cO (fC (.str "take")) (cO (f2 bV (fV 1) (fC (.int 1))) (cO (ZT "Flat" "laid" "numbers" 0 3 [0] YD (aE (fV 2) (aE (f2 bV (fV 1) (fC (.int 2))) bZ))) (cO (f2 bV (fV 1) (fC (.int 3))) bO))))))
   aW)
   (b8 (Y5 (fB (f2 YK (fV 3) (fC (.str "store"))))
   (bY (aH (cO (fC (.str "put")) (cO (f2 bV (fV 1) (fC (.int 1))) (cO (f2 bV (fV 1) (fC (.int 2))) (cO (fV 2) bO))))))
   aW)
   (b8 (Y5 (fB (f2 YK (fV 3) (fC (.str "put"))))
   (bY (aH (cO (fC (.str "put")) (cO (f2 bV (fV 1) (fC (.int 1))) (cO (f2 bV (fV 1) (fC (.int 2))) (cO (ZT "Flat" "laid" "numbers" 0 3 [0] YD (aE (fV 2) (aE (f2 bV (fV 1) (fC (.int 3))) bZ))) bO))))))
   aW)
   (b8 (Y5 (fB (f2 YK (fV 3) (fC (.str "over"))))
   (bY (aH (cO (fC (.str "over")) (cO (f2 bV (fV 1) (fC (.int 1))) (cO (ZT "Flat" "laid" "numbers" 0 2 [0] ZW (aE (aH (cO (fC (.str "pick")) (cO (fV 2) (cO (f2 bV (fV 1) (fC (.int 2))) (cO (fC AT) bO))))) bZ)) bO)))))
   aW)
   (bY (fV 1))))))))
def W9:cB:=a8 4 [0] U6
def bE(R:cB):VS:=
   (Y5 (fB (f2 YK (f2 bV (fV 3) (fC (.int 0))) (fC (.str "if"))))
   (UX (ZT "Flat" "laid" "numbers" 0 3 [0] (Y7 R) (aE (fV 3) (aE (K1 (fB (f2 QQ (fV 2) (fC .non))) (fC AT) (fV 2)) bZ))))
   (b8 (Z5 4 (xV (cE 2 [] T3 (aE (fV 3) (aE (W5 [0] 1 (Q9 (cE 1 [] T2 (aE (fV 3) bZ))) (gN 1) U2 (f2 bV (fA "Flat" "laid" "numbers" bb 0) (fV 1))) bZ)))))
   (NW "Flat" "laid" "numbers" bb 0 (cO (ZT "Flat" "laid" "numbers" 0 2 [0] ZW (aE (K1 (fB (f2 QQ (fV 2) (fC .non))) (fV 4) (ZT "Flat" "laid" "numbers" 0 3 [0] W9 (aE (fV 4) (aE (fV 2) bZ)))) bZ)) bO))))
def Y9(R:cB):VS:=
   (MI (Q9 (fV 1)) (gN 3)
   (bE R))
def bX:Nat->cB:=recV λR=>a8 5 [0] (Y9 R)
def VO:VS:=
   (b8 (Y5 (VY (fB (cE 1 [] WM (aE (fV 0) bZ))))
   (λ_=>b5)
   aW)
   (b8 (NJ (fV 0) (FC 2 (aN (gN 1) (aN (gN 2) WD))))
   (b8 (Z5 3 (xO (E8 "Flat" "laid" "numbers")))
   (b8 (Y5 (fB (f1 oAny (W5 [] 1 (Q9 (fV 2)) (gN 0) U2 (f2 YK (f2 bV (fV 0) (fC (.int 0))) (fC (.str "if"))))))
   (b8 (UX (ZT "Flat" "laid" "numbers" 3 2 [0] ZW (aE (aH (cO (fC (.str "number")) (cO (fC (.int 0)) bO))) bZ)))
   (UX (ZT "Flat" "laid" "numbers" 3 2 [0] ZW (aE (aH (cO (fC (.str "number")) (cO (fC (.int 1)) bO))) bZ))))
   aW)
   (b8 (UX (ZT "Flat" "laid" "numbers" 3 3 [0] (bX 8) (aE (fV 2) (aE (fC .non) bZ))))
   (b8 (Y5 (fB (f2 BN (f1 YY (fA "Flat" "laid" "numbers" ba 3)) (fC Z6)))
   (λ_=>b5)
   aW)
   (bY (aH (cO (aH (cO (fV 1) (cO (f1 OO (fA "Flat" "laid" "numbers" ba 3)) bO))) (cO (fA "Flat" "laid" "numbers" bb 3) bO))))))))))
def ZG:cB:=a8 4 [] VO
def TH:VZ:=
   (AH (zIf (VY (fB (cE 1 [] WM (aE (fV 0) bZ)))) (λδ=>b3 (("NoTree",b5),δ)) zNo)
   (IP (Y5 (VY (fB (cE 1 [] WM (aE (fV 0) bZ))))
   (λ_=>b5)
   aW)
   (IP (NJ (fV 0) (FC 2 (aN (gN 1) (aN (gN 2) WD))))
   (IP (Z5 3 (xO (E8 "Flat" "laid" "numbers")))
   (IP (Y5 (fB (f1 oAny (W5 [] 1 (Q9 (fV 2)) (gN 0) U2 (f2 YK (f2 bV (fV 0) (fC (.int 0))) (fC (.str "if"))))))
   (b8 (UX (ZT "Flat" "laid" "numbers" 3 2 [0] ZW (aE (aH (cO (fC (.str "number")) (cO (fC (.int 0)) bO))) bZ)))
   (UX (ZT "Flat" "laid" "numbers" 3 2 [0] ZW (aE (aH (cO (fC (.str "number")) (cO (fC (.int 1)) bO))) bZ))))
   aW)
   (IP (UX (ZT "Flat" "laid" "numbers" 3 3 [0] (bX 8) (aE (fV 2) (aE (fC .non) bZ))))
   (zIf (fB (f2 BN (f1 YY (fA "Flat" "laid" "numbers" ba 3)) (fC Z6))) (λδ=>b3 (("TooLong",b5),δ)) zNo)))))))
def YF:List cT->Option Xw:=runZ 4 TH
def TU:VS:=
   (Z5 2 (xV (f2 L6 (fV 2) (fC (.int 1000003)))))
def U7:VS:=
   (b8 (Y5 (fB (f2 oLt (fV 1) (f1 YY (fV 0))))
   (bY (f2 bV (fV 0) (fV 1)))
   aW)
   (b8 (Y5 (fB (f2 YK (fV 0) (XW bO)))
   (bY (fC (.int 0)))
   aW)
   (b8 (Z5 2 (xV (f2 bV (fV 0) (f2 L8 (fV 1) (f1 YY (fV 0))))))
   (b8 (MI (iR1 (f2 oMin (f2 L6 (fV 1) (f1 YY (fV 0))) (fC (.int 60)))) (gN 3)
   TU)
   (bY (f2 aR (f2 aR (f2 SS (f2 bV (fV 0) (f2 L8 (fV 1) (f1 YY (fV 0)))) (fC (.int 31))) (fV 1)) (f2 SS (fV 2) (fC (.int 101)))))))))
def Y8:cB:=a8 4 [] U7
def SI:VS:=
   (b8 (Z5 3 (xV (f2 L8 (f2 aR (f2 aR (f2 SS (cE 2 [] Y8 (aE (fV 0) (aE (fV 1) bZ))) (fC (.int 1103515245))) (f2 SS (fC (.int 7919)) (fV 1))) (fC (.int 12345))) (fC (.int 2147483647)))))
   (bY (f2 L8 (f2 L8 (f2 L8 (f2 oPow (fV 3) (fC (.int 5))) (fC (.int 2147483647))) (fC (.int 999983))) (fV 2))))
def VL:cB:=a8 4 [] SI
def QG:VS:=
   (b8 (MJ 1 FO (cO (fC (.int 0)) bO))
   (bY (cE 3 [] VL (aE (fV 0) (aE (f1 YY (fO 1)) (aE (fV 2) bZ))))))
def bF:cB:=a8 3 [1] QG
def QH:VS:=
   (bY (f2 bV (fV 2) (cE 3 [1] bF (aE (fV 0) (aO 1 (aE (f1 YY (fV 2)) bZ))))))
def ZM:cB:=a8 3 [1] QH
def SJ:VS:=
   (b8 (J2 2 (fV 3) (f2 L8 (f2 aR (HD 2 (fV 3) (cE 3 [1] bF (aE (fV 0) (aO 1 (aE (fV 4) bZ))))) (cE 3 [1] ZM (aE (fV 0) (aO 1 (aE (XW (cO (fC (.int 1)) (cO (fC (.int 1)) (cO (fC (.int 1)) (cO (fC (.int 0)) (cO (fC (.int 3)) bO)))))) bZ))))) (fV 4)))
   (bY (f2 bV (fO 2) (fV 3))))
def ZQ:cB:=a8 5 [1,2] SJ
def OG:VS:=
   (b8 (Z5 5 (xV (cE 3 [1] bF (aE (fV 0) (aO 1 (aE (fC (.int 13)) bZ))))))
   (b8 (Y5 (GK (fB (f2 YK (fV 2) (XW bO))) (fB (f2 YK (fV 5) (fC (.int 0)))))
   (b8 (Y5 (fB (f2 YK (cE 3 [1] bF (aE (fV 0) (aO 1 (aE (fC (.int 2)) bZ)))) (fC (.int 0))))
   (bY (aH (cO (fC (.str "number")) (cO (cE 3 [1] ZM (aE (fV 0) (aO 1 (aE (XW (cO (fC (.int 0)) (cO (fC (.int 1)) (cO (fC (.int 2)) (cO (fC (.int 5)) (cO (fC (.int 999)) (cO (cE 3 [1] bF (aE (fV 0) (aO 1 (aE (fC (.int 1000)) bZ)))) bO))))))) bZ)))) bO))))
   aW)
   (bY (aH (cO (fC (.str "load")) (cO (cE 5 [1,2] ZQ (aE (fV 0) (aO 1 (aO 3 (aE (fC (.str "load")) (aE (fV 4) bZ)))))) bO)))))
   aW)
   (b8 (NJ (W5 [0,1,2] 1 (iR1 (fC (.int 3))) (gN 3) U2 (f2 bV (fV 2) (f2 oMax (fC (.int 0)) (f2 SR (f2 SR (f1 YY (fV 2)) (fC (.int 1))) (cE 3 [1] bF (aE (fV 0) (aO 1 (aE (fC (.int 6)) bZ)))))))) (FC 3 (aN (gN 6) (aN (gN 7) (aN (gN 8) WD)))))
   (b8 (Y5 (fB (f2 (UG bb) (fV 5) (aH (cO (fC (.int 1)) (cO (fC (.int 2)) bO)))))
   (bY (aH (cO (fC (.str "load")) (cO (cE 5 [1,2] ZQ (aE (fV 0) (aO 1 (aO 3 (aE (fC (.str "load")) (aE (fV 4) bZ)))))) bO))))
   aW)
   (b8 (Y5 (fB (f2 YK (fV 5) (fC (.int 3))))
   (bY (aH (cO (fC (.str "take")) (cO (cE 5 [1,2] ZQ (aE (fV 0) (aO 1 (aO 3 (aE (fC (.str "take")) (aE (fV 4) bZ)))))) (cO (fV 8) (cO (fV 6) bO))))))
   aW)
   (b8 (Y5 (fB (f2 (UG bb) (fV 5) (aH (cO (fC (.int 4)) (cO (fC (.int 5)) bO)))))
   (bY (aH (cO (fC (.str "store")) (cO (cE 5 [1,2] ZQ (aE (fV 0) (aO 1 (aO 3 (aE (fC (.str "store")) (aE (fV 4) bZ)))))) (cO (fV 6) bO)))))
   aW)
   (b8 (Y5 (fB (f2 YK (fV 5) (fC (.int 6))))
   (bY (aH (cO (fC (.str "put")) (cO (cE 5 [1,2] ZQ (aE (fV 0) (aO 1 (aO 3 (aE (fC (.str "put")) (aE (fV 4) bZ)))))) (cO (fV 6) (cO (fV 8) bO))))))
   aW)
   (b8 (Y5 (fB (f2 YK (fV 5) (fC (.int 7))))
   (bY (aH (cO (fC (.str "pick")) (cO (fV 8) (cO (fV 6) (cO (fV 7) bO))))))
   aW)
   (bY (aH (cO (f2 bV (XW (cO (fC (.str "over")) (cO (fC (.str "plus")) (cO (fC (.str "minus")) (cO (fC (.str "times")) (cO (fC (.str "least")) (cO (fC (.str "most")) (cO (fC (.str "less")) bO)))))))) (cE 3 [1] bF (aE (fV 0) (aO 1 (aE (fC (.int 7)) bZ))))) (cO (fV 6) (cO (fV 7) bO)))))))))))))
def RE:cB:=a8 9 [1,3] OG
def SH:VS:=
   (b8 (Z5 3 (xV (cE 3 [1] ZM (aE (fV 0) (aO 1 (aE (XW (cO (fV 2) (cO (f2 oMin (fC (.int 64)) (f2 aR (fV 2) (cE 3 [1] bF (aE (fV 0) (aO 1 (aE (fC (.int 9)) bZ)))))) (cO (fC (.int 64)) bO)))) bZ))))))
   (b8 (Z5 4 (xV (cE 3 [1] ZM (aE (fV 0) (aO 1 (aE (XW (cO (fC (.int 2)) (cO (fC (.int 4)) (cO (fC (.int 1000)) bO)))) bZ))))))
   (bY (W5 [0,1,4] 1 (iR1 (fV 3)) (gN 3) U2 (cE 3 [1] bF (aE (fV 0) (aO 1 (aE (fV 2) bZ))))))))
def VJ:cB:=a8 5 [1] SH
def UA:VS:=
   (b8 (Y5 (fB (f2 YK (fV 0) (fC (.str "pick"))))
   (bY (K1 (fB (f2 YK (f2 bV (fV 1) (fC (.int 0))) (fC (.int 0)))) (f2 bV (fV 1) (fC (.int 2))) (f2 bV (fV 1) (fC (.int 1)))))
   aW)
   (b8 (NJ (fV 1) (FC 2 (aN (gN 2) (aN (gN 3) WD))))
   (b8 (Y5 (fB (f2 (UG bb) (fV 0) (aH (cO (fC (.str "least")) (cO (fC (.str "most")) bO)))))
   (bY (f2 bV (f1 DR (fV 1)) (K1 (fB (f2 YK (fV 0) (fC (.str "least")))) (fC (.int 0)) (fC (.int 1)))))
   aW)
   (b8 (Y5 (fB (f2 YK (fV 0) (fC (.str "less"))))
   (bY (K1 (fB (f2 BN (fV 3) (fV 2))) (fC (.int 1)) (fC (.int 0))))
   aW)
   (b8 (Y5 (fB (f2 YK (fV 0) (fC (.str "over"))))
   (bY (K1 (fB (f2 YK (fV 3) (fC (.int 0)))) (fC .non) (HE (fV 3) (f2 aR (fV 2) (fC (.int 1))) (fV 3))))
   aW)
   (b8 (Z5 4 (xV (f2 bV (AZ (OR (fC (.str "plus")) (f2 aR (fV 2) (fV 3)) (OR (fC (.str "minus")) (f2 SR (f2 aR (fV 2) (fC (.int 1000))) (fV 3)) (OR (fC (.str "times")) (f2 SS (fV 2) (fV 3)) Tb)))) (fV 0))))
   (bY (f2 SR (fV 4) (f2 SS (f2 L6 (fV 4) (fC (.int 1000))) (fC (.int 1000)))))))))))
def YI:cB:=a8 5 [] UA
def QI:VS:=
   (b8 (Y5 (fB (f2 (UG ba) (f2 bV (fV 0) (fC (.int 0))) (aH (cO (fC (.str "load")) (cO (fC (.str "take")) (cO (fC (.str "store")) (cO (fC (.str "put")) bO)))))))
   (b8 (Z5 4 (xV (cE 2 [] YI (aE (f2 bV (fV 0) (fC (.int 0))) (aE (fV 2) bZ)))))
   (bY (aH (cO (fV 4) (cO (K1 (fB (f2 QQ (fV 4) (fC .non))) (fC (.str "nought")) (fC .non)) bO)))))
   aW)
   (b8 (Z5 5 (xV (f2 aR (f2 bV (fV 0) (fC (.int 1))) (fV 1))))
   (b8 (Y5 (NE (fB (f2 YK (f2 bV (fV 0) (fC (.int 0))) (fC (.str "take")))) (fB (f2 YK (f2 bV (fV 2) (fC (.int 0))) (fC (.int 0)))))
   (bY (aH (cO (f2 bV (fV 2) (fC (.int 1))) (cO (fC .non) bO))))
   aW)
   (b8 (Y5 (NE (fB (f2 YK (f2 bV (fV 0) (fC (.int 0))) (fC (.str "put")))) (fB (f2 YK (f2 bV (fV 2) (fC (.int 1))) (fC (.int 0)))))
   (bY (aH (cO (fC .non) (cO (fC .non) bO))))
   aW)
   (b8 (Y5 (fB (f2 oGe (fV 5) (f1 YY (fO 3))))
   (bY (aH (cO (fC .non) (cO (fC (.str "beyond")) bO))))
   aW)
   (b8 (Y5 (fB (f2 (UG bb) (f2 bV (fV 0) (fC (.int 0))) (aH (cO (fC (.str "load")) (cO (fC (.str "take")) bO)))))
   (bY (aH (cO (f2 bV (fO 3) (fV 5)) (cO (fC .non) bO))))
   aW)
   (b8 (F3 3 (fV 5) (f2 bV (fV 2) (fC (.int 0))))
   (bY (aH (cO (fC .non) (cO (fC .non) bO)))))))))))
def T0:cB:=a8 6 [3] QI
def NO:VS:=
   (b8 (Y5 (fB (f2 YK (f2 bV (fV 0) (fC (.int 0))) (fC (.str "number"))))
   (bY (XW bO))
   aW)
   (bY (K1 (fB (f2 (UG bb) (f2 bV (fV 0) (fC (.int 0))) (aH (cO (fC (.str "load")) (cO (fC (.str "take")) (cO (fC (.str "store")) (cO (fC (.str "put")) bO))))))) (f1 L7 (fSl (fV 0) (pSo (fC (.int 2))) pNo)) (f1 L7 (fSl (fV 0) (pSo (fC (.int 1))) pNo)))))
def RY:cB:=a8 1 [] NO
def NP:VS:=
   (b8 (Z5 1 (xO (XW (cO (f2 (SQ GG TF) (fV 0) (fC (.fn "NoBlock"))) (cO (f2 (SQ GG TF) (fV 0) (fC (.fn "NoCells"))) (cO (f2 (SQ GG TF) (fV 0) (fC (.fn "NoRow"))) (cO (f2 (SQ GG TF) (fV 0) (fC (.fn "NoLanes"))) bO)))))))
   (b8 (MJ 1 mExt (cO (XW (cO (f2 (SQ GG TF) (fV 0) (fC (.fn "NoPlan"))) (cO (f2 (SQ GG TF) (fV 0) (fC (.fn "NoProgram"))) (cO (f2 (SQ GG TF) (fV 0) (fC (.fn "NoTree"))) (cO (f2 (SQ GG TF) (fV 0) (fC (.fn "NoLoop"))) bO))))) bO))
   (b8 (MJ 1 mExt (cO (XW (cO (f2 (SQ GG TF) (fV 0) (fC (.fn "NoText"))) (cO (f2 (SQ GG TF) (fV 0) (fC (.fn "NoName"))) (cO (f2 (SQ GG TF) (fV 0) (fC (.fn "TooMany"))) (cO (f2 (SQ GG TF) (fV 0) (fC (.fn "TooLong"))) bO))))) bO))
   (b8 (MJ 1 mExt (cO (XW (cO (f2 (SQ GG TF) (fV 0) (fC (.fn "NotValid"))) (cO (f2 (SQ GG TF) (fV 0) (fC (.fn "Nothing"))) bO))) bO))
   (b8 (Y5 (GK (fB (f2 HZ (f2 HX (fO 1) (fC (.bl ba))) (fC (.int 1)))) (VY (fB (f2 (SQ GG TF) (fV 0) (fC (.ty "ValueError"))))))
   (bY (aH (cO (fC (.str "refused")) (cO (f1 oNeg (fC (.int 1))) bO))))
   aW)
   (bY (aH (cO (fC (.str "refused")) (cO (f2 HY (fO 1) (fC (.bl ba))) bO)))))))))
def VM:cB:=a8 2 [] NP
def Z3(R:cB):VS:=
   (Y5 (NE (fB (f2 HZ (fNl 4 1) (XW bO))) (NE (fB (f2 oLt (fV 3) (fC (.int 3)))) (NE (fB (f2 BN (fV 2) (fC (.int 1)))) (fB (f2 YK (cE 3 [1] bF (aE (fV 0) (aO 1 (aE (fC (.int 4)) bZ)))) (fC (.int 0)))))))
   (b8 (F2 8 9 (xV (cE 3 [1] ZM (aE (fV 0) (aO 1 (aP 4 1 bZ))))) (xV (cE 3 [1] bF (aE (fV 0) (aO 1 (aE (fV 2) bZ))))))
   (b8 (CB 4 0 10 (cO (f2 aR (fNv 4 0) (fC (.int 1))) (cO (f2 L6 (fV 9) (fC (.int 2))) bO)))
   (b8 (Z5 11 (xV (cE 6 [1,4] R (aE (fV 0) (aO 1 (aE (f2 SR (fV 9) (fV 10)) (aE (f2 aR (fV 3) (fC (.int 1))) (aO 4 (aE (fV 5) bZ)))))))))
   (b8 (Z5 12 (xV (cE 6 [1,4] R (aE (fV 0) (aO 1 (aE (fV 10) (aE (f2 aR (fV 3) (fC (.int 1))) (aO 4 (aE (fV 5) bZ)))))))))
   (b8 (MJ 6 FO (cO (aH (cO (fC (.str "if")) (cO (fV 8) (cO (fV 11) (cO (fV 12) bO))))) bO))
   (Z5 2 (xV (f2 SR (f2 SR (fV 2) (fC (.int 1))) (fV 9)))))))))
   (b8 (Z5 13 (xV (cE 4 [1] (insD 3 RE) (aE (fV 0) (aO 1 (aP 4 1 (aE (fV 5) bZ)))))))
   (b8 (Y5 (fB (f2 (UG ba) (f2 bV (fV 13) (fC (.int 0))) (aH (cO (fC (.str "store")) (cO (fC (.str "put")) bO)))))
   (CA 4 1 (cO (fNv 4 0) bO))
   aW)
   (b8 (CC 4 0 (f2 aR (fNv 4 0) (fC (.int 1))))
   (b8 (MJ 6 FO (cO (fV 13) bO))
   (Z5 2 (xV (f2 SR (fV 2) (fC (.int 1))))))))))
def ZB(R:cB):VS:=
   (b8 (F2 6 7 (xO (XW bO)) (xV (f1 YY (fNl 4 1))))
   (b8 (OT (fB (f2 BN (fV 2) (fC (.int 0))))
   (Z3 R))
   (b8 (Y5 (fB (f2 BN (fV 3) (fC (.int 0))))
   (J3 4 1 (XW bO) (fV 7))
   aW)
   (bY (f1 OO (fO 6))))))
def aK:Nat->cB:=recV λR=>a8 14 [1,4] (ZB R)
def QJ:VS:=
   (b8 (Z5 3 (xV (cE 3 [1] ZM (aE (fV 0) (aO 1 (aE (XW (cO (fC (.int 3)) (cO (fC (.int 6)) (cO (fC (.int 64)) bO)))) bZ))))))
   (b8 (Z5 4 (xV (cE 5 [1] (DG (.nst [b5,b3 0] [.int 0]) 4 (aK 8)) (aE (fV 0) (aO 1 (aE (cE 3 [1] bF (aE (fV 0) (aO 1 (aE (f2 aR (fV 2) (fC (.int 1))) bZ)))) (aE (fC (.int 0)) (aE (fV 3) bZ))))))))
   (bY (aH (cO (cE 3 [1] ZM (aE (fV 0) (aO 1 (aE (XW (cO (fC (.int 0)) (cO (fV 3) (cO (cE 3 [1] bF (aE (fV 0) (aO 1 (aE (f2 aR (fV 3) (fC (.int 1))) bZ)))) bO)))) bZ)))) (cO (fV 4) bO))))))
def T1:cB:=a8 5 [1] QJ
def WC(R:cB):VS:=
   (bY (f1 oSum (W5 [] 1 (Q9 (fV 0)) (gN 0) U2 (f2 aR (fC (.int 1)) (K1 (fB (f2 YK (f2 bV (fV 0) (fC (.int 0))) (fC (.str "if")))) (f2 aR (cE 1 [] R (aE (f2 bV (fV 0) (fC (.int 2))) bZ)) (cE 1 [] R (aE (f2 bV (fV 0) (fC (.int 3))) bZ))) (fC (.int 0)))))))
def ZL:Nat->cB:=recV λR=>a8 1 [] (WC R)
def bS(R:cB):VS:=
   (b8 (Z5 5 (xV (fC .non)))
   (b8 (Y5 (fB (f2 YK (f2 bV (fV 4) (fC (.int 0))) (fC (.str "if"))))
   (b8 (Z5 6 (xV (f2 aR (f2 aR (fV 1) (fC (.int 1))) (cE 1 [] (ZL 8) (aE (f2 bV (fV 4) (fC (.int 2))) bZ)))))
   (Y5 (fB (f2 HZ (f2 bV (fO 2) (f2 bV (fV 4) (fC (.int 1)))) (fC (.int 0))))
   (Z5 5 (xV (cE 4 [2,3] R (aE (f2 bV (fV 4) (fC (.int 2))) (aE (f2 aR (fV 1) (fC (.int 1))) (aO 2 (aO 3 bZ)))))))
   (Z5 5 (xV (cE 4 [2,3] R (aE (f2 bV (fV 4) (fC (.int 3))) (aE (fV 6) (aO 2 (aO 3 bZ)))))))))
   (Y5 (fB (f2 YK (f2 bV (fV 4) (fC (.int 0))) (fC (.str "number"))))
   (J2 2 (fV 1) (f2 bV (fV 4) (fC (.int 1))))
   (b8 (NJ (cE 4 [3] T0 (aE (fV 4) (aE (fC (.int 0)) (aE (W5 [2] 1 (Q9 (cE 1 [] RY (aE (fV 4) bZ))) (gN 1) U2 (f2 bV (fO 0) (fV 1))) (aO 3 bZ))))) (FC 2 (aN (gN 7) (aN (gN 8) WD))))
   (b8 (J2 2 (fV 1) (fV 7))
   (Z5 5 (xV (K1 (fB (f2 VQ (fV 8) (fC .non))) (aH (cO (fV 1) (cO (fV 8) bO))) (fC .non))))))))
   (b8 (Y5 (fB (f2 VQ (fV 5) (fC .non)))
   (bY (fV 5))
   aW)
   (Z5 1 (xV (f2 aR (fV 1) (cE 1 [] (ZL 8) (aE (aH (cO (fV 4) bO)) bZ))))))))
def ZA(R:cB):VS:=
   (b8 (MI (Q9 (fV 0)) (gN 4)
   (bS R))
   (bY (fC .non)))
def bK:Nat->cB:=recV λR=>a8 9 [2,3] (ZA R)
def RI:VS:=
   (sTry (bY (cE 1 [] ZG (aE (fV 0) bZ)))
   (GH 1 YF (aE (fV 0) bZ))
   1 (bY (cE 1 [] VM (aE (fV 1) bZ))))
def WN:cB:=a8 2 [] RI
def O5:VS:=
   (b8 (Z5 7 (xV (cE 3 [1] VJ (aE (fV 0) (aO 1 (aE (f2 bV (fV 2) (fC (.int 0))) bZ))))))
   (b8 (Z5 8 (xO (f1 L7 (fV 7))))
   (b8 (Z5 9 (xV (cE 3 [2] (insE 2 (bK 8)) (aE (f2 bV (fV 2) (fC (.int 1))) (aE (fC (.int 0)) (aO 8 bZ))))))
   (Y5 (fB (f2 HZ (cE 2 [] AM (aE (fV 4) (aE (fV 7) bZ))) (aH (cO (fO 8) (cO (K1 (fB (f2 QQ (fV 9) (fC .non))) (fC .non) (aH (cO (f2 bV (fV 5) (f2 bV (fV 9) (fC (.int 0)))) (cO (f2 bV (fV 9) (fC (.int 1))) bO)))) bO)))))
   (bY (fC (.bl bb)))
   aW))))
def A9:VS:=
   (b8 (Z5 1 (xO (XW bO)))
   (b8 (Z5 2 (xV (cE 3 [1] T1 (aE (fV 0) (aO 1 (aE (fC (.int 20)) bZ))))))
   (b8 (Z5 3 (xV (cE 1 [] WN (aE (fV 2) bZ))))
   (b8 (Y5 (fB (f2 YK (fV 3) (aH (cO (fC (.str "refused")) (cO (fC (.int 11)) bO)))))
   (bY (f2 BN (cE 1 [] (ZL 8) (aE (f2 bV (fV 2) (fC (.int 1))) bZ)) (fC (.int 8))))
   aW)
   (b8 (NJ (fV 3) (FC 2 (aN (gN 4) (aN (gN 5) WD))))
   (b8 (Y5 (GK (fB (f2 BP (cE 1 [] YH (aE (fV 4) bZ)) (fC (.bl ba)))) (fB (f2 BN (f1 YY (f2 bV (fV 4) (fC (.int 1)))) (fC (.int 40)))))
   (bY (fC (.bl bb)))
   aW)
   (b8 (MI (iR1 (fC (.int 4))) (gN 6)
   O5)
   (bY (f2 YK (f2 HW (fV 5) (fC .non)) (f2 SR (cE 1 [] (ZL 8) (aE (f2 bV (fV 2) (fC (.int 1))) bZ)) (f1 YY (W5 [] 1 (Q9 (fV 5)) (gN 0) (fB (f2 VQ (fV 0) (fC .non))) (fV 0)))))))))))))
def K8:cB:=a8 10 [] A9
end L2
namespace RR
open PySem L2
section
open PySem.Spec PyProof.Rows
def mkDg{P:Az}{w:Sg}{K:Ag}{mg:Sb->Option Rz}{base:Si}{x:Sb}{st:Sj}{f:Sa}{ps:List Sb}{sp:Sp}{k:Nat}(X:∀x a,Ds K Sc x=b3 (b3 (.ref a))->mg x=b3 (.ref a))(p:A4 K x st f)(ok:∀{fd:Ch},OY K x x st f fd->YV P w K mg base CX0 k f fd ps sp)(j:∀{kV doc g:Rz}{h:Option Sa}{e ct:Rz}(us:List Rz),us.length=ps.length->bindArgs (Hh x x (aB st) (bH st) (cJ st) .none kV doc g h e ct) ⟨us,[]⟩=pure (ps.zip us)):Def P w K mg base x k ps sp f:=by obtain⟨l,od,kV,doc,g,h,e,ct,i,a,b,c,d⟩:=p;have U:=OD (st:=st) b c d;exact⟨X _ _ a,⟨_,ok U,U.binds λ_ _ _ _ _ _=>j⟩,d⟩
def okWg(P:Az)(w:Sg)(K:Ag)(mg:Sb->Option Rz)(base:Si){x q:Sb}{st:Sj}{f:Sa}{fd:Ch}(N ps:List Sb)(k:Nat)(g:VS)(ml:List Nat)(F:OY K x q st f fd)(S:aA N ps (cJ st))(d:∀{a:Rz}{A:Cb}{outer:List Env}{s:Ad}{H:Hp}{E:XK}(_:aA N ps (cJ st)) (b:Z4 k (A.deeper (envOfC q (cJ st) s.heap.objs.size f a))) (_:(A.deeper (envOfC q (cJ st) s.heap.objs.size f a)).units+64<cLine) (_:(A.deeper (envOfC q (cJ st) s.heap.objs.size f a)).units+1<cLine),W1 (TK CX0 P w K mg base N q (cJ st) f a A outer s H E).nox (bH st) (V5 K ml g))(c:ps.length<=N.length:=by decide):YV P w K mg base CX0 (k+1) f fd ps (spV K ml ps.length (a8 N.length ml g)):=
 OY.okV F S c λa A outer s H E b=>d S b b.units (To b)
end
section
open PySem.Spec PyProof.Rows
def eJ{P:Az}{w:Sg}{K:Ag}{mg:Sb->Option Rz}{base:Si}{x:Sb}{st:Sj}{f:Sa}{ps:List Sb}{i:List cT->Option Xw}{k:Nat}(X:∀x a,Ds K Sc x=b3 (b3 (.ref a))->mg x=b3 (.ref a))(p:A4 K x st f)(ok:∀{fd:Ch},OY K x x st f fd->YV P w K mg base (CXv P w) k f fd ps (spX K ps.length i))(l:∀{kV doc g:Rz}{h:Option Sa}{e ct:Rz}(us:List Rz),us.length=ps.length->bindArgs (Hh x x (aB st) (bH st) (cJ st) .none kV doc g h e ct) ⟨us,[]⟩=pure (ps.zip us)):DefX P w K mg base x k ps i f:=by obtain⟨m,od,kV,doc,g,h,e,ct,j,a,b,c,d⟩:=p;have U:=OD (st:=st) b c d;exact⟨X _ _ a,⟨_,ok U,U.binds λ_ _ _ _ _ _=>l⟩,d⟩
def iY{P:Az}{w:Sg}{K:Ag}{mg:Sb->Option Rz}{base:Si}{x:Sb}{st:Sj}{f:Sa}{ps:List Sb}{sp:Sp}{k:Nat}(X:∀x a,Ds K Sc x=b3 (b3 (.ref a))->mg x=b3 (.ref a))(p:A4 K x st f)(ok:∀{fd:Ch},OY K x x st f fd->FnH P w K mg base k f fd ps sp)(j:∀{kV doc g:Rz}{h:Option Sa}{e ct:Rz}(us:List Rz),us.length=ps.length->bindArgs (Hh x x (aB st) (bH st) (cJ st) .none kV doc g h e ct) ⟨us,[]⟩=pure (ps.zip us)):DefH P w K mg base x k ps sp f:=by obtain⟨l,od,kV,doc,g,h,e,ct,i,a,b,c,d⟩:=p;have U:=OD (st:=st) b c d;exact⟨X _ _ a,⟨_,ok U,U.binds λ_ _ _ _ _ _=>j⟩,d⟩
end
abbrev Gn(K:Ag)(x:Sb)(v:Rz):Prop:=Ds K Sc x=b3 (b3 v)
def tS(xs:List (Sb×Nat)):Sk:=⟨.type "tuple",b5,.seq (xs.map λz=>Kc z.1 z.2).toArray 0,#[]⟩
theorem Len1{α:Type}{P:List α->Prop}(z:∀a,P [a]):∀us:List α,us.length=1->P us
 |[a],_=>z a
theorem Len2{α:Type}{P:List α->Prop}(z:∀a b,P [a,b]):∀us:List α,us.length=2->P us
 |[a,b],_=>z a b
theorem Len3{α:Type}{P:List α->Prop}(z:∀a b c,P [a,b,c]):∀us:List α,us.length=3->P us
 |[a,b,c],_=>z a b c
theorem Len4{α:Type}{P:List α->Prop}(z:∀a b c d,P [a,b,c,d]):∀us:List α,us.length=4->P us
 |[a,b,c,d],_=>z a b c d
theorem Len5{α:Type}{P:List α->Prop}(z:∀a b c d e,P [a,b,c,d,e]):∀us:List α,us.length=5->P us
 |[a,b,c,d,e],_=>z a b c d e
theorem Len6{α:Type}{P:List α->Prop}(z:∀a b c d e f,P [a,b,c,d,e,f]):∀us:List α,us.length=6->P us
 |[a,b,c,d,e,f],_=>z a b c d e f
def me{P:Az}{w:Sg}{K:Ag}{mg:Sb->Option Rz}{base:Si}{C f:Sa}{fd:Ch}(F:OY K "__init__" "Flat.__init__" (mem 65 0) f fd)(c:Cls K C)(b:ZD K C "laid")(a:ZD K C "numbers"):YV P w K mg base CX0 1 f fd ["self"] (spI C "laid" "numbers"):=
 Xo F DK c b a (by decide) λ_ _ _ _ _ _ d=>ini2 (pv 0) (pv 0)
structure Txt(w:Sg)(K:Ag)(mg:Sb->Option Rz):Prop where
 fnm:∀x a,Gn K x (.ref a)->mg x=b3 (.ref a)
 fni:∀x i t,Gn K x (.int i t)->mg x=b3 (.int i t)
 nc_Flat:Ds K Sc "Flat"=b3 (b3 (.ref 481))
 MZ:Cls K 481
 n1_Flat:ZD K 481 "laid"
 n2_Flat:ZD K 481 "numbers"
 mk_Flat:Lm K 481=ba
 kp_Flat:Em K (.ref 481)=ba
 p_Flat:A4m K "Flat" "__init__" "Flat.__init__" (mem 65 0) 445
 p_x0:A4 K "is_whole" (top 19) 224
 p_x1:A4 K "plus" (top 20) 231
 p_x2:A4 K "minus" (top 21) 238
 p_x3:A4 K "times" (top 22) 245
 p_x4:A4 K "least" (top 23) 252
 p_x5:A4 K "most" (top 24) 259
 p_x6:A4 K "less" (top 25) 266
 p_x7:A4 K "over" (top 26) 273
 p_x8:A4 K "pick" (top 27) 280
 p_x9:A4 K "done" (top 29) 288
 p_x10:A4 K "parts_of" (top 38) 305
 p_x11:A4 K "makes_word" (top 39) 312
 p_x12:A4 K "place_of" (top 40) 319
 p_x13:A4 K "names_of" (top 41) 324
 p_x14:A4 K "with_names" (top 42) 331
 p_x15:A4 K "may_name" (top 43) 338
 p_x16:A4 K "fits" (top 44) 345
 p_x17:A4 K "is_row" (top 45) 350
 p_x18:A4 K "is_block" (top 46) 357
 p_x19:A4 K "is_cells" (top 49) 362
 p_x20:A4 K "touches" (top 50) 369
 p_x21:A4 K "do_on_cell" (top 51) 376
 o_a2:K.lookup 377=b3 ⟨.type "tuple",b5,.seq #[.int 0 708] 0,#[]⟩
 a_x22:Ds K Sc "do_row"=b3 (b3 (.ref 384))
 l_x22:K.lookup 384=b3 ⟨.type "function",b5,.func (Hh "do_row" "do_row" (aB (top 52)) (bH (top 52)) (cJ (top 52)) (.ref 377) .none .none KK.m1 b5 (.ref 383) .none),#[]⟩
 c_x22:Jw K (.ref 383) "do_row"=ba
 k_x22:Em K (.ref 384)=ba
 p_x23:A4 K "do_rows" (top 53) 389
 p_x24:A4 K "check_run" (top 54) 396
 p_x25:A4 K "run" (top 55) 403
 p_x26:A4 K "is_if" (top 61) 410
 p_x27:A4 K "sight_behind_if" (top 62) 417
 p_x28:A4 K "sight_behind" (top 63) 424
 p_x29:A4 K "is_tree" (top 64) 431
 p_x48:A4m K "Flat" "lay" "Flat.lay" (mem 65 1) 452
 p_x49:A4m K "Flat" "both" "Flat.both" (mem 65 2) 459
 p_x51:A4m K "Flat" "lay_if" "Flat.lay_if" (mem 65 4) 471
 p_x52:A4m K "Flat" "masked" "Flat.masked" (mem 65 5) 478
 p_x50:A4m K "Flat" "lay_rows" "Flat.lay_rows" (mem 65 3) 464
 p_x30:A4 K "flattened" (top 66) 490
 p_x31:A4 K "_law_cell_at" (top 68) 497
 p_x32:A4 K "_law_mixed" (top 69) 504
 p_x33:A4 K "_law_draw" (top 70) 511
 p_x34:A4 K "_law_pick" (top 71) 518
 p_x35:A4 K "_law_place" (top 72) 525
 p_x36:A4 K "_law_row" (top 73) 530
 p_x37:A4 K "_law_cells" (top 74) 535
 p_x38:A4 K "_law_deed" (top 75) 542
 p_x39:A4 K "_law_step" (top 76) 549
 p_x40:A4 K "_law_names" (top 77) 556
 p_x41:A4 K "_law_which" (top 78) 563
 p_x42:A4 K "_law_tree_rows" (top 79) 570
 p_x43:A4 K "_law_tree" (top 80) 577
 p_x44:A4 K "_law_many" (top 81) 582
 p_x45:A4 K "_law_tree_play" (top 82) 587
 p_x46:A4 K "_law_ask" (top 83) 594
 n_len:mg "len"=b5
 n_range:mg "range"=b5
 n_min:mg "min"=b5
 n_max:mg "max"=b5
 VA:mg "list"=b5
 n_tuple:mg "tuple"=b5
 n_sorted:mg "sorted"=b5
 n_isinstance:mg "isinstance"=b5
 n_bool:mg "bool"=b5
 n_int:mg "int"=b5
 n_str:mg "str"=b5
 n_enumerate:mg "enumerate"=b5
 n_zip:mg "zip"=b5
 n_all:mg "all"=b5
 n_any:mg "any"=b5
 n_sum:mg "sum"=b5
 n_ValueError:mg "ValueError"=b5
 g_MOST_WORD:Gn K "MOST_WORD" (.int 999 460)
 o_a11:K.lookup 217=b3 (tS [("plus",462),("minus",463),("times",464),("least",465),("most",466),("less",467),("over",468)])
 g_DEEDS:Gn K "DEEDS" (.ref 217)
 o_a19:K.lookup 281=b3 ⟨.type "dict",b5,.dict #[⟨Bz w.params "plus",.str "plus" 544,.ref 231⟩,⟨Bz w.params "minus",.str "minus" 545,.ref 238⟩,⟨Bz w.params "times",.str "times" 546,.ref 245⟩,⟨Bz w.params "least",.str "least" 547,.ref 252⟩,⟨Bz w.params "most",.str "most" 548,.ref 259⟩,⟨Bz w.params "less",.str "less" 549,.ref 266⟩,⟨Bz w.params "over",.str "over" 550,.ref 273⟩] 7,#[]⟩
 g_MADE:Gn K "MADE" (.ref 281)
 g_MOST_SURE:Gn K "MOST_SURE" (.int 64 570)
 g_MOST_ROWS:Gn K "MOST_ROWS" (.int 40 572)
 g_MOST_PLACE:Gn K "MOST_PLACE" (.int 63 574)
 o_a32:K.lookup 289=b3 (tS [("row",576),("row",577)])
 g_DEED_PARTS:Gn K "DEED_PARTS" (.ref 289)
 o_a40:K.lookup 291=b3 (tS [("word",580)])
 o_a44:K.lookup 292=b3 (tS [("row",582),("row",583),("row",584)])
 o_a46:K.lookup 293=b3 (tS [("place",586)])
 o_a50:K.lookup 294=b3 (tS [("place",588),("row",589),("row",590)])
 o_a53:K.lookup 295=b3 (tS [("place",592),("row",593)])
 o_a57:K.lookup 296=b3 (tS [("place",595),("row",596),("row",597)])
 o_a58:K.lookup 290=b3 ⟨.type "dict",b5,.dict #[⟨Bz w.params "number",.str "number" 579,.ref 291⟩,⟨Bz w.params "pick",.str "pick" 581,.ref 292⟩,⟨Bz w.params "load",.str "load" 585,.ref 293⟩,⟨Bz w.params "take",.str "take" 587,.ref 294⟩,⟨Bz w.params "store",.str "store" 591,.ref 295⟩,⟨Bz w.params "put",.str "put" 594,.ref 296⟩] 6,#[]⟩
 g_OTHER_PARTS:Gn K "OTHER_PARTS" (.ref 290)
 o_a67:K.lookup 297=b3 (tS [("load",605),("take",606)])
 g_READERS:Gn K "READERS" (.ref 297)
 o_a70:K.lookup 298=b3 (tS [("store",608),("put",609)])
 g_WRITERS:Gn K "WRITERS" (.ref 298)
 g_MOST_CELLS:Gn K "MOST_CELLS" (.int 64 682)
 g_MOST_TREE_ROWS:Gn K "MOST_TREE_ROWS" (.int 20 749)
 g_MOST_DEEP:Gn K "MOST_DEEP" (.int 3 751)
 g_ZERO:Gn K "ZERO" (.int 0 753)
 g_ONE:Gn K "ONE" (.int 1 755)
 g_Nothing:Gn K "Nothing" (.ref 214)
 g_NotValid:Gn K "NotValid" (.ref 202)
 g_TooLong:Gn K "TooLong" (.ref 183)
 g_TooMany:Gn K "TooMany" (.ref 171)
 g_NoName:Gn K "NoName" (.ref 159)
 g_NoText:Gn K "NoText" (.ref 140)
 g_NoLoop:Gn K "NoLoop" (.ref 128)
 g_NoTree:Gn K "NoTree" (.ref 116)
 g_NoProgram:Gn K "NoProgram" (.ref 104)
 g_NoPlan:Gn K "NoPlan" (.ref 92)
 g_NoLanes:Gn K "NoLanes" (.ref 80)
 g_NoRow:Gn K "NoRow" (.ref 68)
 g_NoCells:Gn K "NoCells" (.ref 49)
 g_NoBlock:Gn K "NoBlock" (.ref 37)
 xc_NoTree:XE K "NoTree" 116
 xc_TooLong:XE K "TooLong" 183
 xk:xiOk K GG TF=ba
 p_x47:A4 K "law" (top 84) 599
section
open PySem.Spec PyProof.Rows
def V0(P:Az){w:Sg}{K:Ag}{mg:Sb->Option Rz}(base:Si){x:Sb}{st:Sj}{f:Sa}(N ps:List Sb)(k:Nat)(g:VS)(ml:List Nat)(T:Txt w K mg)(p:A4 K x st f)(h:∀{a:Rz}{A:Cb}{outer:List Env}{s:Ad}{H:Hp}{E:XK}(_:aA N ps (cJ st)) (i:Z4 k (A.deeper (envOfC x (cJ st) s.heap.objs.size f a))) (_:(A.deeper (envOfC x (cJ st) s.heap.objs.size f a)).units+64<cLine) (_:(A.deeper (envOfC x (cJ st) s.heap.objs.size f a)).units+1<cLine),W1 (TK CX0 P w K mg base N x (cJ st) f a A outer s H E).nox (bH st) (V5 K ml g))(S:aA N ps (cJ st):=by exact DK)(b:ps.length<=N.length:=by decide)(d:∀{kV doc c:Rz}{e:Option Sa}{a ct:Rz}(us:List Rz),us.length=ps.length->bindArgs (Hh x x (aB st) (bH st) (cJ st) .none kV doc c e a ct) ⟨us,[]⟩=pure (ps.zip us):=by first|exact Len1 λ_=>rfl|exact Len2 λ_ _=>rfl|exact Len3 λ_ _ _=>rfl|exact Len4 λ_ _ _ _=>rfl|exact Len5 λ_ _ _ _ _=>rfl|exact Len6 λ_ _ _ _ _ _=>rfl):aL P w K mg base x (k+1) ps ml (a8 N.length ml g) f:=
 mkDg T.fnm p (λF=>okWg P w K mg base N ps k g ml F S h b) d
def mkWN(P:Az){w:Sg}{K:Ag}{mg:Sb->Option Rz}(base:Si){c x q:Sb}{st:Sj}{f:Sa}(N ps:List Sb)(k:Nat)(g:VS)(ml:List Nat)(T:Txt w K mg)(p:A4m K c x q st f)(i:∀{a:Rz}{A:Cb}{outer:List Env}{s:Ad}{H:Hp}{E:XK}(_:aA N ps (cJ st)) (j:Z4 k (A.deeper (envOfC q (cJ st) s.heap.objs.size f a))) (_:(A.deeper (envOfC q (cJ st) s.heap.objs.size f a)).units+64<cLine) (_:(A.deeper (envOfC q (cJ st) s.heap.objs.size f a)).units+1<cLine),W1 (TK CX0 P w K mg base N q (cJ st) f a A outer s H E).nox (bH st) (V5 K ml g))(S:aA N ps (cJ st):=by exact DK)(b:ps.length<=N.length:=by decide)(e:∀{kV doc d:Rz}{h:Option Sa}{a ct:Rz}(us:List Rz),us.length=ps.length->bindArgs (Hh x q (aB st) (bH st) (cJ st) .none kV doc d h a ct) ⟨us,[]⟩=pure (ps.zip us):=by first|exact Len1 λ_=>rfl|exact Len2 λ_ _=>rfl|exact Len3 λ_ _ _=>rfl|exact Len4 λ_ _ _ _=>rfl|exact Len5 λ_ _ _ _ _=>rfl|exact Len6 λ_ _ _ _ _ _=>rfl):NB P w K mg base c x (k+1) ps ml ps.length (a8 N.length ml g) f:=
 Ul p (λF=>okWg P w K mg base N ps k g ml F S i b) e
end
section
variable{P:Az}{w:Sg}{K:Ag}{mg:Sb->Option Rz}{base:Si}(T:Txt w K mg)
include T
def vI{x:Sb}{i:Int}{t:Nat}(g:Gn K x (.int i t)):∃u v,mg x=b3 u/\bA v u/\∀N H M,bB K N H M v (.int i):=⟨_,.int i,T.fni _ _ _ g,⟨_,rfl⟩,λ_ _ _=>.int _⟩
omit T in
def rS{N:Sa->Prop}{H:Hp}{M:Sa->Prop}{a:Sa}{xs:List (Sb×Nat)}(o:K.lookup a=b3 (tS xs))(hl:xs.length<=9:=by decide):bB K N H M (.ref a) (.tup (xs.map λz=>.str z.1)):=by
 refine .tup (xs:=xs.map λz=>.str z.1) (.inr ⟨_,_,_,o,rfl,rfl,by show(xs.map _).length<=_;rw[Ba];exact Ei hl (by decide),?_⟩) ?_
 ·show bI _ (xs.map λz => Kc z.1 z.2)
  clear o hl;induction xs with
  |nil=>exact .nil
  |cons z zs b=>exact .cons ⟨_,rfl⟩ b
 ·clear o hl
  induction xs with
  |nil=>exact .nil
  |cons z zs b=>exact .cons (.str _) b
def vS{x:Sb}{a:Sa}{xs:List (Sb×Nat)}(g:Gn K x (.ref a))(o:K.lookup a=b3 (tS xs))(hl:xs.length<=9:=by decide):∃u v,mg x=b3 u/\bA v u/\∀N H M,bB K N H M v (.tup (xs.map λz=>.str z.1)):=⟨_,.ref a,T.fnm _ _ g,rfl,λ_ _ _=>rS o hl⟩
def vF{x:Sb}{a:Sa}(g:Gn K x (.ref a)):∃u v,mg x=b3 u/\bA v u/\∀N H M,bB K N H M v (.fn x):=⟨_,.ref a,T.fnm _ _ g,rfl,λ_ _ _=>.fn g⟩
def vX{x:Sb}{C:Sa}(h:XE K x C):∃C,XE K x C/\mg x=b3 (.ref C):=⟨_,h,T.fnm _ _ h.xc.at_⟩
def dZ:∃u v,mg "MADE"=b3 u/\bA v u/\∀N H M,bB K N H M v V9:=
 ⟨_,.ref 281,T.fnm _ _ T.g_MADE,rfl,λ_ _ _=>(.ktb (D:=[("plus",.ref 231),("minus",.ref 238),("times",.ref 245),("least",.ref 252),("most",.ref 259),("less",.ref 266),("over",.ref 273)]) ⟨(by decide),_,_,_,T.o_a19,⟨rfl,rfl,rfl⟩,rfl,(.cons rfl rfl (.cons rfl rfl (.cons rfl rfl (.cons rfl rfl (.cons rfl rfl (.cons rfl rfl (.cons rfl rfl .nil)))))))⟩ (.cons (.fn T.p_x1.ns) (.cons (.fn T.p_x2.ns) (.cons (.fn T.p_x3.ns) (.cons (.fn T.p_x4.ns) (.cons (.fn T.p_x5.ns) (.cons (.fn T.p_x6.ns) (.cons (.fn T.p_x7.ns) .nil))))))))⟩
def K0:∃u v,mg "OTHER_PARTS"=b3 u/\bA v u/\∀N H M,bB K N H M v QU:=
 ⟨_,.ref 290,T.fnm _ _ T.g_OTHER_PARTS,rfl,λ_ _ _=>(.ktb (D:=[("number",.ref 291),("pick",.ref 292),("load",.ref 293),("take",.ref 294),("store",.ref 295),("put",.ref 296)]) ⟨(by decide),_,_,_,T.o_a58,⟨rfl,rfl,rfl⟩,rfl,(.cons rfl rfl (.cons rfl rfl (.cons rfl rfl (.cons rfl rfl (.cons rfl rfl (.cons rfl rfl .nil))))))⟩ (.cons (rS T.o_a40) (.cons (rS T.o_a44) (.cons (rS T.o_a46) (.cons (rS T.o_a50) (.cons (rS T.o_a53) (.cons (rS T.o_a57) .nil)))))))⟩
def xi:XI K GG TF:=XI.of (Mi.mpr ⟨⟨_,T.xc_NoTree.xc⟩,Mi.mpr ⟨⟨_,T.xc_TooLong.xc⟩,nofun⟩⟩) T.xk
def XH:NA K "Flat" "laid" "numbers":=clsF T.nc_Flat T.MZ T.n1_Flat T.n2_Flat
def Wb:NewF P w K mg base "Flat" "laid" "numbers":=mq T.fnm (XH T) T.p_Flat (mksF T.nc_Flat T.mk_Flat T.kp_Flat) (λU c b a=>me U c b a) (Len1 λ_=>rfl)
noncomputable abbrev Nx0:List Sb:=["thing","low","high"]
abbrev KJ:List Sb:=["a","b"]
abbrev Nx8:List Sb:=["c","a","b"]
noncomputable abbrev Nx9:List Sb:=["deed","words","made"]
abbrev Qx9:List Sb:=["deed","words"]
abbrev Nx10:List Sb:=["deed"]
abbrev EL:List Sb:=["row"]
abbrev Nx13:List Sb:=["row","deed","rest"]
abbrev Nx14:List Sb:=["row","names"]
abbrev Nx15:List Sb:=["thing","able"]
abbrev Nx16:List Sb:=["part","thing","able"]
noncomputable abbrev Nx17:List Sb:=["thing","able","deed","rest","parts"]
noncomputable abbrev Nx18:List Sb:=["thing","sure","rows","able","row"]
abbrev EN:List Sb:=["thing"]
abbrev Nx19:List Sb:=["thing","sure"]
noncomputable abbrev Nx21:List Sb:=["deed","place","words","cells"]
noncomputable abbrev Nx22:List Sb:=["row","words","cells","shift","deed","place","word"]
abbrev Qx22:List Sb:=["row","words","cells","shift"]
noncomputable abbrev Nx23:List Sb:=["rows","cells","words","at","row","word","why"]
abbrev Qx23:List Sb:=["rows","cells"]
abbrev Nx24:List Sb:=["block","cells"]
noncomputable abbrev Nx25:List Sb:=["block","cells","then","words","fault"]
noncomputable abbrev Nx27:List Sb:=["thing","able","deep","sight","side","within"]
abbrev Qx27:List Sb:=["thing","able","deep"]
noncomputable abbrev Nx28:List Sb:=["things","able","deep","sight","thing"]
abbrev Qx28:List Sb:=["things","able","deep"]
abbrev Nx48:List Sb:=["self","row"]
abbrev Nx49:List Sb:=["self","mask","c"]
abbrev Nx51:List Sb:=["self","row","mask","c"]
abbrev Qx51:List Sb:=["self","row","mask"]
noncomputable abbrev Nx50:List Sb:=["self","rows","mask","row","moved"]
abbrev Qx50:List Sb:=["self","rows","mask"]
abbrev Nx52:List Sb:=["self","row","mask","deed"]
noncomputable abbrev Nx30:List Sb:=["tree","sure","rows","flat"]
abbrev Qx30:List Sb:=["tree"]
noncomputable abbrev Nx31:List Sb:=["_law_script","_law_k","_law_rest","_law_again"]
abbrev Qx31:List Sb:=["_law_script","_law_k"]
noncomputable abbrev Nx32:List Sb:=["_law_script","_law_k","_law_bound","_law_drawn"]
abbrev Qx32:List Sb:=["_law_script","_law_k","_law_bound"]
abbrev Nx33:List Sb:=["_law_script","_law_town","_law_bound"]
abbrev Nx34:List Sb:=["_law_script","_law_town","_law_some"]
noncomputable abbrev Nx35:List Sb:=["_law_script","_law_town","_law_seen","_law_deed_here","_law_room"]
noncomputable abbrev Nx36:List Sb:=["_law_script","_law_town","_law_made","_law_seen","_law_room","_law_kind","_law_a","_law_b","_law_c"]
abbrev Qx36:List Sb:=["_law_script","_law_town","_law_made","_law_seen","_law_room"]
noncomputable abbrev Nx37:List Sb:=["_law_script","_law_town","_law_low","_law_many_here","_law_small"]
abbrev Qx37:List Sb:=["_law_script","_law_town","_law_low"]
noncomputable abbrev Nx38:List Sb:=["_law_deed_here","_law_words","_law_one","_law_two","_law_whole"]
abbrev Qx38:List Sb:=["_law_deed_here","_law_words"]
noncomputable abbrev Nx39:List Sb:=["_law_row_here","_law_lane","_law_words","_law_cells_here","_law_made","_law_at"]
abbrev Qx39:List Sb:=["_law_row_here","_law_lane","_law_words","_law_cells_here"]
abbrev Nx40:List Sb:=["_law_row_here"]
abbrev Nx41:List Sb:=["_law_e","_law_own"]
abbrev Qx41:List Sb:=["_law_e"]
noncomputable abbrev Nx42:List Sb:=["_law_script","_law_town","_law_many_here","_law_deep","_law_seen","_law_room","_law_rows","_law_first","_law_c","_law_inner","_law_left","_law_one","_law_two","_law_row_here"]
abbrev Qx42:List Sb:=["_law_script","_law_town","_law_many_here","_law_deep","_law_seen","_law_room"]
noncomputable abbrev Nx43:List Sb:=["_law_script","_law_town","_law_most","_law_room","_law_rows"]
abbrev Qx43:List Sb:=["_law_script","_law_town","_law_most"]
abbrev Nx44:List Sb:=["_law_rows"]
noncomputable abbrev Nx45:List Sb:=["_law_rows","_law_number","_law_words","_law_cells_here","_law_row_here","_law_fault","_law_second","_law_made","_law_why"]
abbrev Qx45:List Sb:=["_law_rows","_law_number","_law_words","_law_cells_here"]
abbrev Nx46:List Sb:=["_law_tree_here","_law_e"]
abbrev Qx46:List Sb:=["_law_tree_here"]
noncomputable abbrev Nx47:List Sb:=["_law_script","_law_town","_law_tree_here","_law_told","_law_block","_law_where","_law_again","_law_cells_here","_law_later","_law_fault"]
abbrev Qx47:List Sb:=["_law_script"]
def D_x0:aL P w K mg base "is_whole" 1 Nx0 [] ZK 224:=
 V0 P base Nx0 Nx0 0 QF [] T T.p_x0 λb d c a=>by
  refine cR ?_ ?_
  ·exact(bU (S9 (VU (Z2 (MR T.n_isinstance (vv 0) (vty T.n_bool mG))) (YA (ZF (Z2 (MR T.n_isinstance (vv 0) (vty T.n_int eS)))))))
   (cP (cI X8))
   cC)
  exact cP (cI (iH BQ BQ s_le s_le (vv 1) (vv 0) (vv 2)))
def D_x1:aL P w K mg base "plus" 1 KJ [] GS 231:=
 V0 P base KJ KJ 0 DD [] T T.p_x1 λb d c a=>by exact(cP (cI (ZU VC Q6 (bD ZZ aU (vv 0) (vv 1)) (bD ZZ aU (b4 (by rfl) (vI T T.g_MOST_WORD)) cQ))))
def D_x2:aL P w K mg base "minus" 1 KJ [] MX 238:=
 V0 P base KJ KJ 0 HH [] T T.p_x2 λb d c a=>by exact(cP (cI (ZU VC Q6 (ZU X6 VR (vv 0) (vv 1)) (bD ZZ aU (b4 (by rfl) (vI T T.g_MOST_WORD)) cQ))))
def D_x3:aL P w K mg base "times" 1 KJ [] MY 245:=
 V0 P base KJ KJ 0 HI [] T T.p_x3 λb d c a=>by exact(cP (cI (ZU VC Q6 (bD QM T6 (vv 0) (vv 1)) (bD ZZ aU (b4 (by rfl) (vI T T.g_MOST_WORD)) cQ))))
def D_x4:aL P w K mg base "least" 1 KJ [] MW 252:=
 V0 P base KJ KJ 0 HG [] T T.p_x4 λb d c a=>by exact(cP (cI (YR (N7 rfl) Tj (by rfl) T.n_min C0 (vv 0) (vv 1))))
def D_x5:aL P w K mg base "most" 1 KJ [] GQ 259:=
 V0 P base KJ KJ 0 DB [] T T.p_x5 λb d c a=>by exact(cP (cI (YR (JD rfl) Tp (by rfl) T.n_max Xb (vv 0) (vv 1))))
def D_x6:aL P w K mg base "less" 1 KJ [] GO 266:=
 V0 P base KJ KJ 0 DA [] T T.p_x6 λb d c a=>by exact(cP (cI (XU (bR Te s_lt (vv 0) (vv 1)) cQ cQ)))
def D_x7:aL P w K mg base "over" 1 KJ [] RZ 273:=
 V0 P base KJ KJ 0 LN [] T T.p_x7 λc d b a=>by exact(cP (cI (XU (ZI b (vv 1) cQ) bP (ZU PQ MK (vv 0) (vv 1)))))
def D_x8:aL P w K mg base "pick" 1 Nx8 [] GR 280:=
 V0 P base Nx8 Nx8 0 DC [] T T.p_x8 λc d b a=>by exact(cP (cI (XU (bR (LW b) ML (vv 0) cQ) (vv 1) (vv 2))))
def D_x9:aL P w K mg base "done" 2 Qx9 [] U0 288:=
 V0 P base Nx9 Qx9 1 LJ [] T T.p_x9 λc b d a=>by
  refine cR ?_ ?_
  ·exact(bU (ZI d (vv 0) cD)
   (cP (cI (bC (D_x8 T) b (cM (cN (ZV a (vv 1) cQ)) (cM (cN (ZV a (vv 1) cQ)) (cM (cN (ZV a (vv 1) cQ)) cL))))))
   cC)
  refine cR ?_ ?_
  ·exact(bQ c.nd (aV (cN (ZV a (b4 (by rfl) (dZ T)) (vv 0)))))
  exact cP (cI (eZ (WL (K:=K) rfl T.fnm b (D_x1 T) (by decide) (WL (K:=K) rfl T.fnm b (D_x2 T) (by decide) (WL (K:=K) rfl T.fnm b (D_x3 T) (by decide) (WL (K:=K) rfl T.fnm b (D_x4 T) (by decide) (WL (K:=K) rfl T.fnm b (D_x5 T) (by decide) (WL (K:=K) rfl T.fnm b (D_x6 T) (by decide) (WL (K:=K) rfl T.fnm b (D_x7 T) (by decide) ls))))))) (pv 2) (cM (cN (ZV a (vv 1) cQ)) (cM (cN (ZV a (vv 1) cQ)) cL))))
def Wy:aL P w K mg base "parts_of" 1 Nx10 [] ZN 305:=
 V0 P base Nx10 Nx10 0 LP [] T T.p_x10 λc d b a=>by
  refine cR ?_ ?_
  ·exact (bU (bR (HP b) (TW (neg := bb)) (vv 0) (b4 (by rfl) (vS T T.g_DEEDS T.o_a11)) (by with_unfolding_all rfl))
   (cP (cI (b4 (by rfl) (vS T T.g_DEED_PARTS T.o_a32))))
   cC)
  exact cP (cI (gE rfl a (b4 (by rfl) (K0 T)) (vv 0) ⟨rfl,rfl,rfl,rfl⟩))
def Uy:aL P w K mg base "makes_word" 1 EL [] WR 312:=
 V0 P base EL EL 0 PC [] T T.p_x11 λc d b a=>by exact(cP (cI (OX (HR b) (TW (neg:=ba)) (ZV a (vv 0) cQ) (b4 (by rfl) (vS T T.g_WRITERS T.o_a70)) (by with_unfolding_all rfl))))
def dW:aL P w K mg base "place_of" 1 EL [] aS 319:=
 V0 P base EL EL 0 YW [] T T.p_x12 λc d b a=>by exact(cP (cI (XU (S9 (VU (bR (HP b) (TW (neg:=bb)) (ZV a (vv 0) cQ) (b4 (by rfl) (vS T T.g_READERS T.o_a67)) (by with_unfolding_all rfl)) (YA (bR (HP b) (TW (neg:=bb)) (ZV a (vv 0) cQ) (b4 (by rfl) (vS T T.g_WRITERS T.o_a70)) (by with_unfolding_all rfl))))) (ZV a (vv 0) cQ) bP)))
def Vj:aL P w K mg base "names_of" 2 EL [] T2 324:=
 V0 P base Nx13 EL 1 LM [] T T.p_x13 λb e d c=>by
  refine cR ?_ ?_
  ·exact(CQ (i:=1) (j:=2) rfl rfl b.nd rfl rfl (by decide) (Nj rfl) (Nj rfl) (vv 0))
  exact cP (cI (a6 (ZC ["part","given"] [] 2 (Wq rfl (by rfl) T.n_zip (cN (bC (Wy T) e (cM (vv 1) cL))) (vv 2)) (λa _ _ _ _=>⟨(W0 (K:=K) rfl rfl (a9 (bT a) (a9 (bT a) YN))),(Tu (ZI d (vv 0) cD)),(vv 1)⟩))))
def kT:aL P w K mg base "with_names" 1 Nx14 [] T3 331:=
 V0 P base Nx14 Nx14 0 PD [] T T.p_x14 λb d c a=>by exact(cP (cI (bD ZZ aU (CJ rfl (vv 0) CL (CM (ZU X6 VR (X9 T.n_len (vv 0)) (X9 T.n_len (vv 1))))) (Sz HS G3 (by rfl) T.n_tuple X3 (vv 1)))))
def Vt:aL P w K mg base "may_name" 2 Nx15 [] V6 338:=
 V0 P base Nx15 Nx15 1 QK [] T T.p_x15 λc b d a=>by exact(cP (cI (EF (bC (D_x0 T) b (cM (vv 0) (cM cQ (cM (cN (ZU X6 VR (X9 T.n_len (vv 1)) cQ)) cL)))) (EG (ZV a (vv 1) (vv 0))))))
def lf:aL P w K mg base "fits" 3 Nx16 [] RW 345:=
 V0 P base Nx16 Nx16 2 LK [] T T.p_x16 λd a b c=>by
  refine cR ?_ ?_
  ·exact(bU (ZI b (vv 0) cD)
   (cP (cI (bC (D_x0 T) a (cM (vv 1) (cM cQ (cM (cN (b4 (by rfl) (vI T T.g_MOST_WORD))) cL))))))
   cC)
  refine cR ?_ ?_
  ·exact(bU (ZI b (vv 0) cD)
   (cP (cI (bC (D_x0 T) a (cM (vv 1) (cM cQ (cM (cN (b4 (by rfl) (vI T T.g_MOST_PLACE))) cL))))))
   cC)
  exact cP (cI (bC (Vt T) a (cM (vv 1) (cM (vv 2) cL))))
def Ud:aL P w K mg base "is_row" 4 Nx15 [] RX 350:=
 V0 P base Nx17 Nx15 3 LL [] T T.p_x17 λa c b e=>by
  refine cR ?_ ?_
  ·exact(bU (S9 (VU (ZF (Z2 (MR T.n_isinstance (vv 0) (vty T.n_tuple X3)))) (YA (ZI b (X9 T.n_len (vv 0)) cQ))))
   (cP (cI X8))
   cC)
  refine cR ?_ ?_
  ·exact(CQ (i:=2) (j:=3) rfl rfl a.nd rfl rfl (by decide) (Nj rfl) (Nj rfl) (vv 0))
  refine cR ?_ ?_
  ·exact(bQ a.nd (aV (cN (XU (Z2 (MR T.n_isinstance (vv 2) (vty T.n_str Uo))) (bC (Wy T) c (cM (vv 2) cL)) bP))))
  refine cR ?_ ?_
  ·exact(bU (S9 (VU (bR SU NX (vv 4) bP) (YA (bR (LW b) ML (X9 T.n_len (vv 4)) (X9 T.n_len (vv 3))))))
   (cP (cI X8))
   cC)
  exact cP (cI (KB (kAll rfl) Va (by rfl) T.n_all Uk (a6 (ZC ["able","part","given"] [1] 2 (Wq rfl (by rfl) T.n_zip (vv 4) (vv 3)) (λd _ _ _ _=>⟨(W0 (K:=K) rfl rfl (a9 (bT d) (a9 (bT d) YN))),VD,(cN (bC (lf T) c (cM (vv 1) (cM (vv 2) (cM (vv 0) cL)))))⟩)))))
def Vo:aL P w K mg base "is_block" 5 EN [] YH 357:=
 V0 P base Nx18 EN 4 T9 [] T T.p_x18 λa b d c=>by
  refine cR ?_ ?_
  ·exact(bU (S9 (VU (ZF (Z2 (MR T.n_isinstance (vv 0) (vty T.n_tuple X3)))) (YA (bR (LW d) ML (X9 T.n_len (vv 0)) cQ))))
   (cP (cI X8))
   cC)
  refine cR ?_ ?_
  ·exact(UM (vv 0) (W0 (K:=K) rfl rfl (a9 (bT a.nd) (a9 (bT a.nd) YN))))
  refine cR ?_ ?_
  ·exact (bU (ZF (Z2 (bC (D_x0 T) b (cM (vv 1) (cM cQ (cM (cN (b4 (by rfl) (vI T T.g_MOST_SURE))) cL))))))
   (cP (cI X8))
   cC)
  refine cR ?_ ?_
  ·exact (bU (S9 (VU (ZF (Z2 (MR T.n_isinstance (vv 2) (vty T.n_tuple X3)))) (YA (bR Q4 KU (X9 T.n_len (vv 2)) (b4 (by rfl) (vI T T.g_MOST_ROWS))))))
   (cP (cI X8))
   cC)
  refine cR ?_ ?_
  ·exact(bQ a.nd (P7 (Z1 (bN cF))))
  refine cR ?_ ?_
  ·exact(SY El rfl (XT rfl (vv 2)) (bT a.nd)
   (cR (bU (ZF (Z2 (bC (Ud T) b (cM (vv 4) (aY (pv 3) cL)))))
   (cP (cI X8))
   cC)
   (cP (SZ De Df WP L5 (pv 3) (bN (cS (bC (Uy T) b (cM (vv 4) cL)) cF))))))
  exact cP (cI X8)
def kJ:aL P w K mg base "is_cells" 2 Nx19 [] TY 362:=
 V0 P base Nx19 Nx19 1 QE [] T T.p_x19 λd b e a=>by
  refine cR ?_ ?_
  ·exact (bU (S9 (VU (ZF (Z2 (MR T.n_isinstance (vv 0) (vty T.VA O6)))) (YA (ZF (lu BQ BQ s_le s_le (vv 1) (X9 T.n_len (vv 0)) (b4 (by rfl) (vI T T.g_MOST_CELLS)))))))
   (cP (cI X8))
   cC)
  exact cP (cI (KB (kAll rfl) Va (by rfl) T.n_all Uk (a6 (ZC ["word"] [] 1 (XT rfl (vv 0)) (λc _ _ _ _=>⟨(bT c),VD,(cN (bC (D_x0 T) b (cM (vv 0) (cM cQ (cM (cN (b4 (by rfl) (vI T T.g_MOST_WORD))) cL)))))⟩)))))
def eW:aL P w K mg base "touches" 1 Qx9 [] YE 369:=
 V0 P base Qx9 Qx9 0 RJ [] T T.p_x20 λc d b a=>by
  refine cR ?_ ?_
  ·exact(bU (ZI b (vv 0) cD)
   (cP (cI (OX (LW b) ML (ZV a (vv 1) cQ) cQ)))
   cC)
  refine cR ?_ ?_
  ·exact(bU (ZI b (vv 0) cD)
   (cP (cI (OX (LW b) ML (ZV a (vv 1) cQ) cQ)))
   cC)
  exact cP (cI X8)
def ll:aL P w K mg base "do_on_cell" 2 Nx21 [3] aZ 376:=
 V0 P base Nx21 Nx21 1 aT [3] T T.p_x21 λd c b a=>by
  refine cR ?_ ?_
  ·exact(bU (ZF (Z2 (bC (eW T) c (cM (vv 0) (cM (vv 2) cL)))))
   (cP (cI (bW (cS (XU (ZI b (vv 0) cD) (ZV a (vv 2) cQ) bP) (cS bP cF)))))
   cC)
  refine cR ?_ ?_
  ·exact(bU (bR Vx s_ge (vv 1) (X9 T.n_len (vo 3)))
   (cP (cI (bW (cS bP (cS cD cF)))))
   cC)
  refine cR ?_ ?_
  ·exact (bU (bR (HP b) (TW (neg := bb)) (vv 0) (b4 (by rfl) (vS T T.g_WRITERS T.o_a70)) (by with_unfolding_all rfl))
   (cR (We rfl (pv 3) (vv 1) (cN (ZV a (vv 2) cQ)))
   (cP (cI (bW (cS bP (cS bP cF))))))
   cC)
  exact cP (cI (bW (cS (ZV a (vo 3) (vv 1)) (cS bP cF))))
omit T in
def II:aA Nx22 Qx22 (cJ (top 52)):=DK
def iU{e f:Sa}{fd:Ch}(F:CU K "do_row" "do_row" (top 52) (.ref e) f fd):YV P w K mg base CX0 3 f fd Qx22 (spV K [2] 4 XY):=
 CU.okV (P:=P) (w:=w) (mg:=mg) (base:=base) (K:=K) (N:=Nx22) (ps:=Qx22) (k:=2) (g:=SG) (ml:=[2]) F II (by decide) λd A outer s H E b=>by
  have c:=b.units;have a:=To b;refine cR ?_ ?_
  ·exact(bQ II.nd (aV (cN (ZV a (vv 0) cQ))))
  refine cR ?_ ?_
  ·exact(bU (ZI c (vv 4) cD)
   (cP (cI (bW (cS (ZV a (vv 0) cQ) (cS bP cF)))))
   cC)
  refine cR ?_ ?_
  ·exact(bQ II.nd (aV (cN (bC (dW T) b (cM (vv 0) cL)))))
  refine cR ?_ ?_
  ·exact(bU (bR RM OU (vv 5) bP)
   (cP (cI (bC (ll T) b (cM (vv 4) (cM (cN (bD ZZ aU (vv 5) (vv 3))) (cM (vv 1) (aY (pv 2) cL)))))))
   cC)
  refine cR ?_ ?_
  ·exact(bQ II.nd (aV (cN (bC (D_x9 T) b (cM (vv 4) (cM (vv 1) cL))))))
  exact cP (cI (bW (cS (vv 6) (cS (XU (bR SU NX (vv 6) bP) cD bP) cF))))
def Zw:DefD P w K mg base "do_row" 3 Qx22 (spV K [2] 4 XY) 384 (.int 0):=
 ⟨T.fnm _ _ T.a_x22,⟨_,_,iU T (A7 (st:=top 52) T.l_x22 T.c_x22 T.k_x22),(A7 (st:=top 52) T.l_x22 T.c_x22 T.k_x22).binds (ps:=Qx22) (ds:=[.int 0 708]) (m:=3) T.o_a2 rfl λ_ _ _ _ _ _ us hl=>match us,hl with|[_,_,_],_=>⟨_,rfl,rfl⟩,⟨_,rfl⟩⟩,T.k_x22⟩
def Yz:aL P w K mg base "do_rows" 4 Qx23 [1] RD 389:=
 V0 P base Nx23 Qx23 3 OE [1] T T.p_x23 λa c f b=>by
  refine cR ?_ ?_
  ·exact(bQ a.nd (P7 (Z1 (bN cF))))
  refine cR ?_ ?_
  ·exact (SY El rfl (kK rfl (by rfl) T.n_enumerate (vv 0)) (W0 (K := K) rfl rfl (a9 (bT a.nd) (a9 (bT a.nd) YN)))
   (cR (UM (cN (kP (K:=K) (v:=(.int 0)) (d:=(.int 0)) rfl (Zw T) (λ_ _ _=>(.int _)) (λ_=>nofun) c (by decide) (by rfl) (cM (vv 4) (cM (a6 (ZC ["words","name"] [2] 1 (XT rfl (cN (bC (Vj T) c (cM (vv 4) cL)))) (λe _ _ _ _=>⟨(bT e),VD,(cN (ZV b (vo 0) (vv 1)))⟩))) (aY (pv 1) cL))))) (W0 (K:=K) rfl rfl (a9 (bT a.nd) (a9 (bT a.nd) YN))))
   (cR (bU (bR RM OU (vv 6) bP)
   (cP (cI (bW (P4 (pv 2) (cS (bW (cS (vv 3) (cS (vv 6) cF))) cF)))))
   cC)
   (cP (SZ De Df WP L5 (pv 2) (bN (cS (vv 5) cF)))))))
  exact cP (cI (bW (P4 (pv 2) (cS bP cF))))
def mE:aL P w K mg base "check_run" 6 Nx24 [] VH 396:=
 V0 P base Nx24 Nx24 5 SF [] T T.p_x24 λc b d a=>by
  refine cR ?_ ?_
  ·exact(bU (ZF (Z2 (bC (Vo T) b (cM (vv 0) cL))))
   (cP S5)
   cC)
  exact cP (bU (ZF (Z2 (bC (kJ T) b (cM (vv 1) (cM (cN (ZV a (vv 0) cQ)) cL)))))
   (cP S5)
   cC)
def Yb:aL P w K mg base "run" 7 Nx24 [] AM 403:=
 V0 P base Nx25 Nx24 6 Tf [] T T.p_x25 λa c d b=>by
  refine cR ?_ ?_
  ·exact(XG (bC (mE T) c (cM (vv 0) (cM (vv 1) cL))))
  refine cR ?_ ?_
  ·exact(bQ a.nd (P7 (CK HQ VA (by rfl) T.VA O6 (vv 1))))
  refine cR ?_ ?_
  ·exact(UM (cN (bC (Yz T) c (cM (cN (ZV b (vv 0) cQ)) (aY (pv 2) cL)))) (W0 (K:=K) rfl rfl (a9 (bT a.nd) (a9 (bT a.nd) YN))))
  exact cP (cI (bW (P4 (pv 2) (cS (vv 4) cF))))
def lh:aL P w K mg base "is_if" 1 EN [] MV 410:=
 V0 P base EN EN 0 A8 [] T T.p_x26 λc d b a=>by
  refine cR ?_ ?_
  ·exact(bU (S9 (VU (ZF (Z2 (MR T.n_isinstance (vv 0) (vty T.n_tuple X3)))) (YA (bR (LW b) ML (X9 T.n_len (vv 0)) cQ))))
   (cP (cI X8))
   cC)
  exact cP (cI (EF (MR T.n_isinstance (ZV a (vv 0) cQ) (vty T.n_str Uo)) (EG (veq b (ZV a (vv 0) cQ) cD))))
def kR{R:cB}{kk:Nat}(e:4<=kk)(EJ:aL P w K mg base "sight_behind" kk Qx28 [] R 424):aL P w K mg base "sight_behind_if" (kk+1) Qx27 [] (Y0 R) 417:=
 V0 P base Nx27 Qx27 (kk+0) (X5 R) [] T T.p_x27 λa c d b=>by
  refine cR ?_ ?_
  ·exact (bU (S9 (VU (ZI d (vv 2) (b4 (by rfl) (vI T T.g_MOST_DEEP))) (YA (ZF (Z2 (bC (hk := by lia) (Vt T) c (cM (cN (ZV b (vv 0) cQ)) (cM (vv 1) cL))))))))
   (cP (cI bP))
   cC)
  refine cR ?_ ?_
  ·exact(bQ a.nd (aV (cN (bD ZZ aU (vv 1) (a6 (Z1 (bN (cS X8 cF))))))))
  refine cR ?_ ?_
  ·exact(SY El rfl (XT rfl (cN (CJ rfl (vv 0) (CM cQ) CL))) (bT a.nd)
   (cR (bQ a.nd (aV (cN (bC (hk:=by lia) EJ c (cM (vv 4) (cM (vv 3) (cM (cN (bD ZZ aU (vv 2) cQ)) cL)))))))
   (cR (bU (bR SU NX (vv 5) bP)
   (cP (cI bP))
   cC)
   (cP (bQ a.nd (aV (cN (bD ZZ aU (vv 3) (bD kRep lv (a6 (Z1 (bN (cS X8 cF)))) (ZU X6 VR (X9 T.n_len (vv 5)) (X9 T.n_len (vv 3))))))))))))
  exact cP (cI (vv 3))
def hV{R:cB}{kk:Nat}(d:4<=kk)(EJ:aL P w K mg base "sight_behind" kk Qx28 [] R 424):aL P w K mg base "sight_behind" (kk+2) Qx28 [] (a8 5 [] (YX R)) 424:=
 V0 P base Nx28 Qx28 (kk+1) (YX R) [] T T.p_x28 λa b e c=>by
  refine cR ?_ ?_
  ·exact(bU (ZF (Z2 (MR T.n_isinstance (vv 0) (vty T.n_tuple X3))))
   (cP (cI bP))
   cC)
  refine cR ?_ ?_
  ·exact(bQ a.nd (aV (vv 1)))
  refine cR ?_ ?_
  ·exact(SY El rfl (XT rfl (vv 0)) (bT a.nd)
   (cR (bU (Z2 (bC (hk:=by lia) (lh T) b (cM (vv 4) cL)))
   (cP (bQ a.nd (aV (cN (bC (hk:=by lia) (kR T d EJ) b (cM (vv 4) (cM (vv 3) (cM (vv 2) cL))))))))
   (cP (bU (Z2 (bC (hk:=by lia) (Ud T) b (cM (vv 4) (cM (vv 3) cL))))
   (cP (bQ a.nd (aV (cN (bD ZZ aU (vv 3) (a6 (Z1 (bN (cS (bC (hk:=by lia) (Uy T) b (cM (vv 4) cL)) cF)))))))))
   (cP (cI bP)))))
   (cP (bU (S9 (VU (bR SU NX (vv 3) bP) (YA (bR Q4 KU (X9 T.n_len (vv 3)) (b4 (by rfl) (vI T T.g_MOST_TREE_ROWS))))))
   (cP (cI bP))
   cC))))
  exact cP (cI (vv 3))
def jc:∀n,aL P w K mg base "sight_behind" (4+2*n) Qx28 [] (a7 n) 424:=λn=>by
 induction n with
 |zero=>exact mkDg T.fnm T.p_x28 (λU=>PN) (Len3 λ_ _ _=>rfl)
 |succ n D=>exact hV T (Gc _ _) D
def EJ:aL P w K mg base "sight_behind" 20 Qx28 [] (a7 8) 424:=jc T 8
def Tg:aL P w K mg base "is_tree" 21 EN [] WM 431:=
 V0 P base EN EN 20 OF [] T T.p_x29 λd b c a=>by
  refine cR ?_ ?_
  ·exact(bU (S9 (VU (ZF (Z2 (MR T.n_isinstance (vv 0) (vty T.n_tuple X3)))) (YA (bR (LW c) ML (X9 T.n_len (vv 0)) cQ))))
   (cP (cI X8))
   cC)
  exact cP (cI (EF (bC (D_x0 T) b (cM (cN (ZV a (vv 0) cQ)) (cM cQ (cM (cN (b4 (by rfl) (vI T T.g_MOST_SURE))) cL)))) (EG (OX RM OU (bC (EJ T) b (cM (cN (ZV a (vv 0) cQ)) (cM (a6 (Z1 (bN cF))) (cM cQ cL)))) bP))))
def NK:NB P w K mg base "Flat" "lay" 1 Nx48 [0] 2 ZW 452:=
 mkWN P base Nx48 Nx48 0 QD [0] T T.p_x48 λb d c a=>by
  refine cR ?_ ?_
  ·exact(Zk (XH T) (pv 0) (bN (cS (vv 1) cF)))
  exact cP (cI (ZU X6 VR (X9 T.n_len (CN (XH T) (pv 0))) cQ))
def Sy:NB P w K mg base "Flat" "both" 2 Nx49 [0] 3 YD 459:=
 mkWN P base Nx49 Nx49 1 SD [0] T T.p_x49 λc b d a=>by exact(cP (cI (W8 (f:= "laid") (g:= "numbers") (NK T) b (pv 0) (cM (cN (bW (cS cD (cS (vv 1) (cS (vv 2) (cS (b4 (by rfl) (vI T T.g_ZERO)) cF)))))) cL))))
def Zf{R:cB}{kk:Nat}(e:3<=kk)(K6:NB P w K mg base "Flat" "lay_rows" kk Qx50 [0] 3 R 464):NB P w K mg base "Flat" "lay_if" (kk+1) Qx51 [0] 3 (Y7 R) 471:=
 mkWN P base Nx51 Qx51 (kk+0) (U5 R) [0] T T.p_x51 λc b d a=>by
  refine cR ?_ ?_
  ·exact(bQ c.nd (aV (cN (ZV a (Vp (XH T) (pv 0)) (ZV a (vv 1) cQ)))))
  refine cR ?_ ?_
  ·exact(Vq (XH T) (pv 0) (bN (cS bP cF)))
  refine cR ?_ ?_
  ·exact(XG (W8 (f:= "laid") (g:= "numbers") (hk:=by lia) K6 b (pv 0) (cM (cN (ZV a (vv 1) cQ)) (cM (cN (W8 (f:= "laid") (g:= "numbers") (hk:=by lia) (Sy T) b (pv 0) (cM (vv 2) (cM (vv 3) cL)))) cL))))
  exact cP (XG (W8 (f:= "laid") (g:= "numbers") (hk:=by lia) K6 b (pv 0) (cM (cN (ZV a (vv 1) cQ)) (cM (cN (W8 (f:= "laid") (g:= "numbers") (hk:=by lia) (NK T) b (pv 0) (cM (cN (bW (cS cD (cS (vv 3) (cS (b4 (by rfl) (vI T T.g_ZERO)) (cS (vv 2) cF)))))) cL))) cL))))
def gY:NB P w K mg base "Flat" "masked" 3 Qx51 [0] 3 W9 478:=
 mkWN P base Nx52 Qx51 2 U6 [0] T T.p_x52 λd c b a=>by
  refine cR ?_ ?_
  ·exact(bQ d.nd (aV (cN (ZV a (vv 1) cQ))))
  refine cR ?_ ?_
  ·exact(bU (ZI b (vv 3) cD)
   (cP (cI (bW (cS cD (cS (ZV a (vv 1) cQ) (cS (vv 2) (cS (vv 2) cF)))))))
   cC)
  refine cR ?_ ?_
  ·exact(bU (ZI b (vv 3) cD)
   (cP (cI (bW (cS cD (cS (ZV a (vv 1) cQ) (cS (W8 (f:= "laid") (g:= "numbers") (Sy T) c (pv 0) (cM (vv 2) (cM (cN (ZV a (vv 1) cQ)) cL))) (cS (ZV a (vv 1) cQ) cF)))))))
   cC)
  refine cR ?_ ?_
  ·exact(bU (ZI b (vv 3) cD)
   (cP (cI (bW (cS cD (cS (ZV a (vv 1) cQ) (cS (ZV a (vv 1) cQ) (cS (vv 2) cF)))))))
   cC)
  refine cR ?_ ?_
  ·exact(bU (ZI b (vv 3) cD)
   (cP (cI (bW (cS cD (cS (ZV a (vv 1) cQ) (cS (ZV a (vv 1) cQ) (cS (W8 (f:= "laid") (g:= "numbers") (Sy T) c (pv 0) (cM (vv 2) (cM (cN (ZV a (vv 1) cQ)) cL))) cF)))))))
   cC)
  refine cR ?_ ?_
  ·exact(bU (ZI b (vv 3) cD)
   (cP (cI (bW (cS cD (cS (ZV a (vv 1) cQ) (cS (W8 (f:= "laid") (g:= "numbers") (NK T) c (pv 0) (cM (cN (bW (cS cD (cS (vv 2) (cS (ZV a (vv 1) cQ) (cS (b4 (by rfl) (vI T T.g_ONE)) cF)))))) cL)) cF))))))
   cC)
  exact cP (cI (vv 1))
def fD{R:cB}{kk:Nat}(h:3<=kk)(K6:NB P w K mg base "Flat" "lay_rows" kk Qx50 [0] 3 R 464):NB P w K mg base "Flat" "lay_rows" (kk+2) Qx50 [0] 3 (a8 5 [0] (Y9 R)) 464:=
 mkWN P base Nx50 Qx50 (kk+1) (Y9 R) [0] T T.p_x50 λc b d a=>by
  exact(cP (SY El rfl (XT rfl (vv 1)) (bT c.nd)
   (cP (bU (ZI d (ZV a (vv 3) cQ) cD)
   (cP (XG (W8 (f:= "laid") (g:= "numbers") (hk:=by lia) (Zf T h K6) b (pv 0) (cM (vv 3) (cM (cN (XU (bR SU NX (vv 2) bP) (b4 (by rfl) (vI T T.g_ONE)) (vv 2))) cL)))))
   (cR (bQ c.nd (aV (cN (bC (hk:=by lia) (kT T) b (cM (vv 3) (cM (a6 (ZC ["self","name"] [0] 1 (XT rfl (cN (bC (hk:=by lia) (Vj T) b (cM (vv 3) cL)))) (λe _ _ _ _=>⟨(bT e),VD,(cN (ZV a (Vp (XH T) (pv 0)) (vv 1)))⟩))) cL))))))
   (cP (Vq (XH T) (pv 0) (bN (cS (W8 (f:= "laid") (g:= "numbers") (hk:=by lia) (NK T) b (pv 0) (cM (cN (XU (bR SU NX (vv 2) bP) (vv 4) (W8 (f:= "laid") (g:= "numbers") (hk:=by lia) (gY T) b (pv 0) (cM (vv 4) (cM (vv 2) cL))))) cL)) cF)))))))))
def mR:∀n,NB P w K mg base "Flat" "lay_rows" (3+2*n) Qx50 [0] 3 (bX n) 464:=λn=>by
 induction n with
 |zero=>exact Ul T.p_x50 (λU=>PN) (Len3 λ_ _ _=>rfl)
 |succ n D=>exact fD T (Gc _ _) D
def K6:NB P w K mg base "Flat" "lay_rows" 19 Qx50 [0] 3 (bX 8) 464:=mR T 8
def jw:aL P w K mg base "flattened" 22 Qx30 [] ZG 490:=
 V0 P base Nx30 Qx30 21 VO [] T T.p_x30 λb a d c=>by
  refine cR ?_ ?_
  ·exact(bU (ZF (Z2 (bC (Tg T) a (cM (vv 0) cL))))
   (cP S5)
   cC)
  refine cR ?_ ?_
  ·exact(UM (vv 0) (W0 (K:=K) rfl rfl (a9 (bT b.nd) (a9 (bT b.nd) YN))))
  refine cR ?_ ?_
  ·exact(bQ b.nd (P7 (Uh (Wb T) (XH T) a)))
  refine cR ?_ ?_
  ·exact (bU (Z2 (KB (kAny rfl) Vn (by rfl) T.n_any Ve (a6 (ZC ["row"] [] 1 (XT rfl (vv 2)) (λe _ _ _ _ => ⟨(bT e),VD,(cN (veq d (ZV c (vv 0) cQ) cD))⟩)))))
   (cR (XG (W8 (f:= "laid") (g:= "numbers") (NK T) a (pv 3) (cM (cN (bW (cS cD (cS cQ cF)))) cL)))
   (cP (XG (W8 (f:= "laid") (g:= "numbers") (NK T) a (pv 3) (cM (cN (bW (cS cD (cS cQ cF)))) cL)))))
   cC)
  refine cR ?_ ?_
  ·exact(XG (W8 (f:= "laid") (g:= "numbers") (K6 T) a (pv 3) (cM (vv 2) (cM bP cL))))
  refine cR ?_ ?_
  ·exact (bU (bR Q4 KU (X9 T.n_len (CN (XH T) (pv 3))) (b4 (by rfl) (vI T T.g_MOST_ROWS)))
   (cP S5)
   cC)
  exact cP (cI (bW (cS (bW (cS (vv 1) (cS (Sz HS G3 (by rfl) T.n_tuple X3 (CN (XH T) (pv 3))) cF))) (vaP2 (XH T) (pv 3) cF))))
omit T in
def M9:aA Nx30 Qx30 (cJ (top 66)):=DK
def dJ{f:Sa}{fd:Ch}(F:OY K "flattened" "flattened" (top 66) f fd):YV P w K mg base (CXv P w) 22 f fd Qx30 (spX K 1 YF):=
 okZ P w K mg base Nx30 Qx30 21 TH F M9 λ_ _ _ _ _ _ a c b=>by
  exact(il (TC (Wt (ZF (Z2 (bC (Tg T) a (cM (vv 0) cL)))) (TC (GD rfl B9 rfl (by rfl) (vX T T.xc_NoTree))) Wo))
   (P8 (bU (ZF (Z2 (bC (Tg T) a (cM (vv 0) cL))))
   (cP S5)
   cC)
   (P8 (UM (vv 0) (W0 (K:=K) rfl rfl (a9 (bT M9.nd) (a9 (bT M9.nd) YN))))
   (P8 (bQ M9.nd (P7 (Uh (Wb T) (XH T) a)))
   (P8 (bU (Z2 (KB (kAny rfl) Vn (by rfl) T.n_any Ve (a6 (ZC ["row"] [] 1 (XT rfl (vv 2)) (λd _ _ _ _=>⟨(bT d),VD,(cN (veq c (ZV b (vv 0) cQ) cD))⟩)))))
   (cR (XG (W8 (f:= "laid") (g:= "numbers") (NK T) a (pv 3) (cM (cN (bW (cS cD (cS cQ cF)))) cL)))
   (cP (XG (W8 (f:= "laid") (g:= "numbers") (NK T) a (pv 3) (cM (cN (bW (cS cD (cS cQ cF)))) cL)))))
   cC)
   (P8 (XG (W8 (f:= "laid") (g:= "numbers") (K6 T) a (pv 3) (cM (vv 2) (cM bP cL))))
   (TC (Wt (bR Q4 KU (X9 T.n_len (CN (XH T) (pv 3))) (b4 (by rfl) (vI T T.g_MOST_ROWS))) (TC (GD rfl B9 rfl (by rfl) (vX T T.xc_TooLong))) Wo))))))))
def mi:DefX P w K mg base "flattened" 22 Qx30 YF 490:=
 eJ T.fnm T.p_x30 (λU=>dJ T U) (Len1 λ_=>rfl)
def jO:aL P w K mg base "_law_cell_at" 1 Qx31 [] Y8 497:=
 V0 P base Nx31 Qx31 0 U7 [] T T.p_x31 λb d c a=>by
  refine cR ?_ ?_
  ·exact(bU (bR Te s_lt (vv 1) (X9 T.n_len (vv 0)))
   (cP (cI (ZV a (vv 0) (vv 1))))
   cC)
  refine cR ?_ ?_
  ·exact(bU (ZI c (vv 0) (a6 (Z1 (bN cF))))
   (cP (cI cQ))
   cC)
  refine cR ?_ ?_
  ·exact(bQ b.nd (aV (cN (ZV a (vv 0) (ZU VC Q6 (vv 1) (X9 T.n_len (vv 0)))))))
  refine cR ?_ ?_
  ·exact (SY El rfl (RU (by rfl) T.n_range (YR (N7 rfl) Tj (by rfl) T.n_min C0 (ZU PQ MK (vv 1) (X9 T.n_len (vv 0))) cQ)) (bT b.nd)
   (cP (bQ b.nd (aV (cN (ZU PQ MK (vv 2) cQ))))))
  exact cP (cI (bD ZZ aU (bD ZZ aU (bD QM T6 (ZV a (vv 0) (ZU VC Q6 (vv 1) (X9 T.n_len (vv 0)))) cQ) (vv 1)) (bD QM T6 (vv 2) cQ)))
def lM:aL P w K mg base "_law_mixed" 2 Qx32 [] VL 504:=
 V0 P base Nx32 Qx32 1 SI [] T T.p_x32 λa c d b=>by
  refine cR ?_ ?_
  ·exact(bQ a.nd (aV (cN (ZU VC Q6 (bD ZZ aU (bD ZZ aU (bD QM T6 (bC (jO T) c (cM (vv 0) (cM (vv 1) cL))) cQ) (bD QM T6 cQ (vv 1))) cQ) cQ))))
  exact cP (cI (ZU VC Q6 (ZU VC Q6 (ZU VC Q6 (ZU mV Ze (vv 3) cQ) cQ) cQ) (vv 2)))
def UP:aL P w K mg base "_law_draw" 3 Nx33 [1] bF 511:=
 V0 P base Nx33 Nx33 2 QG [1] T T.p_x33 λc b d a=>by
  refine cR ?_ ?_
  ·exact(SZ De Df WP L5 (pv 1) (bN (cS cQ cF)))
  exact cP (cI (bC (lM T) b (cM (vv 0) (cM (cN (X9 T.n_len (vo 1))) (cM (vv 2) cL)))))
def K4:aL P w K mg base "_law_pick" 4 Nx34 [1] ZM 518:=
 V0 P base Nx34 Nx34 3 QH [1] T T.p_x34 λc b d a=>by exact(cP (cI (ZV a (vv 2) (bC (UP T) b (cM (vv 0) (aY (pv 1) (cM (cN (X9 T.n_len (vv 2))) cL)))))))
def EK:aL P w K mg base "_law_place" 5 Nx35 [1,2] ZQ 525:=
 V0 P base Nx35 Nx35 4 SJ [1,2] T T.p_x35 λc b d a=>by
  refine cR ?_ ?_
  ·exact(IM a (pv 2) (vv 3) (cN (ZU VC Q6 (bD ZZ aU (Yq a (pv 2) (vv 3) (cN (bC (UP T) b (cM (vv 0) (aY (pv 1) (cM (vv 4) cL))))) ⟨rfl,rfl,rfl,rfl⟩) (bC (K4 T) b (cM (vv 0) (aY (pv 1) (cM (a6 (Z1 (bN (cS cQ (cS cQ (cS cQ (cS cQ (cS cQ cF)))))))) cL))))) (vv 4))) rfl)
  exact cP (cI (ZV a (vo 2) (vv 3)))
def lA:aL P w K mg base "_law_row" 6 Qx36 [1,3] RE 530:=
 V0 P base Nx36 Qx36 5 OG [1,3] T T.p_x36 λd a b c=>by
  refine cR ?_ ?_
  ·exact(bQ d.nd (aV (cN (bC (UP T) a (cM (vv 0) (aY (pv 1) (cM cQ cL)))))))
  refine cR ?_ ?_
  ·exact(bU (S9 (VU (ZI b (vv 2) (a6 (Z1 (bN cF)))) (YA (ZI b (vv 5) cQ))))
   (cR (bU (ZI b (bC (UP T) a (cM (vv 0) (aY (pv 1) (cM cQ cL)))) cQ)
   (cP (cI (bW (cS cD (cS (bC (K4 T) a (cM (vv 0) (aY (pv 1) (cM (a6 (Z1 (bN (cS cQ (cS cQ (cS cQ (cS cQ (cS cQ (cS (bC (UP T) a (cM (vv 0) (aY (pv 1) (cM cQ cL)))) cF))))))))) cL)))) cF)))))
   cC)
   (cP (cI (bW (cS cD (cS (bC (EK T) a (cM (vv 0) (aY (pv 1) (aY (pv 3) (cM cD (cM (vv 4) cL)))))) cF))))))
   cC)
  refine cR ?_ ?_
  ·exact(UM (a6 (ZC ["_law_script","_law_town","_law_made","_law_k"] [0,1,2] 1 (RU (by rfl) T.n_range cQ) (λe _ _ _ _=>⟨(bT e),VD,(cN (ZV c (vv 2) (YR (JD rfl) Tp (by rfl) T.n_max Xb cQ (ZU X6 VR (ZU X6 VR (X9 T.n_len (vv 2)) cQ) (bC (UP T) a (cM (vv 0) (aY (pv 1) (cM cQ cL))))))))⟩))) (W0 (K:=K) rfl rfl (a9 (bT d.nd) (a9 (bT d.nd) (a9 (bT d.nd) YN)))))
  refine cR ?_ ?_
  ·exact (bU (bR (HP b) (TW (neg := bb)) (vv 5) (bW (cS cQ (cS cQ cF))) (by with_unfolding_all rfl))
   (cP (cI (bW (cS cD (cS (bC (EK T) a (cM (vv 0) (aY (pv 1) (aY (pv 3) (cM cD (cM (vv 4) cL)))))) cF)))))
   cC)
  refine cR ?_ ?_
  ·exact(bU (ZI b (vv 5) cQ)
   (cP (cI (bW (cS cD (cS (bC (EK T) a (cM (vv 0) (aY (pv 1) (aY (pv 3) (cM cD (cM (vv 4) cL)))))) (cS (vv 8) (cS (vv 6) cF)))))))
   cC)
  refine cR ?_ ?_
  ·exact (bU (bR (HP b) (TW (neg := bb)) (vv 5) (bW (cS cQ (cS cQ cF))) (by with_unfolding_all rfl))
   (cP (cI (bW (cS cD (cS (bC (EK T) a (cM (vv 0) (aY (pv 1) (aY (pv 3) (cM cD (cM (vv 4) cL)))))) (cS (vv 6) cF))))))
   cC)
  refine cR ?_ ?_
  ·exact(bU (ZI b (vv 5) cQ)
   (cP (cI (bW (cS cD (cS (bC (EK T) a (cM (vv 0) (aY (pv 1) (aY (pv 3) (cM cD (cM (vv 4) cL)))))) (cS (vv 6) (cS (vv 8) cF)))))))
   cC)
  refine cR ?_ ?_
  ·exact(bU (ZI b (vv 5) cQ)
   (cP (cI (bW (cS cD (cS (vv 8) (cS (vv 6) (cS (vv 7) cF)))))))
   cC)
  exact cP (cI (bW (cS (ZV c (a6 (Z1 (bN (cS cD (cS cD (cS cD (cS cD (cS cD (cS cD (cS cD cF)))))))))) (bC (UP T) a (cM (vv 0) (aY (pv 1) (cM cQ cL))))) (cS (vv 6) (cS (vv 7) cF)))))
def kZ:aL P w K mg base "_law_cells" 5 Qx37 [1] VJ 535:=
 V0 P base Nx37 Qx37 4 SH [1] T T.p_x37 λb a e c=>by
  refine cR ?_ ?_
  ·exact(bQ b.nd (aV (cN (bC (K4 T) a (cM (vv 0) (aY (pv 1) (cM (a6 (Z1 (bN (cS (vv 2) (cS (YR (N7 rfl) Tj (by rfl) T.n_min C0 cQ (bD ZZ aU (vv 2) (bC (UP T) a (cM (vv 0) (aY (pv 1) (cM cQ cL)))))) (cS cQ cF)))))) cL)))))))
  refine cR ?_ ?_
  ·exact(bQ b.nd (aV (cN (bC (K4 T) a (cM (vv 0) (aY (pv 1) (cM (a6 (Z1 (bN (cS cQ (cS cQ (cS cQ cF)))))) cL)))))))
  exact cP (cI (a6 (ZC ["_law_script","_law_town","_law_small","_law_k"] [0,1,4] 1 (RU (by rfl) T.n_range (vv 3)) (λd _ _ _ _=>⟨(bT d),VD,(cN (bC (UP T) a (cM (vv 0) (aY (pv 1) (cM (vv 2) cL)))))⟩))))
def j8:aL P w K mg base "_law_deed" 1 Qx38 [] YI 542:=
 V0 P base Nx38 Qx38 0 UA [] T T.p_x38 λc d b a=>by
  refine cR ?_ ?_
  ·exact(bU (ZI b (vv 0) cD)
   (cP (cI (XU (ZI b (ZV a (vv 1) cQ) cQ) (ZV a (vv 1) cQ) (ZV a (vv 1) cQ))))
   cC)
  refine cR ?_ ?_
  ·exact(UM (vv 1) (W0 (K:=K) rfl rfl (a9 (bT c.nd) (a9 (bT c.nd) YN))))
  refine cR ?_ ?_
  ·exact (bU (bR (HP b) (TW (neg := bb)) (vv 0) (bW (cS cD (cS cD cF))) (by with_unfolding_all rfl))
   (cP (cI (ZV a (a6 (lI jM gG (by rfl) T.n_sorted fZ (vv 1))) (XU (ZI b (vv 0) cD) cQ cQ))))
   cC)
  refine cR ?_ ?_
  ·exact(bU (ZI b (vv 0) cD)
   (cP (cI (XU (bR Q4 KU (vv 3) (vv 2)) cQ cQ)))
   cC)
  refine cR ?_ ?_
  ·exact(bU (ZI b (vv 0) cD)
   (cP (cI (XU (ZI b (vv 3) cQ) bP (jF (by rfl) T.n_len Xh (by rfl) T.n_range fJ (vv 3) (bD ZZ aU (vv 2) cQ) (vv 3)))))
   cC)
  refine cR ?_ ?_
  ·exact(bQ c.nd (aV (cN (ZV a (a6 (mh (MS cD (cN (bD ZZ aU (vv 2) (vv 3))) (MS cD (cN (ZU X6 VR (bD ZZ aU (vv 2) cQ) (vv 3))) (MS cD (cN (bD QM T6 (vv 2) (vv 3))) ky))) rfl rfl (by simp) (by decide))) (vv 0)))))
  exact cP (cI (ZU X6 VR (vv 4) (bD QM T6 (ZU PQ MK (vv 4) cQ) cQ)))
def dG:aL P w K mg base "_law_step" 2 Qx39 [3] T0 549:=
 V0 P base Nx39 Qx39 1 QI [3] T T.p_x39 λc d b a=>by
  refine cR ?_ ?_
  ·exact (bU (bR (HR b) (TW (neg := ba)) (ZV a (vv 0) cQ) (bW (cS cD (cS cD (cS cD (cS cD cF))))) (by with_unfolding_all rfl))
   (cR (bQ c.nd (aV (cN (bC (j8 T) d (cM (cN (ZV a (vv 0) cQ)) (cM (vv 2) cL))))))
   (cP (cI (bW (cS (vv 4) (cS (XU (bR SU NX (vv 4) bP) cD bP) cF))))))
   cC)
  refine cR ?_ ?_
  ·exact(bQ c.nd (aV (cN (bD ZZ aU (ZV a (vv 0) cQ) (vv 1)))))
  refine cR ?_ ?_
  ·exact(bU (S9 (MT (ZI b (ZV a (vv 0) cQ) cD) (IN (ZI b (ZV a (vv 2) cQ) cQ))))
   (cP (cI (bW (cS (ZV a (vv 2) cQ) (cS bP cF)))))
   cC)
  refine cR ?_ ?_
  ·exact(bU (S9 (MT (ZI b (ZV a (vv 0) cQ) cD) (IN (ZI b (ZV a (vv 2) cQ) cQ))))
   (cP (cI (bW (cS bP (cS bP cF)))))
   cC)
  refine cR ?_ ?_
  ·exact(bU (bR Vx s_ge (vv 5) (X9 T.n_len (vo 3)))
   (cP (cI (bW (cS bP (cS cD cF)))))
   cC)
  refine cR ?_ ?_
  ·exact (bU (bR (HP b) (TW (neg := bb)) (ZV a (vv 0) cQ) (bW (cS cD (cS cD cF))) (by with_unfolding_all rfl))
   (cP (cI (bW (cS (ZV a (vo 3) (vv 5)) (cS bP cF)))))
   cC)
  refine cR ?_ ?_
  ·exact(We rfl (pv 3) (vv 5) (cN (ZV a (vv 2) cQ)))
  exact cP (cI (bW (cS bP (cS bP cF))))
def Yj:aL P w K mg base "_law_names" 1 Nx40 [] RY 556:=
 V0 P base Nx40 Nx40 0 NO [] T T.p_x40 λc d b a=>by
  refine cR ?_ ?_
  ·exact(bU (ZI b (ZV a (vv 0) cQ) cD)
   (cP (cI (a6 (Z1 (bN cF)))))
   cC)
  exact cP (cI (XU (bR (HP b) (TW (neg:=bb)) (ZV a (vv 0) cQ) (bW (cS cD (cS cD (cS cD (cS cD cF))))) (by with_unfolding_all rfl)) (a6 (CK HQ VA (by rfl) T.VA O6 (Uw (CJ rfl (vv 0) (CM cQ) CL)))) (a6 (CK HQ VA (by rfl) T.VA O6 (Uw (CJ rfl (vv 0) (CM cQ) CL))))))
omit T in
def zCL:aA Nx41 Qx41 (cJ (top 78)):=DK
def lL{f:Sa}{fd:Ch}(F:OY K "_law_which" "_law_which" (top 78) f fd):FnH P w K mg base 1 f fd Qx41 (spV K [] 1 VM):=
 okWH P w K mg base Nx41 Qx41 0 NP [] F zCL λ_ _ _ _ _ c b a=>by
  refine cR ?_ ?_
  ·exact(bQ zCL.nd (P7 (Z1 (bN (cS (YR QL (WH (xi T)) (by rfl) T.n_isinstance bM (vv 0) (b4 (by rfl) (vF T T.g_NoBlock))) (cS (YR QL (WH (xi T)) (by rfl) T.n_isinstance bM (vv 0) (b4 (by rfl) (vF T T.g_NoCells))) (cS (YR QL (WH (xi T)) (by rfl) T.n_isinstance bM (vv 0) (b4 (by rfl) (vF T T.g_NoRow))) (cS (YR QL (WH (xi T)) (by rfl) T.n_isinstance bM (vv 0) (b4 (by rfl) (vF T T.g_NoLanes))) cF))))))))
  refine cR ?_ ?_
  ·exact(SZ Hj Hk (Sw (K:=K) rfl) DM (pv 1) (bN (cS (a6 (Z1 (bN (cS (YR QL (WH (xi T)) (by rfl) T.n_isinstance bM (vv 0) (b4 (by rfl) (vF T T.g_NoPlan))) (cS (YR QL (WH (xi T)) (by rfl) T.n_isinstance bM (vv 0) (b4 (by rfl) (vF T T.g_NoProgram))) (cS (YR QL (WH (xi T)) (by rfl) T.n_isinstance bM (vv 0) (b4 (by rfl) (vF T T.g_NoTree))) (cS (YR QL (WH (xi T)) (by rfl) T.n_isinstance bM (vv 0) (b4 (by rfl) (vF T T.g_NoLoop))) cF))))))) cF)))
  refine cR ?_ ?_
  ·exact(SZ Hj Hk (Sw (K:=K) rfl) DM (pv 1) (bN (cS (a6 (Z1 (bN (cS (YR QL (WH (xi T)) (by rfl) T.n_isinstance bM (vv 0) (b4 (by rfl) (vF T T.g_NoText))) (cS (YR QL (WH (xi T)) (by rfl) T.n_isinstance bM (vv 0) (b4 (by rfl) (vF T T.g_NoName))) (cS (YR QL (WH (xi T)) (by rfl) T.n_isinstance bM (vv 0) (b4 (by rfl) (vF T T.g_TooMany))) (cS (YR QL (WH (xi T)) (by rfl) T.n_isinstance bM (vv 0) (b4 (by rfl) (vF T T.g_TooLong))) cF))))))) cF)))
  refine cR ?_ ?_
  ·exact(SZ Hj Hk (Sw (K:=K) rfl) DM (pv 1) (bN (cS (a6 (Z1 (bN (cS (YR QL (WH (xi T)) (by rfl) T.n_isinstance bM (vv 0) (b4 (by rfl) (vF T T.g_NotValid))) (cS (YR QL (WH (xi T)) (by rfl) T.n_isinstance bM (vv 0) (b4 (by rfl) (vF T T.g_Nothing))) cF))))) cF)))
  refine cR ?_ ?_
  ·exact (bU (S9 (VU (bR (LW b) ML (Tx rfl Kv Kw lF gW (vo 1) X8) cQ) (YA (ZF (Z2 (YR QL (WH (xi T)) (by rfl) T.n_isinstance bM (vv 0) (vty T.n_ValueError KN)))))))
   (cP (cI (bW (cS cD (cS (lw cQ) cF)))))
   cC)
  exact cP (cI (bW (cS cD (cS (Tx rfl PySem.F.slot_list_index PySem.F.type_list_index l8 jI (vo 1) X8) cF))))
def iJ:DefH P w K mg base "_law_which" 1 Qx41 (spV K [] 1 VM) 563:=
 iY T.fnm T.p_x41 (λU=>lL T U) (Len1 λ_=>rfl)
def mv{R:cB}{kk:Nat}(e:6<=kk)(AJ:aL P w K mg base "_law_tree_rows" kk Qx42 [1,4] R 570):aL P w K mg base "_law_tree_rows" (kk+1) Qx42 [1,4] (a8 14 [1,4] (ZB R)) 570:=
 V0 P base Nx42 Qx42 (kk+0) (ZB R) [1,4] T T.p_x42 λa b d c=>by
  refine cR ?_ ?_
  ·exact(CP (i:=6) (j:=7) rfl a.nd rfl rfl (by decide) rfl rfl (P7 (Z1 (bN cF))) (aV (cN (X9 T.n_len (Vk (pv 4) (j:=1) XO)))) rfl)
  refine cR ?_ ?_
  ·exact(kS El (bR Q4 KU (vv 2) cQ)
   (cP (bU (S9 (MT (bR (LW d) ML (Vk (pv 4) (j:=1) XO) (a6 (Z1 (bN cF)))) (MT (bR Te s_lt (vv 3) cQ) (MT (bR Q4 KU (vv 2) cQ) (IN (ZI d (bC (hk:=by lia) (UP T) b (cM (vv 0) (aY (pv 1) (cM cQ cL)))) cQ))))))
   (cR (CP (i:=8) (j:=9) rfl a.nd rfl rfl (by decide) rfl rfl (aV (cN (bC (hk:=by lia) (K4 T) b (cM (vv 0) (aY (pv 1) (js (pv 4) (j:=1) XO cL)))))) (aV (cN (bC (hk:=by lia) (UP T) b (cM (vv 0) (aY (pv 1) (cM (vv 2) cL)))))) rfl)
   (cR (jJ (k:=10) rfl a.nd rfl rfl (pv 4) (j:=0) XO (bN (cS (bD ZZ aU (Tk (pv 4) (j:=0) XO) cQ) (cS (ZU PQ MK (vv 9) cQ) cF))))
   (cR (bQ a.nd (aV (cN (bC (hk:=by lia) AJ b (cM (vv 0) (aY (pv 1) (cM (cN (ZU X6 VR (vv 9) (vv 10))) (cM (cN (bD ZZ aU (vv 3) cQ)) (aY (pv 4) (cM (vv 5) cL))))))))))
   (cR (bQ a.nd (aV (cN (bC (hk:=by lia) AJ b (cM (vv 0) (aY (pv 1) (cM (vv 10) (cM (cN (bD ZZ aU (vv 3) cQ)) (aY (pv 4) (cM (vv 5) cL))))))))))
   (cR (SZ De Df WP L5 (pv 6) (bN (cS (bW (cS cD (cS (vv 8) (cS (vv 11) (cS (vv 12) cF))))) cF)))
   (cP (bQ a.nd (aV (cN (ZU X6 VR (ZU X6 VR (vv 2) cQ) (vv 9)))))))))))
   (cR (bQ a.nd (aV (cN (iC (K:=K) (i:=3) (mF:=[1]) rfl (lA T) (by decide) b (by lia) (by rfl) (KC (vv 0) (Tr (pv 1) (eO (pv 4) (j:=1) XO (kx (pv 5)))))))))
   (cR (bU (bR (HR d) (TW (neg:=ba)) (ZV c (vv 13) cQ) (bW (cS cD (cS cD cF))) (by with_unfolding_all rfl))
   (cP (Zu (pv 4) (j:=1) XO (bN (cS (Tk (pv 4) (j:=0) XO) cF))))
   cC)
   (cR (hG (pv 4) (j:=0) XO (cN (bD ZZ aU (Tk (pv 4) (j:=0) XO) cQ)))
   (cR (SZ De Df WP L5 (pv 6) (bN (cS (vv 13) cF)))
   (cP (bQ a.nd (aV (cN (ZU X6 VR (vv 2) cQ))))))))))))
  refine cR ?_ ?_
  ·exact(bU (bR Q4 KU (vv 3) cQ)
   (cP (gC (pv 4) (j:=1) XO (vv 7) (Z1 (bN cF))))
   cC)
  exact cP (cI (Sz HS G3 (by rfl) T.n_tuple X3 (vo 6)))
def kX:∀n,aL P w K mg base "_law_tree_rows" (6+1*n) Qx42 [1,4] (aK n) 570:=λn=>by
 induction n with
 |zero=>exact mkDg T.fnm T.p_x42 (λU=>PN) (Len6 λ_ _ _ _ _ _=>rfl)
 |succ n D=>exact mv T (Gc _ _) D
def AJ:aL P w K mg base "_law_tree_rows" 14 Qx42 [1,4] (aK 8) 570:=kX T 8
def kh:aL P w K mg base "_law_tree" 15 Qx43 [1] T1 577:=
 V0 P base Nx43 Qx43 14 QJ [1] T T.p_x43 λb a d c=>by
  refine cR ?_ ?_
  ·exact(bQ b.nd (aV (cN (bC (K4 T) a (cM (vv 0) (aY (pv 1) (cM (a6 (Z1 (bN (cS cQ (cS cQ (cS cQ cF)))))) cL)))))))
  refine cR ?_ ?_
  ·exact(bQ b.nd (aV (cN (m8 (i:=4) (mF:=[1]) (AJ T) a (KC (vv 0) (Tr (pv 1) (KC (cN (bC (UP T) a (cM (vv 0) (aY (pv 1) (cM (cN (bD ZZ aU (vv 2) cQ)) cL))))) (KC cQ (fE (n:=0) XO (pv 3))))))))))
  exact cP (cI (bW (cS (bC (K4 T) a (cM (vv 0) (aY (pv 1) (cM (a6 (Z1 (bN (cS cQ (cS (vv 3) (cS (bC (UP T) a (cM (vv 0) (aY (pv 1) (cM (cN (bD ZZ aU (vv 3) cQ)) cL)))) cF)))))) cL)))) (cS (vv 4) cF))))
def lG{R:cB}{kk:Nat}(f:0<=kk)(K5:aL P w K mg base "_law_many" kk Nx44 [] R 582):aL P w K mg base "_law_many" (kk+1) Nx44 [] (a8 1 [] (WC R)) 582:=
 V0 P base Nx44 Nx44 (kk+0) (WC R) [] T T.p_x44 λe b c a=>by exact(cP (cI (KB (mY rfl) jW (by rfl) T.n_sum lH (a6 (ZC ["_law_row_here"] [] 1 (XT rfl (vv 0)) (λd _ _ _ _=>⟨(bT d),VD,(cN (bD ZZ aU cQ (XU (ZI c (ZV a (vv 0) cQ) cD) (bD ZZ aU (bC (hk:=by lia) K5 b (cM (cN (ZV a (vv 0) cQ)) cL)) (bC (hk:=by lia) K5 b (cM (cN (ZV a (vv 0) cQ)) cL))) cQ)))⟩))))))
def ki:∀n,aL P w K mg base "_law_many" (0+1*n) Nx44 [] (ZL n) 582:=λn=>by
 induction n with
 |zero=>exact mkDg T.fnm T.p_x44 (λU=>PN) (Len1 λ_=>rfl)
 |succ n D=>exact lG T (Gc _ _) D
def K5:aL P w K mg base "_law_many" 8 Nx44 [] (ZL 8) 582:=ki T 8
def ip{R:cB}{kk:Nat}(f:8<=kk)(AK:aL P w K mg base "_law_tree_play" kk Qx45 [2,3] R 587):aL P w K mg base "_law_tree_play" (kk+1) Qx45 [2,3] (a8 9 [2,3] (ZA R)) 587:=
 V0 P base Nx45 Qx45 (kk+0) (ZA R) [2,3] T T.p_x45 λb c d a=>by
  refine cR ?_ ?_
  ·exact(SY El rfl (XT rfl (vv 0)) (bT b.nd)
   (cR (bQ b.nd (aV bP))
   (cR (bU (ZI d (ZV a (vv 4) cQ) cD)
   (cR (bQ b.nd (aV (cN (bD ZZ aU (bD ZZ aU (vv 1) cQ) (bC (hk:=by lia) (K5 T) c (cM (cN (ZV a (vv 4) cQ)) cL))))))
   (cP (bU (bR (LW d) ML (ZV a (vo 2) (ZV a (vv 4) cQ)) cQ)
   (cP (bQ b.nd (aV (cN (bC (hk:=by lia) AK c (cM (cN (ZV a (vv 4) cQ)) (cM (cN (bD ZZ aU (vv 1) cQ)) (aY (pv 2) (aY (pv 3) cL)))))))))
   (cP (bQ b.nd (aV (cN (bC (hk:=by lia) AK c (cM (cN (ZV a (vv 4) cQ)) (cM (vv 6) (aY (pv 2) (aY (pv 3) cL))))))))))))
   (cP (bU (ZI d (ZV a (vv 4) cQ) cD)
   (cP (IM a (pv 2) (vv 1) (cN (ZV a (vv 4) cQ)) rfl))
   (cR (UM (cN (bC (hk:=by lia) (dG T) c (cM (vv 4) (cM cQ (cM (a6 (ZC ["_law_words","_law_name"] [2] 1 (XT rfl (cN (bC (hk:=by lia) (Yj T) c (cM (vv 4) cL)))) (λe _ _ _ _=>⟨(bT e),VD,(cN (ZV a (vo 0) (vv 1)))⟩))) (aY (pv 3) cL)))))) (W0 (K:=K) rfl rfl (a9 (bT b.nd) (a9 (bT b.nd) YN))))
   (cR (IM a (pv 2) (vv 1) (vv 7) rfl)
   (cP (bQ b.nd (aV (cN (XU (bR RM OU (vv 8) bP) (bW (cS (vv 1) (cS (vv 8) cF))) bP))))))))))
   (cR (bU (bR RM OU (vv 5) bP)
   (cP (cI (vv 5)))
   cC)
   (cP (bQ b.nd (aV (cN (bD ZZ aU (vv 1) (bC (hk:=by lia) (K5 T) c (cM (cN (bW (cS (vv 4) cF))) cL)))))))))))
  exact cP (cI bP)
def iu:∀n,aL P w K mg base "_law_tree_play" (8+1*n) Qx45 [2,3] (bK n) 587:=λn=>by
 induction n with
 |zero=>exact mkDg T.fnm T.p_x45 (λU=>PN) (Len4 λ_ _ _ _=>rfl)
 |succ n D=>exact ip T (Gc _ _) D
def AK:aL P w K mg base "_law_tree_play" 16 Qx45 [2,3] (bK 8) 587:=iu T 8
def fN:aL P w K mg base "_law_ask" 23 Qx46 [] WN 594:=
 V0 P base Nx46 Qx46 22 RI [] T T.p_x46 λb a d c=>by
  exact(cP (lc (i:=1) rfl rfl rfl b.nd rfl rfl (by decide) (by rfl) (λ_=>T.fnm _ _)
   (cP (cI (bC (jw T) a (cM (vv 0) cL))))
   (λ_ _ _ hz=>(TC (Yn (Zv hz rfl (mi T) a (by decide) (by rfl) rfl (cM (vv 0) cL)))))
   λ_=>(cP (cI (fX (iJ T) (a.h.mark _) (cM (vv 1) cL))))))
def ji{f:Sa}{fd:Ch}(F:OY K "law" "law" (top 84) f fd):YV P w K mg base CX0 24 f fd Qx47 (spV K [] 1 K8):=
 okWg P w K mg base Nx47 Qx47 23 A9 [] F DK λb c d a=>by
  refine cR ?_ ?_
  ·exact(bQ b.nd (P7 (Z1 (bN cF))))
  refine cR ?_ ?_
  ·exact(bQ b.nd (aV (cN (bC (kh T) c (cM (vv 0) (aY (pv 1) (cM cQ cL)))))))
  refine cR ?_ ?_
  ·exact(bQ b.nd (aV (cN (bC (fN T) c (cM (vv 2) cL)))))
  refine cR ?_ ?_
  ·exact(bU (ZI d (vv 3) (bW (cS cD (cS cQ cF))))
   (cP (cI (OX Q4 KU (bC (K5 T) c (cM (cN (ZV a (vv 2) cQ)) cL)) cQ)))
   cC)
  refine cR ?_ ?_
  ·exact(UM (vv 3) (W0 (K:=K) rfl rfl (a9 (bT b.nd) (a9 (bT b.nd) YN))))
  refine cR ?_ ?_
  ·exact(bU (S9 (VU (bR ma Xr (bC (Vo T) c (cM (vv 4) cL)) X8) (YA (bR Q4 KU (X9 T.n_len (ZV a (vv 4) cQ)) cQ))))
   (cP (cI X8))
   cC)
  refine cR ?_ ?_
  ·exact (SY El rfl (RU (by rfl) T.n_range cQ) (bT b.nd)
   (cR (bQ b.nd (aV (cN (bC (kZ T) c (cM (vv 0) (aY (pv 1) (cM (cN (ZV a (vv 2) cQ)) cL)))))))
   (cR (bQ b.nd (P7 (CK HQ VA (by rfl) T.VA O6 (vv 7))))
   (cR (bQ b.nd (aV (cN (AG (i:=2) (AK T) c (KC (cN (ZV a (vv 2) cQ)) (KC cQ (dL (pv 8))))))))
   (cP (bU (bR (LW d) ML (bC (Yb T) c (cM (vv 4) (cM (vv 7) cL))) (bW (P4 (pv 8) (cS (XU (bR SU NX (vv 9) bP) bP (bW (cS (ZV a (vv 5) (ZV a (vv 9) cQ)) (cS (ZV a (vv 9) cQ) cF)))) cF))))
   (cP (cI X8))
   cC))))))
  exact cP (cI (veq d (kj (vv 5) bP) (ZU X6 VR (bC (K5 T) c (cM (cN (ZV a (vv 2) cQ)) cL)) (X9 T.n_len (a6 (ZC ["_law_row_here"] [] 1 (XT rfl (vv 5)) (λe _ _ _ _=>⟨(bT e),(Tu (bR RM OU (vv 0) bP)),(vv 0)⟩)))))))
end
end RR
namespace L2
open PySem
def Y2(a b:String):Bq a=Bq b↔a=b:=by
 refine⟨λh=>?_,λh=>by rw[h]⟩;rw[Hy,Hy]at h;injection h with h;have h2:a.toList.map Oy=b.toList.map Oy:=by simpa using h
 have f:a.toList=b.toList:=by
  have inj:∀(l m:List Char),l.map Oy=m.map Oy->l=m:=by
   intro l;induction l with
   |nil=>intro m h;cases m with
    |nil=>rfl
    |cons=>cases h
   | cons c l d => intro m h;cases m with
    |nil=>cases h
    |cons e m=>
     simp only[Be,Lx]at h;rw[d m h.2,Char.toNat_inj.mp h.1]
  exact inj _ _ h2
 exact String.toList_inj.mp f
def eI(a:String):Rq (Bq a)=ba:=by
 unfold Rq;rw[Hy];simp only[List.all_toArray,Rp,Fe,Function.comp,decide_eq_true_eq];intro c _;have:=c.valid
 rcases this with h|⟨_,h⟩
 ·show c.val.toNat<1114112
  have:c.val.toNat<55296:=h
  lia
 ·exact h
def QR(k:Nat)(d:cT):Prop:=d.isD=ba/\d.pd.canLay0=ba/\d.pd.depth<=k
def aC{k:Nat}{i:Int}:QR k (.int i):=⟨rfl,rfl,Ee _⟩
def PP{k:Nat}:QR k .non:=⟨rfl,rfl,Ee _⟩
def Y4{k:Nat}{a:String}:QR k (.str (Bq a)):=⟨rfl,by simp[cT.pd,Gg,eI],Ee _⟩
theorem IA{k:Nat}:∀{ds:List cT},(∀d∈ds,QR k d)->FG ds=ba/\Ic (pds ds)=ba/\Ez (pds ds)<=k
 |[],_=>⟨rfl,rfl,Ee _⟩
 |d::ds,h=>by obtain⟨g,f,j⟩:=h d Bj;obtain⟨c,b,i⟩:=IA λe a=>h e (At _ a);refine⟨by simp[FG,g,c],by simp[pds,Ic,f,b],?_⟩;simp only[pds,Ez];lia
def XD{k:Nat}{ds:List cT}(h:∀d∈ds,QR k d):QR (k+1) (.tup ds):=by obtain⟨a,b,c⟩:=IA h;exact⟨by simpa[cT.isD]using a,by simpa[cT.pd,Gg]using b,by simp only[cT.pd,Ii];lia⟩
def M6{k:Nat}{ds:List cT}(h:∀d∈ds,QR k d):QR (k+1) (.lst ds):=by obtain⟨a,b,c⟩:=IA h;exact⟨by simpa[cT.isD]using a,by simpa[cT.pd,Gg]using b,by simp only[cT.pd,Ii];lia⟩
def QR.ok{k:Nat}{d:cT}(h:QR k d)(hk:k<=64:=by decide):JY d=ba:=by
 unfold JY Ej;simp only[h.1,h.2.1,Rl,Af,decide_eq_true_eq];have:=h.2.2
 lia
@[simp] theorem ud{a:String}:JY (.str (Bq a))=ba:=(Y4 (k:=0)).ok
def YM{k:Nat}:∀d∈([]:List cT),QR k d:=λ_ h=>nomatch h
def bG{k:Nat}{d:cT}{ds:List cT}(h:QR k d)(t:∀d∈ds,QR k d):∀e∈d::ds,QR k e:=λe a=>by
 rcases Ar.mp a with z|z
 ·rw[z];exact h
 ·exact t e z
@[simp] theorem rN{i j:Int}:eqD (.int i) (.int j)=decide (i=j):=by show(i==j)=_;rw[Ly]
@[simp] theorem o7{a b:String}:eqD (.str (Bq a)) (.str (Bq b))=decide (a=b):=by show(Bq a==Bq b)=_;rw[Ly];simp only[Y2]
@[simp] theorem ur{i j:Int}:YK (.int i) (.int j)=b3 (.bl (decide (i=j))):=by unfold YK;simp
@[simp] theorem uk{i j:Int}:HZ (.int i) (.int j)=b3 (.bl (!decide (i=j))):=by unfold HZ;simp
@[simp] theorem uE{a b:String}:YK (.str (Bq a)) (.str (Bq b))=b3 (.bl (decide (a=b))):=by unfold YK;simp
def Vi{j k:Nat}{d e:cT}(h:QR j d)(h':QR k e)(a:j<=64:=by decide)(hk:k<=64:=by decide):YK d e=b3 (.bl (eqD d e)):=by unfold YK;rw[h.ok a,h'.ok hk];rfl
def Vw{j k:Nat}{d e:cT}(h:QR j d)(h':QR k e)(a:j<=64:=by decide)(hk:k<=64:=by decide):HZ d e=b3 (.bl (!eqD d e)):=by unfold HZ;rw[h.ok a,h'.ok hk];rfl
def Tl{j k:Nat}{neg:Bool}{d:cT}{ds:List cT}(h:QR j d)(h':∀e∈ds,QR k e)(a:j<=64:=by decide)(hk:k+1<=64:=by decide):UG neg d (.tup ds)=b3 (.bl (if neg then !inE d ds else inE d ds)):=by unfold UG;simp[h.ok a,(XD h').ok hk]
@[simp] theorem sW{d:cT}:inE d []=bb:=(rfl)
@[simp] theorem tY{d e:cT}{ds:List cT}:inE d (e::ds)=(eqD e d || inE d ds):=(rfl)
@[simp] theorem t9{neg:Bool}{a b c:String}:UG neg (.str (Bq a)) (.tup [.str (Bq b),.str (Bq c)])=b3 (.bl (if neg then !(decide (b=a) || decide (c=a))else decide (b=a) || decide (c=a))):=by rw[Tl (j:=0) Y4 (bG (Y4 (k:=0)) (bG Y4 YM))];simp
@[simp] theorem uR{neg:Bool}{a b c d e:String}:UG neg (.str (Bq a)) (.tup [.str (Bq b),.str (Bq c),.str (Bq d),.str (Bq e)])=b3 (.bl (if neg then !(decide (b=a) || (decide (c=a) || (decide (d=a) || decide (e=a))))else decide (b=a) || (decide (c=a) || (decide (d=a) || decide (e=a))))):=by rw[Tl (j:=0) Y4 (bG (Y4 (k:=0)) (bG Y4 (bG Y4 (bG Y4 YM))))];simp
@[simp] theorem sJ{neg:Bool}{a b c:Int}:UG neg (.int a) (.tup [.int b,.int c])=b3 (.bl (if neg then !(decide (b=a) || decide (c=a))else decide (b=a) || decide (c=a))):=by rw[Tl (j:=0) aC (bG (aC (k:=0)) (bG aC YM))];simp
def jS{k:Nat}{d:cT}(h:QR k d):eqD d d=ba:=PySem.SeqAt.eqv_refl _ h.2.1
def T4(ns:List Int):cT:=.lst (ns.map .int)
def V7(n:Nat):cT:=.lst (Aj n (.int 0))
theorem JR:∀ns:List Int,FG (ns.map cT.int)=ba
 |[]=>rfl
 |n::ns=>by simp[FG,cT.isD,JR ns]
theorem FY:∀ns:List Int,pds (ns.map cT.int)=ns.map Oi
 |[]=>rfl
 |n::ns=>by simp[pds,cT.pd,FY ns]
def Yt(ns:List Int):JY (.lst (ns.map .int))=ba:=by unfold JY;simp only[cT.isD,JR,cT.pd,FY,Rl];exact F7 ns
def SA(ns:List Int):YK (.lst (ns.map .int)) (.lst [])=b3 (.bl ns.isEmpty):=by unfold YK;rw[Yt,show JY (.lst [])=ba from by decide+kernel];cases ns<;>rfl
theorem JP:∀n:Nat,QX (Aj n (.int 0))=ba
 |0=>rfl
 |n+1=>by simp[Dh,QX,cT.hard,JP n]
@[simp] theorem oN(n:Nat):PK (V7 n)=ba:=JP n
theorem JF:∀(ds:List cT) (a b:cT) (r:Int) (s:Sl),∃r' s',YC (gN 3) (Z5 2 (xV (f2 L6 (fV 2) (fC (.int 1000003))))) ds [.va a,.va b,.va (.int r),s]=b3 (.nx [.va a,.va b,.va (.int r'),s'])
 |[],a,b,r,s=>⟨r,s,rfl⟩
 |d::ds,a,b,r,s=>by obtain⟨r',s',h⟩:=JF ds a b (r/1000003) (.va d);exact⟨r',s',by simp[KO,h]⟩
def HK{ns:List Int}{i:Int}(c:0<=i)(h1:i<ns.length):∃r∈ns,UR (ns.map cT.int) i=b3 (.int r):=by obtain⟨x,a,e⟩:=CY (xs:=ns.map cT.int) c (by simpa using h1);obtain⟨r,b,rfl⟩:=Ek.mp a;exact⟨r,b,e⟩
def jU(ns:List Int)(k:Nat)(hl:ns.length<=63)(hk:k<1000000):∃r,Y8 [T4 ns,.int k]=b3 (.int r,[]):=by
 unfold Y8;rw[cA];unfold U7 TU T4;by_cases h:(k:Int)<ns.length
 ·obtain ⟨r,_,e⟩ := HK (ns := ns) (i := k) (by lia) h
  exact⟨r,by simp[b7,h,e]⟩
 ·cases ns with
  |nil=>
   have o:¬((k:Int)<0):=by lia
   have e:YK (.lst []) (.lst [])=b3 (.bl ba):=SA [];exact⟨0,by simp[b7,o,e]⟩
  |cons m g=>
   generalize a:m::g=ns at*;have f:(0:Int)<ns.length:=by rw[<-a];simp
   have n:=Ji (k:Int) (show(ns.length:Int)≠0 by lia);have d:=Hw (k:Int) f;obtain⟨r,_,e⟩:=HK (ns:=ns) n d;have l:ns.isEmpty=bb:=by rw[<-a];rfl
   have q:0<=(k:Int)/ns.length:=Lv (by lia) (by lia);have j: -4611686018427387904<=(if(60:Int)<(k:Int)/ns.length then 60 else(k:Int)/ns.length)/\(if(60:Int)<(k:Int)/ns.length then 60 else(k:Int)/ns.length)<4611686018427387904:=by split<;>lia
   obtain⟨r',s',p⟩:=JF (TQ 0 (if(60:Int)<(k:Int)/ns.length then 60 else(k:Int)/ns.length).toNat) (.lst (ns.map .int)) (.int k) r .no;have c:0<ns.length:=by lia
   have b:(ns.length:Int)<1073741824:=by lia
   exact⟨r*31+k+r'*101,by simp[b7,h,SA,l,f,c,b,e,KO,j,p,G0]⟩
noncomputable def cel(ns:List Int)(k:Nat):Int:=match Y8 [T4 ns,.int k]with
 |some (.int r,_)=>r
 |_=>0
def jZ(ns:List Int)(k:Nat)(hl:ns.length<=63)(hk:k<1000000):Y8 [T4 ns,.int k]=b3 (.int (cel ns k),[]):=by obtain⟨r,e⟩:=jU ns k hl hk;unfold cel;rw[e]
noncomputable def JL(ns:List Int)(n:Nat)(b:Int):Int:=((cel ns (n+1)*1103515245+7919*(((n+1:Nat)):Int)+12345) % 2147483647) ^ 5 % 2147483647 % 999983 % b
def QV(ns:List Int)(n:Nat){b:Int}(h:0<b):0<=JL ns n b:=Ji _ (by lia)
def NN(ns:List Int)(n:Nat){b:Int}(h:0<b):JL ns n b<b:=Hw _ h
def Yy(ns:List Int)(n:Nat)(b:Int)(hl:ns.length<=63)(d:n<900000)(c:0<b):VL [T4 ns,.int ((n+1:Nat):Int),.int b]=b3 (.int (JL ns n b),[]):=by
 have e:=jZ ns (n+1) hl (by lia);unfold VL;rw[cA];unfold SI JL;have g:=Ji (cel ns (n+1)*1103515245+7919*((n+1:Nat):Int)+12345) (show(2147483647:Int)≠0 by decide);have f:=Hw (cel ns (n+1)*1103515245+7919*((n+1:Nat):Int)+12345) (show(0:Int)<2147483647 by decide);generalize hz:(cel ns (n+1)*1103515245+7919*((n+1:Nat):Int)+12345) % 2147483647=z at*;have a:z.natAbs<18446744073709551616:=by lia
 generalize hk:((n+1:Nat):Int)=k at*;simp[b7,e,G0,cPow,hz,a,c]
def YL(ns:List Int)(n:Nat)(b:Int)(hl:ns.length<=63)(f:n<900000)(g:0<b):bF [T4 ns,V7 n,.int b]=b3 (.int (JL ns n b),[V7 (n+1)]):=by
 have e:=Yy ns n b hl f g;unfold bF;rw[cA];unfold QG;have c:V7 n=.lst (Aj n (.int 0)):=rfl;have a:V7 (n+1)=.lst (Aj n (.int 0)++[.int 0]):=by unfold V7;rw[List.replicate_succ']
 rw[a,c];have d:n<16777216:=by lia
 push_cast at e
 simp[b7,d,e]
def UH(ns:List Int)(n:Nat)(xs:List cT)(hl:ns.length<=63)(b:n<900000)(d:0<xs.length):∃x∈xs,ZM [T4 ns,V7 n,.lst xs]=b3 (x,[V7 (n+1)]):=by
 have a:(0:Int)<xs.length:=by lia
 obtain⟨x,c,e⟩:=CY (xs:=xs) (QV ns n a) (NN ns n a);refine⟨x,c,?_⟩;unfold ZM;rw[cA];unfold QH;simp[b7,YL ns n _ hl b a,e]
def AY(ns:List Int)(n:Nat)(b:Int)(hl:ns.length<=63)(a:n<900000)(c:0<b)(tl:Ev):cE 3 [1] bF (aE (fV 0) (aO 1 (aE (fC (.int b)) bZ))) (.va (T4 ns):: .ow (V7 n)::tl)=b3 (.int (JL ns n b),.va (T4 ns):: .ow (V7 (n+1))::tl):=by simp[YL ns n b hl a c]
abbrev Sn(m:Nat)(d:cT):Prop:=∃(ks:List aQ) (vs:List Int),d=.dct ks (vs.map .int)/\ks.length=vs.length/\ks.Nodup/\ks.length<=m
abbrev EO(n:Nat)(d:cT):Prop:=Sn (8*n) d
def EO.mono{n m:Nat}{d:cT}(h:EO n d)(b:n<=m):EO m d:=by obtain⟨ks,vs,h1,h2,a,c⟩:=h;exact⟨ks,vs,h1,h2,a,by lia⟩
theorem Vz:∀(ks:List aQ) (vs:List Int) (k:aQ) (q:Int),∃r,(bJ ks (vs.map .int) k).getD (.int q)=.int r
 |[],_,_,q=>⟨q,by simp[bJ]⟩
 |_::_,[],_,q=>⟨q,by simp[bJ]⟩
 | k' :: ks,v :: vs,k,q => by
  by_cases h:k'=k
  ·exact⟨v,by simp[bJ,h]⟩
  ·obtain⟨r,e⟩:=Vz ks vs k q
   exact⟨r,by simp only[Be,bJ,if_neg h];exact e⟩
theorem putI:∀(ks:List aQ) (vs:List Int) (k:aQ) (p:Int),ks.length=vs.length->ks.Nodup->∃(a:List aQ) (b:List Int),YT ks (vs.map .int) k (.int p)=(a,b.map .int)/\a.length=b.length/\a.Nodup/\a.length<=ks.length+1/\(∀z∈a,z=k∨z∈ks)/\bJ a (b.map .int) k=b3 (.int p)
 |[],[],k,p,_,_=>⟨[k],[p],by simp[YT],rfl,by simp,by simp,by simp,by simp[bJ]⟩
 | k' :: ks,v :: vs,k,p,hl,c => by
  by_cases h:k'=k
  ·subst h
   exact⟨k'::ks,p::vs,by simp[YT],by simpa using hl,c,by simp,by simp,by simp[bJ]⟩
  ·obtain ⟨a,b,e,h1,h2,g,d,f⟩ := putI ks vs k p (by simpa using hl) (Cj.mp c).2
   refine⟨k'::a,v::b,by simp only[Be,YT,if_neg h,e],by simp[h1],?_,by simp;lia,?_,by simp only[Be,bJ,if_neg h];exact f⟩
   ·refine Cj.mpr ⟨λz => ?_,h2⟩
    rcases d _ z with y|y
    ·exact h y
    ·exact(Cj.mp c).1 y
   ·intro z hz
    rcases Ar.mp hz with y|y
    ·exact .inr (by rw[y];exact Bj)
    ·exact(d z y).imp id (At _)
def F0(ns:List Int)(n:Nat)(sn:cT)(x:Sb)(room:Int)(hl:ns.length<=63)(r:n<800000)(j:EO n sn)(g:0<room):∃p d,0<=p/\p<room/\EO (n+2) d/\ZQ [T4 ns,V7 n,sn,.str x,.int room]=b3 (.int p,[V7 (n+2),d]):=by
 obtain⟨ks,vs,rfl,h1,h2,u⟩:=j;obtain⟨a,k⟩:=Vz ks vs (.inr x) (JL ns n room);obtain⟨y,i,q⟩:=UH ns (n+1) [.int 1,.int 1,.int 1,.int 0,.int 3] hl (by lia) (by simp);obtain⟨b,rfl⟩:∃b,y=.int b:=by simp only[Ar,Br,or_false]at i;rcases i with h|h|h|h|h<;>exact⟨_,h⟩
 obtain⟨f,c,e,o,m,t,s,l⟩:=putI ks vs (.inr x) ((a+b) % room) h1 h2;refine⟨(a+b) % room,.dct f (c.map .int),Ji _ (by lia),Hw _ g,⟨f,c,rfl,o,m,by lia⟩,?_⟩;have hk:ks.length<16777216:=by lia
 unfold ZQ;rw[cA];unfold SJ;simp[b7,YL ns n room hl (by lia) g,k,q,g,hk,h2,e,l]
inductive TR(M:Int->Prop):cT->Prop
 |number {n:Int}:0<=n->n<=999->TR M (.tup [.str "number",.int n])
 |two {x:String}{a b:Int}:x∈["over","plus","minus","times","least","most","less"]->M a->M b->TR M (.tup [.str x,.int a,.int b])
 |pick {c a b:Int}:M c->M a->M b->TR M (.tup [.str "pick",.int c,.int a,.int b])
 |load {p:Int}:0<=p->p<=63->TR M (.tup [.str "load",.int p])
 |take {p c a:Int}:0<=p->p<=63->M c->M a->TR M (.tup [.str "take",.int p,.int c,.int a])
 |store {p a:Int}:0<=p->p<=63->M a->TR M (.tup [.str "store",.int p,.int a])
 |put {p a c:Int}:0<=p->p<=63->M a->M c->TR M (.tup [.str "put",.int p,.int a,.int c])
def iM(ns:List Int)(n:Nat)(made:List Int)(hl:ns.length<=63)(k:n<800000)(l:0<made.length)(s:Sl):∃a b c,a∈made/\b∈made/\c∈made∧ZJ 3 1 (gN 3) U2 (f2 bV (fV 2) (f2 oMax (fC (.int 0)) (f2 SR (f2 SR (f1 YY (fV 2)) (fC (.int 1))) (cE 3 [1] bF (aE (fV 0) (aO 1 (aE (fC (.int 6)) bZ))))))) [.int 0,.int 1,.int 2] [] [.va (T4 ns),.ow (V7 n),.va (.lst (made.map .int))]=b3 ([.int a,.int b,.int c],[.va (T4 ns),.ow (V7 (n+3)),.va (.lst (made.map .int))]):=by
 have one:∀m,∃a∈made,UR (made.map cT.int) (if(made.length:Int)-1-JL ns m 6>0 then(made.length:Int)-1-JL ns m 6 else 0)=b3 (.int a):=λm=>by
  have:=QV ns m (b:=6) (by decide)
  exact HK (by split<;>lia) (by split<;>lia)
 obtain⟨a,h,f⟩:=one n;obtain⟨b,g,e⟩:=one (n+1);obtain⟨c,hc,d⟩:=one (n+2);refine⟨a,b,c,h,g,hc,?_⟩;have d0:=YL ns n 6 hl (by lia) (by decide);have j:=YL ns (n+1) 6 hl (by lia) (by decide);have i:=YL ns (n+2) 6 hl (by lia) (by decide);simp only[gt_iff_lt,Int.sub_pos]at f e d;simp[d0,j,i,f,e,d]
def onC(x:String):Prop:=x= "load" ∨x= "take" ∨x= "store" ∨x= "put"
def PlOK(room:Int)(row:cT):Prop:=∀(x:String) (p:Int) (t:List cT),row=.tup (.str x:: .int p::t)->onC x->p<room
def PV{room p:Int}{x:String}{t:List cT}(h:p<room):PlOK room (.tup (.str x:: .int p::t)):=λy q u e _=>by simp only[cT.tup.injEq,Lx,cT.int.injEq]at e;lia
def DW{room:Int}{x:String}{t:List cT}(h:¬onC x):PlOK room (.tup (.str x::t)):=λy q u e a=>by simp only[cT.tup.injEq,Lx,cT.str.injEq,Y2]at e;rw[<-e.1]at a;exact absurd a h
def dR{x:String}(a:x∈["over","plus","minus","times","least","most","less"]):¬onC x:=λh=>by simp only[Ar,Br,or_false]at a;rcases a with rfl|rfl|rfl|rfl|rfl|rfl|rfl<;>rcases h with h|h|h|h<;>exact absurd h (by decide)
def D8{s1 s2:VS}{δ δ1:Ev}(h:s1 δ=b3 (.nx δ1)):b8 s1 s2 δ=s2 δ1:=by rw[iZ,h,qS_n]
def jt(ns:List Int)(n:Nat)(made:List Int)(sn:cT)(room:Int)(hl:ns.length<=63)(U:n<700000)(k:EO n sn)(E:0<room)(L:room<=64):∃row n' d,n<=n'/\n'<=n+10/\EO n' d/\TR (· ∈made) row/\PlOK room row/\RE [T4 ns,V7 n,.lst (made.map .int),sn,.int room]=b3 (row,[V7 n',d]):=by
  have d0:=AY ns n 13 hl (by lia) (by decide);have k0:=QV ns n (b:=13) (by decide);have k1:=NN ns n (b:=13) (by decide);generalize JL ns n 13=e at*;unfold RE;rw[cA];unfold OG;by_cases G:made.isEmpty=ba∨e=0
  · have t := AY ns (n + 1) 2 hl (by lia) (by decide)
    have l:made.isEmpty=ba∨(made.isEmpty=bb/\e=0):=by
      cases z:made.isEmpty with
      |true=>exact .inl rfl
      | false => rcases G with h | h
                 · rw[z]at h;cases h
                 · exact .inr ⟨rfl,h⟩
    by_cases h2:JL ns (n+1) 2=0
    · have H := AY ns (n + 2) 1000 hl (by lia) (by decide)
      obtain⟨y,r,q⟩:=UH ns (n+3) [.int 0,.int 1,.int 2,.int 5,.int 999,.int (JL ns (n+2) 1000)] hl (by lia) (by simp);obtain⟨b,rfl,C,B⟩:∃b,y=.int b/\0<=b/\b<=999:=by
        have:=QV ns (n+2) (b:=1000) (by decide)
        have:=NN ns (n+2) (b:=1000) (by decide)
        simp only[Ar,Br,or_false]at r;rcases r with h|h|h|h|h|h<;>exact⟨_,h,by lia,by lia⟩
      refine⟨.tup [.str "number",.int b],n+4,sn,by lia,by lia,k.mono (by lia),.number C B,DW (by unfold onC;decide),?_⟩;rcases l with h|⟨h,h'⟩
      · simp[b7,↓d0,SA,h,↓t,h2,↓H,q]
      · simp[b7,↓d0,SA,h,h',↓t,h2,↓H,q]
    · obtain ⟨p,d,j,i,f,g⟩ := F0 ns (n + 2) sn "load" room hl (by lia) (k.mono (by lia)) E
      refine⟨.tup [.str "load",.int p],n+4,d,by lia,by lia,f,.load j (by lia),PV i,?_⟩;rcases l with h|⟨h,h'⟩
      · simp[b7,↓d0,SA,h,↓t,h2,g]
      · simp[b7,↓d0,SA,h,h',↓t,h2,g]
  · obtain⟨z,A⟩:=not_or.mp G
    have m:made.isEmpty=bb:=by simpa using z
    have P:0<made.length:=by
      cases made with
      |nil=>cases m
      |cons=>simp
    obtain⟨a,b,c,o,F,hc,N⟩:=iM ns (n+1) made hl (by lia) P .no;rw[show b7 [1,3] 9 [T4 ns,V7 n,.lst (made.map .int),sn,.int room]=[.va (T4 ns),.ow (V7 n),.va (.lst (made.map .int)),.ow sn,.va (.int room),.no,.no,.no,.no] from rfl,D8 (δ1:=[.va (T4 ns),.ow (V7 (n+1)),.va (.lst (made.map .int)),.ow sn,.va (.int room),.va (.int e),.no,.no,.no]) (by simp[↓d0]),D8 (δ1:=[.va (T4 ns),.ow (V7 (n+1)),.va (.lst (made.map .int)),.ow sn,.va (.int room),.va (.int e),.no,.no,.no]) (by simp[SA,m,A]),D8 (δ1:=[.va (T4 ns),.ow (V7 (n+4)),.va (.lst (made.map .int)),.ow sn,.va (.int room),.va (.int e),.va (.int a),.va (.int b),.va (.int c)]) (by simp[Z8,N])]
    have M:(e=1∨e=2)∨e=3∨(e=4∨e=5)∨e=6∨e=7∨(8<=e/\e<=12):=by lia
    have pl:∀x:Sb,∃p d,0<=p/\p<=63/\p<room/\EO (n+6) d/\∀s tl,cE 5 [1,2] ZQ (aE (fV 0) (aO 1 (aO 3 (aE (fC (.str x)) (aE (fV 4) bZ))))) (.va (T4 ns):: .ow (V7 (n+4))::s:: .ow sn:: .va (.int room)::tl)=b3 (.int p,.va (T4 ns):: .ow (V7 (n+6))::s:: .ow d:: .va (.int room)::tl):=λx=>by obtain⟨p,d,j,i,f,g⟩:=F0 ns (n+4) sn x room hl (by lia) (k.mono (by lia)) E;exact⟨p,d,j,by lia,i,f,λs tl=>by simp[g]⟩
    rcases M with h|h|h|h|h|h
    · have v : (decide (1 = e) || decide (2 = e)) = ba := by rcases h with rfl | rfl <;> decide
      obtain⟨p,d,j,i,p2,f,g⟩:=pl "load";exact⟨.tup [.str "load",.int p],n+6,d,by lia,by lia,f,.load j i,PV p2,by simp[↓g,v]⟩
    · subst h
      obtain⟨p,d,j,i,p2,f,g⟩:=pl "take";exact⟨.tup [.str "take",.int p,.int c,.int a],n+6,d,by lia,by lia,f,.take j i hc o,PV p2,by simp[↓g]⟩
    · have u : (decide (4 = e) || decide (5 = e)) = ba := by rcases h with rfl | rfl <;> decide
      have w:¬e=3:=by lia
      have m1:¬1=e:=by lia
      have m2:¬2=e:=by lia
      obtain⟨p,d,j,i,p2,f,g⟩:=pl "store";exact⟨.tup [.str "store",.int p,.int a],n+6,d,by lia,by lia,f,.store j i o,PV p2,by simp[↓g,w,m1,m2,u]⟩
    · subst h
      obtain⟨p,d,j,i,p2,f,g⟩:=pl "put";exact⟨.tup [.str "put",.int p,.int a,.int c],n+6,d,by lia,by lia,f,.put j i o hc,PV p2,by simp[↓g]⟩
    · subst h
      exact⟨.tup [.str "pick",.int c,.int a,.int b],n+4,sn,by lia,by lia,k.mono (by lia),.pick hc o F,DW (by unfold onC;decide),by simp⟩
    · have O := AY ns (n + 4) 7 hl (by lia) (by decide)
      have q0:=QV ns (n+4) (b:=7) (by decide);have q1:=NN ns (n+4) (b:=7) (by decide);obtain⟨y,r,q⟩:=CY (xs:=["over","plus","minus","times","least","most","less"].map λs:String=>cT.str (Bq s)) q0 (by simpa using q1);obtain⟨x,D,rfl⟩:=Ek.mp r;simp only[Be,Cf]at q;have T:¬e=1:=by lia
      have S:¬e=2:=by lia
      have w:¬e=3:=by lia
      have R:¬e=4:=by lia
      have Q:¬e=5:=by lia
      have J:¬e=6:=by lia
      have I:¬e=7:=by lia
      have m1:¬1=e:=by lia
      have m2:¬2=e:=by lia
      have m4:¬4=e:=by lia
      have K:¬5=e:=by lia
      exact⟨.tup [.str x,.int a,.int b],n+5,sn,by lia,by lia,k.mono (by lia),.two D o F,DW (dR D),by simp[w,J,I,m1,m2,m4,K,↓O,q]⟩
inductive Kd where
 |w|p|n
 deriving DecidableEq
noncomputable def mk1(k:Kd):cT->Kd
 |.tup (.str x::_)=>if x= "store" ∨x= "put" then .n else k
 |_=>.n
theorem JH(ns:List Int)(b:Int)(hl:ns.length<=63)(g:0<b)(fe:VF)(x:Sl)(tail:Ev)(c:Nat)(a:c=tail.length+2)(f:∀n d,n<800000->fe ([.va (T4 ns),.ow (V7 n)]++tail++[.va d])=b3 (.int (JL ns n b),[.va (T4 ns),.ow (V7 (n+1))]++tail++[.va d])):∀(ds:List cT) (n:Nat) (acc:List cT),n+ds.length<800000->acc.length+ds.length<1000000->∃ws:List Int,ws.length=ds.length/\(∀w∈ws,0<=w/\w<b)∧ZJ c 1 (gN c) U2 fe ds acc ([.va (T4 ns),.ow (V7 n)]++tail)=b3 (acc++ws.map .int,[.va (T4 ns),.ow (V7 (n+ds.length))]++tail)
 |[],n,acc,_,_=>⟨[],rfl,(λ_ h=>nomatch h),by simp⟩
 | d :: ds,n,acc,i,j => by
  obtain⟨ws,h1,h2,k⟩:=JH ns b hl g fe x tail c a f ds (n+1) (acc++[.int (JL ns n b)]) (by simp at i;lia) (by simp at j⊢;lia);refine⟨JL ns n b::ws,by simp[h1],λw hw=>?_,?_⟩
  ·rcases Ar.mp hw with z|z
   ·rw[z];exact⟨QV ns n g,NN ns n g⟩
   ·exact h2 w z
  ·have e := f n d (by simp at i;lia)
   have l:([Sl.va (T4 ns),Sl.ow (V7 n)]++tail++[Sl.no]).set c (.va d)=[Sl.va (T4 ns),Sl.ow (V7 n)]++tail++[Sl.va d]:=by rw[Lz _ _ (by simp[a])];simp[a]
   have o:([Sl.va (T4 ns),Sl.ow (V7 (n+1))]++tail++[Sl.va d]).take c=[Sl.va (T4 ns),Sl.ow (V7 (n+1))]++tail:=by rw[Gd (by simp[a]),Cz (by simp[a])]
   have m:acc.length<16777216:=by simp at j;lia
   simp only[AX,Xa,LI,l,Xg,Vr,Wz,e,Wr,if_pos m,o,k];simp[show n+1+ds.length=n+(ds.length+1) by lia]
def Zy{ds:List cT}{k:Nat}(h:k<=ds.length):LD ds (b3 (k:Int)) b5=ds.drop k:=by unfold LD;rw[HT.zG7,HT.zCP,Nat.min_eq_left h,Cz (by simp)]
@[simp] theorem uq{d e:cT}{ds:List cT}:LD (d::e::ds) (b3 2) b5=ds:=Zy (k:=2) (by simp)
@[simp] theorem sN{α:Type}{x:α}{xs:List α}:UR (x::xs) 0=b3 x:=by rw[U1 (by decide) (by simp)];rfl
@[simp] theorem tV{α:Type}{x y:α}{xs:List α}:UR (x::y::xs) 1=b3 y:=by rw[U1 (by decide) (by simp;lia)];rfl
@[simp] theorem sI{α:Type}{x y z:α}{xs:List α}:UR (x::y::z::xs) 2=b3 z:=by rw[U1 (by decide) (by simp;lia)];rfl
@[simp] theorem pX{α:Type}{x y z u:α}{xs:List α}:UR (x::y::z::u::xs) 3=b3 u:=by rw[U1 (by decide) (by simp;lia)];rfl
@[simp] theorem pj(n lo hi:Int):ZK [.int n,.int lo,.int hi]=b3 (.bl (decide (lo<=n)&&decide (n<=hi)),[]):=by unfold ZK;rw[cA];unfold QF;simp[b7];by_cases h:lo<=n<;>simp[h]
def nB{x:String}(h:x∈["over","plus","minus","times","least","most","less"]):ZN [.str x]=b3 (.tup [.str "row",.str "row"],[]):=by simp only[Ar,Br,or_false]at h;rcases h with rfl|rfl|rfl|rfl|rfl|rfl|rfl<;>kernel_rfl
@[simp] theorem qo:ZN [.str "number"]=b3 (.tup [.str "word"],[]):=by kernel_rfl
@[simp] theorem um:ZN [.str "pick"]=b3 (.tup [.str "row",.str "row",.str "row"],[]):=by kernel_rfl
@[simp] theorem rg:ZN [.str "load"]=b3 (.tup [.str "place"],[]):=by kernel_rfl
@[simp] theorem uA:ZN [.str "take"]=b3 (.tup [.str "place",.str "row",.str "row"],[]):=by kernel_rfl
@[simp] theorem oO:ZN [.str "store"]=b3 (.tup [.str "place",.str "row"],[]):=by kernel_rfl
@[simp] theorem oW:ZN [.str "put"]=b3 (.tup [.str "place",.str "row",.str "row"],[]):=by kernel_rfl
def Ab(able:List Bool)(a:Int):Prop:=0<=a/\able[a.toNat]?=b3 ba
def Ux{able:List Bool}{a:Int}(h:Ab able a):V6 [.int a,.lst (able.map .bl)]=b3 (.bl ba,[]):=by
 have c:=(Ai.mp h.2).1;have b:=h.1;have h1:a<=(able.length:Int)-1:=by lia
 have h2:UR (able.map cT.bl) a=b3 (.bl ba):=by rw[U1 b (by simp;lia)];simp[h.2]
 unfold V6;rw[cA];unfold QK;simp[b7,b,h1,h2]
def YQ{able:List Bool}{a:Int}(h:Ab able a):RW [.str "row",.int a,.lst (able.map .bl)]=b3 (.bl ba,[]):=by unfold RW;rw[cA];unfold LK;simp[b7,Ux h]
def kG{d:cT}{a:Int}(h:0<=a)(h':a<=999):RW [.str "word",.int a,d]=b3 (.bl ba,[]):=by unfold RW;rw[cA];unfold LK;simp[b7,Z7,h,h']
def T8{d:cT}{a:Int}(h:0<=a)(h':a<=63):RW [.str "place",.int a,d]=b3 (.bl ba,[]):=by unfold RW;rw[cA];unfold LK;simp[b7,O8,h,h']
@[simp] theorem nY:N6 []=b3 []:=(rfl)
@[simp] theorem kM{b:Bool}{ds:List cT}:N6 (.bl b::ds)=(N6 ds).map λks=>b::ks:=(rfl)
@[simp] theorem pD{g:List Bool->Bool}{ds:List cT}:BM g (.lst ds)=(N6 ds).map λks=>.bl (g ks):=(rfl)
@[simp] theorem rA{ds:List cT}:RB ds []=[]:=by cases ds<;>rfl
@[simp] theorem u6{d e:cT}{ds es:List cT}:RB (d::ds) (e::es)=.tup [d,e]::RB ds es:=(rfl)
def FH{able:List Bool}{row:cT}(h:TR (Ab able) row):RX [row,.lst (able.map .bl)]=b3 (.bl ba,[]):=by
 unfold RX;rw[cA];unfold LL;cases h with
 |number a b=>simp[b7,Z8,kG a b]
 |two e a b=>simp[b7,Z8,nB e,YQ a,YQ b]
 |pick a b c=>simp[b7,Z8,YQ a,YQ b,YQ c]
 |load a b=>simp[b7,Z8,T8 a b]
 |take a b c d=>simp[b7,Z8,T8 a b,YQ c,YQ d]
 |store a b c=>simp[b7,Z8,T8 a b,YQ c]
 |put a b c d=>simp[b7,Z8,T8 a b,YQ c,YQ d]
theorem O9(a:Nat)(fe:VF)(δ:Ev)(f:cT->cT)(b:δ.length=a):∀(ds acc:List cT),(∀d∈ds,fe (δ++[Sl.va d])=b3 (f d,δ++[Sl.va d]))->acc.length+ds.length<16777216->ZJ a 1 (gN a) U2 fe ds acc δ=b3 (acc++ds.map f,δ)
 |[],acc,_,_=>by simp
 |d::ds,acc,h,hl=>by
  have i:(δ++[Sl.no]).set a (.va d)=δ++[Sl.va d]:=by rw[Lz _ _ (by lia)];simp[b]
  have k:(δ++[Sl.va d]).take a=δ:=by rw[Gd (by lia),Cz (by lia)]
  have j:acc.length<16777216:=by simp at hl;lia
  have c:=O9 a fe δ f b ds (acc++[f d]) (λe g=>h e (At _ g)) (by simp at hl⊢;lia);simp only[AX,Xa,LI,i,Xg,Vr,Wz,h d Bj,Wr,if_pos j,k,c];simp
theorem EU{α:Type}:∀ds:List α,N6 (ds.map λ_=>.bl ba)=b3 (ds.map λ_=>ba)
 |[]=>rfl
 |d::ds=>by simp[EU ds]
@[simp] theorem rM{α β:Type}(f:α->β)(ds:List α):N6 (ds.map ((λ_=>cT.bl ba)∘f))=b3 (ds.map λ_=>ba):=EU ds
def Wd(w:Int):Prop:=0<=w/\w<=999
def eM(a b:Int):P1 [a,b]=if a<=b then[a,b]else[b,a]:=by
 refine(F8 ?_ ?_).symm
 ·split
  ·exact List.Perm.refl _
  ·exact List.Perm.swap _ _ _
 ·split
  ·simp;lia
  ·simp;lia
@[simp] theorem pV{a b:Int}:DR (.lst [.int a,.int b])=b3 (.lst (if a<=b then[.int a,.int b]else[.int b,.int a])):=by show b3 (cT.lst ((P1 [a,b]).map cT.int))=_;rw[eM];split<;>rfl
def mx{a b:Int}(e:Wd a)(d:Wd b):0<=a*b/\a*b<=998001:=by obtain⟨a0,g⟩:=e;obtain⟨c,f⟩:=d;exact⟨Int.mul_nonneg a0 c,Int.le_trans (Int.mul_le_mul g f c (by decide)) (by decide)⟩
def m9{a b:Int}(c:0<=a)(d:0<b):XS b (a+1) b=a/b:=by
 unfold XS;split
 ·have e : a = (a-b) + 1 * b := by lia
  have:=Int.add_mul_ediv_right (a-b) 1 (show b≠0 by lia)
  rw[<-e]at this;rw[this,show a+1-b-1=a-b by lia]
 ·rw[Int.ediv_eq_zero_of_lt c (by lia)]
def lE{x:String}(f:x∈["over","plus","minus","times","least","most","less"]){a b:Int}(j:Wd a)(i:Wd b):∃r,YI [.str x,.lst [.int a,.int b]]=b3 (r,[])/\U0 [.str x,.lst [.int a,.int b]]=b3 (r,[])/\((r=.non/\x= "over")∨∃w,r=.int w/\Wd w):=by
 have ab:=mx j i;obtain⟨a0,n⟩:=j;obtain⟨m,l⟩:=i;have hc:G0 a b=ba:=by simp[G0];lia
 have c: -18446744073709551616<a/\a<18446744073709551616∨ -18446744073709551616<b/\b<18446744073709551616:=by lia
 unfold YI U0;rw[cA,cA];unfold UA LJ;simp only[Ar,Br,or_false]at f;rcases f with rfl|rfl|rfl|rfl|rfl|rfl|rfl
 ·by_cases h:b=0
  ·subst h
   have e:RZ [.int a,.int 0]=b3 (.non,[]):=by unfold RZ;rw[cA];unfold LN;simp[b7]
   exact⟨.non,by simp[b7],by simp[b7,V9,bJ,Y2,WK,e,cT.hard],.inl ⟨rfl,rfl⟩⟩
  ·have d : 0 < b := by lia
   have g:b<1073741824:=by lia
   have q0:0<=a/b:=Lv a0 (by lia);have q1:a/b<=a:=Int.ediv_le_self _ a0;have k:a/b<9223372036854775808:=by lia
   have e:RZ [.int a,.int b]=b3 (.int (a/b),[]):=by unfold RZ;rw[cA];unfold LN;simp[b7,h,KO,d,g]
   exact⟨.int (a/b),by simp[b7,h,m9 a0 d,d,g,k],by simp[b7,V9,bJ,Y2,WK,e,cT.hard],.inr ⟨_,rfl,q0,by lia⟩⟩
 ·have e:GS [.int a,.int b]=b3 (.int ((a+b) % 1000),[]):=by unfold GS;rw[cA];unfold DD;simp[b7,Z7]
  refine⟨.int ((a+b) % 1000),?_,by simp[b7,V9,bJ,Y2,WK,e,cT.hard],.inr ⟨_,rfl,by lia,by lia⟩⟩;have:a+b-(a+b)/1000*1000=(a+b) % 1000:=by lia
  simp[b7,bJ,Y2,c,KO,G0,this]
 ·have e:MX [.int a,.int b]=b3 (.int ((a-b) % 1000),[]):=by unfold MX;rw[cA];unfold HH;simp[b7,Z7]
  refine⟨.int ((a-b) % 1000),?_,by simp[b7,V9,bJ,Y2,WK,e,cT.hard],.inr ⟨_,rfl,by lia,by lia⟩⟩;have:a+1000-b-(a+1000-b)/1000*1000=(a-b) % 1000:=by lia
  simp[b7,bJ,Y2,c,KO,G0,this]
 ·have e:MY [.int a,.int b]=b3 (.int (a*b % 1000),[]):=by unfold MY;rw[cA];unfold HI;simp[b7,Z7,hc]
  refine⟨.int (a*b % 1000),?_,by simp[b7,V9,bJ,Y2,WK,e,cT.hard],.inr ⟨_,rfl,by lia,by lia⟩⟩
  have:a*b-a*b/1000*1000=a*b % 1000:=by generalize a*b=z;lia
  simp[b7,bJ,Y2,c,KO,G0,this]
 ·have e:MW [.int a,.int b]=b3 (.int (if a<=b then a else b),[]):=by
   unfold MW;rw[cA];unfold HG;by_cases h:a<=b
   ·have h' : ¬ b < a := by lia
    simp[b7,h,h']
   ·have h' : b < a := by lia
    simp[b7,h,h']
  refine⟨.int (if a<=b then a else b),?_,by simp[b7,V9,bJ,Y2,WK,e,cT.hard],.inr ⟨_,rfl,by split<;>lia,by split<;>lia⟩⟩;by_cases h:a<=b<;>simp[b7,h]
 ·have e:GQ [.int a,.int b]=b3 (.int (if a<=b then b else a),[]):=by
   unfold GQ;rw[cA];unfold DB;by_cases h:a<b
   ·have h' : a <= b := by lia
    simp[b7,h,h']
   ·by_cases h2:a=b
    ·subst h2
     simp[b7]
    ·have h' : ¬ a <= b := by lia
     simp[b7,h,h']
  refine⟨.int (if a<=b then b else a),?_,by simp[b7,V9,bJ,Y2,WK,e,cT.hard],.inr ⟨_,rfl,by split<;>lia,by split<;>lia⟩⟩;by_cases h:a<=b<;>simp[b7,h]
 ·have e:GO [.int a,.int b]=b3 (.int (if a<b then 1 else 0),[]):=by unfold GO;rw[cA];unfold DA;by_cases h:a<b<;>simp[b7,h]
  refine⟨.int (if a<b then 1 else 0),?_,by simp[b7,V9,bJ,Y2,WK,e,cT.hard],.inr ⟨_,rfl,by split<;>lia,by split<;>lia⟩⟩;by_cases h:a<b<;>simp[b7,h]
def fQ(k:Nat):(TQ 0 k).length=k:=by simp[TQ]
def Yv{cs:List Int}{sure:Int}(b:∀c∈cs,Wd c)(h1:sure<=cs.length)(h2:cs.length<=64):TY [.lst (cs.map .int),.int sure]=b3 (.bl ba,[]):=by
 have e:=O9 0 (cE 3 [] ZK (aE (fV 0) (aE (fC (.int 0)) (aE (fC Z7) bZ)))) [] (λ_=>.bl ba) rfl (cs.map .int) [] (λx d=>by
  obtain⟨w,a,rfl⟩:=Ek.mp d;have:=b w a
  simp[Z7,this.1,this.2]) (by simp;lia)
 have f:(cs.length:Int)<=64:=by lia
 unfold TY;rw[cA];unfold QE;simp only[Cv]at e;simp[b7,O7,h1,f,Z8,e]
def jN(ns:List Int)(n:Nat)(sure:Int)(hl:ns.length<=63)(r:n<10000)(s:0<=sure)(h1:sure<=64):∃(cs:List Int) (n':Nat),(∀c∈cs,Wd c)/\sure<=cs.length/\cs.length<=64/\n'<=n+67/\VJ [T4 ns,V7 n,.int sure]=b3 (.lst (cs.map .int),[V7 n']):=by
 have d0:=YL ns n 9 hl (by lia) (by decide);have k0:=QV ns n (b:=9) (by decide);obtain⟨y,f,o⟩:=UH ns (n+1) [.int sure,.int (if sure+JL ns n 9<64 then sure+JL ns n 9 else 64),.int 64] hl (by lia) (by simp);obtain⟨m,rfl,m0,m1⟩:∃m:Int,y=.int m/\sure<=m/\m<=64:=by
  simp only[Ar,Br,or_false]at f;rcases f with h|h|h
  ·exact⟨_,h,by lia,by lia⟩
  ·exact⟨_,h,by split<;>lia,by split<;>lia⟩
  ·exact⟨_,h,by lia,by lia⟩
 obtain⟨z,hz,l⟩:=UH ns (n+2) [.int 2,.int 4,.int 1000] hl (by lia) (by simp);obtain⟨b,rfl,g,t⟩:∃b:Int,z=.int b/\0<b/\b<=1000:=by simp only[Ar,Br,or_false]at hz;rcases hz with h|h|h<;>exact⟨_,h,by lia,by lia⟩
 have a:=fQ m.toNat;obtain⟨ws,j,i,e⟩:=JH ns b hl g (cE 3 [1] bF (aE (fV 0) (aO 1 (aE (fV 2) bZ)))) .no [.va (.int b)] 3 rfl (λq d p=>by simp[YL ns q b hl (by lia) g]) (TQ 0 m.toNat) (n+3) [] (by rw[a];lia) (by rw[a];simp;lia);simp only[Cv,a,Dt]at e;rw[a]at j;have k:(-4611686018427387904:Int)<=m/\m<4611686018427387904:=by lia
 refine⟨ws,n+3+m.toNat,λc hc=>?_,by lia,by lia,by lia,?_⟩
 ·have:=i c hc
  exact⟨by lia,by lia⟩
 ·unfold VJ
  rw[cA];unfold SH;simp[b7,d0,o,l,k,Z8,e]
theorem BY:∀(ks:List aQ) (ws:List cT) (k:aQ) (d:cT),ks.length=ws.length->k∉ks->YT ks ws k d=(ks++[k],ws++[d])
 |[],[],k,d,_,_=>by simp[YT]
 |k'::ks,w::ws,k,d,hl,a=>by have h1:¬k'=k:=λe=>a (by rw[e];exact Bj);have b:=BY ks ws k d (by simpa using hl) λh=>a (At _ h);simp[YT,h1,b]
def EI{x:String}(b:x∈["over","plus","minus","times","least","most","less"]){y:String}(a:(["over","plus","minus","times","least","most","less"].contains y)=bb):(¬x=y)/\¬y=x:=by
 have h:¬x=y:=λe=>by subst e;rw[List.contains_iff_mem.mpr b]at a;cases a
 exact⟨h,λe=>h e.symm⟩
noncomputable abbrev D7:List String:=["over","plus","minus","times","least","most","less"]
inductive Rw where
 |num (n:Int)|two (x:String) (a b:Int)|pick (c a b:Int)|load (p:Int)|take (p c a:Int)|store (p a:Int)|put (p a c:Int)
def Rw.dat:Rw->cT
 |.num n=>.tup [.str "number",.int n]
 |.two x a b=>.tup [.str x,.int a,.int b]
 |.pick c a b=>.tup [.str "pick",.int c,.int a,.int b]
 |.load p=>.tup [.str "load",.int p]
 |.take p c a=>.tup [.str "take",.int p,.int c,.int a]
 |.store p a=>.tup [.str "store",.int p,.int a]
 |.put p a c=>.tup [.str "put",.int p,.int a,.int c]
def Rw.nms:Rw->List Int
 |.num _=>[]
 |.two _ a b=>[a,b]
 |.pick c a b=>[c,a,b]
 |.load _=>[]
 |.take _ c a=>[c,a]
 |.store _ a=>[a]
 |.put _ a c=>[a,c]
def Rw.hd:Rw->String
 |.num _=> "number"
 |.two x _ _=>x
 |.pick _ _ _=> "pick"
 |.load _=> "load"
 |.take _ _ _=> "take"
 |.store _ _=> "store"
 |.put _ _ _=> "put"
def Rw.mk:Rw->Bool
 |.store _ _=>bb
 |.put _ _ _=>bb
 |_=>ba
def Rw.ren(f:Int->Int):Rw->Rw
 |.num n=>.num n
 |.two x a b=>.two x (f a) (f b)
 |.pick c a b=>.pick (f c) (f a) (f b)
 |.load p=>.load p
 |.take p c a=>.take p (f c) (f a)
 |.store p a=>.store p (f a)
 |.put p a c=>.put p (f a) (f c)
abbrev Pl(p:Int):Prop:=0<=p/\p<=63
def Rw.Ok(M:Int->Prop):Rw->Prop
 |.num n=>Wd n
 |.two x a b=>x∈D7/\M a/\M b
 |.pick c a b=>M c/\M a/\M b
 |.load p=>Pl p
 |.take p c a=>Pl p/\M c/\M a
 |.store p a=>Pl p/\M a
 |.put p a c=>Pl p/\M a/\M c
section
variable{M M':Int->Prop}{r:Rw}
def Rw.Ok.imp(h:r.Ok M)(f:∀a,M a->M' a):r.Ok M':=by
 cases r with
 |num=>exact h
 |two=>exact⟨h.1,f _ h.2.1,f _ h.2.2⟩
 |pick=>exact⟨f _ h.1,f _ h.2.1,f _ h.2.2⟩
 |load=>exact h
 |take=>exact⟨h.1,f _ h.2.1,f _ h.2.2⟩
 |store=>exact⟨h.1,f _ h.2⟩
 |put=>exact⟨h.1,f _ h.2.1,f _ h.2.2⟩
def Rw.Ok.ren{f:Int->Int}(h:r.Ok M)(k:∀a,M a->M' (f a)):(r.ren f).Ok M':=by
 cases r with
 |num=>exact h
 |two=>exact⟨h.1,k _ h.2.1,k _ h.2.2⟩
 |pick=>exact⟨k _ h.1,k _ h.2.1,k _ h.2.2⟩
 |load=>exact h
 |take=>exact⟨h.1,k _ h.2.1,k _ h.2.2⟩
 |store=>exact⟨h.1,k _ h.2⟩
 |put=>exact⟨h.1,k _ h.2.1,k _ h.2.2⟩
def Rw.Ok.row(h:r.Ok M):TR M r.dat:=by
 cases r with
 |num=>exact .number h.1 h.2
 |two=>exact .two h.1 h.2.1 h.2.2
 |pick=>exact .pick h.1 h.2.1 h.2.2
 |load=>exact .load h.1 h.2
 |take=>exact .take h.1.1 h.1.2 h.2.1 h.2.2
 |store=>exact .store h.1.1 h.1.2 h.2
 |put=>exact .put h.1.1 h.1.2 h.2.1 h.2.2
def Rw.Ok.nm(h:r.Ok M):∀a∈r.nms,M a:=by
 cases r with
 |num=>exact λ_ h=>nomatch h
 |two=>
  intro a b;simp only[Rw.nms,Ar,Br,or_false]at b;rcases b with rfl|rfl
  ·exact h.2.1
  ·exact h.2.2
 |pick=>
  intro a b;simp only[Rw.nms,Ar,Br,or_false]at b;rcases b with rfl|rfl|rfl
  ·exact h.1
  ·exact h.2.1
  ·exact h.2.2
 |load=>exact λ_ h=>nomatch h
 |take=>
  intro a b;simp only[Rw.nms,Ar,Br,or_false]at b;rcases b with rfl|rfl
  ·exact h.2.1
  ·exact h.2.2
 |store=>
  intro a b;simp only[Rw.nms,Ar,Br,or_false]at b;rcases b with rfl
  ·exact h.2
 |put=>
  intro a b;simp only[Rw.nms,Ar,Br,or_false]at b;rcases b with rfl|rfl
  ·exact h.2.1
  ·exact h.2.2
def Rw.nl:r.nms.length<=3:=by cases r<;>simp[Rw.nms]
@[simp] theorem Rw.ix0:bV r.dat (.int 0)=b3 (.str (Bq r.hd)):=by cases r<;>rfl
@[simp] theorem Rw.ren_mk{f:Int->Int}:(r.ren f).mk=r.mk:=by cases r<;>rfl
@[simp] theorem Rw.dat_hard:r.dat.hard=ba:=by cases r<;>rfl
def d7{x:String}(h:x∈D7):x= "over" ∨x= "plus" ∨x= "minus" ∨x= "times" ∨x= "least" ∨x= "most" ∨x= "less":=by simpa using h
def Rw.Ok.noif(h:r.Ok M):¬r.hd= "if":=by
 cases r with
 |two=>obtain⟨h,_⟩:=h;rcases d7 h with rfl|rfl|rfl|rfl|rfl|rfl|rfl<;>simp[Rw.hd]
 |_=>simp[Rw.hd]
def Rw.Ok.names(h:r.Ok M):T2 [r.dat]=b3 (.lst (r.nms.map .int),[])/\RY [r.dat]=b3 (.lst (r.nms.map .int),[]):=by
 cases r with
 |two=>obtain⟨h,_⟩:=h;rcases d7 h with rfl|rfl|rfl|rfl|rfl|rfl|rfl<;>exact⟨by kernel_rfl,by kernel_rfl⟩
 |_=>exact⟨by kernel_rfl,by kernel_rfl⟩
def Rw.Ok.made(h:r.Ok M):WR [r.dat]=b3 (.bl r.mk,[]):=by
 cases r with
 |two=>obtain⟨h,_⟩:=h;rcases d7 h with rfl|rfl|rfl|rfl|rfl|rfl|rfl<;>kernel_rfl
 |_=>kernel_rfl
def Rw.Ok.isif(h:r.Ok M):MV [r.dat]=b3 (.bl bb,[]):=by
 cases r with
 |two=>obtain⟨h,_⟩:=h;rcases d7 h with rfl|rfl|rfl|rfl|rfl|rfl|rfl<;>kernel_rfl
 |_=>kernel_rfl
end
noncomputable def dv(x:String)(u v:Int):Option Int:=match U0 [.str x,.lst [.int u,.int v]]with
 |some (.int w,_)=>b3 w
 |_=>b5
noncomputable def oD:Option Int->cT
 |some w=>.int w
 |none=>.non
def M3{x:String}(b:x∈D7){u v:Int}(d:Wd u)(c:Wd v):U0 [.str x,.lst [.int u,.int v]]=b3 (oD (dv x u v),[])/\YI [.str x,.lst [.int u,.int v]]=b3 (oD (dv x u v),[])/\(∀w,dv x u v=b3 w->Wd w)/\(x≠ "over" ->∃w,dv x u v=b3 w):=by
 obtain⟨r,a,f,e⟩:=lE b d c;unfold dv;rw[f];rcases e with⟨rfl,h⟩|⟨w,rfl,h⟩
 ·exact⟨rfl,a,(λ_ h=>nomatch h),λz=>absurd h z⟩
 ·exact⟨rfl,a,(λ_ h'=>by cases h';exact h),λ_=>⟨w,rfl⟩⟩
def mf{u:Int}(b:Wd u):∃w,dv "over" u 1=b3 w:=by
 have e:RZ [.int u,.int 1]=b3 (.int (u/1),[]):=by unfold RZ;rw[cA];unfold LN;simp[b7,KO]
 have a:U0 [.str "over",.lst [.int u,.int 1]]=b3 (.int (u/1),[]):=by unfold U0;rw[cA];unfold LJ;simp[b7,V9,bJ,Y2,WK,e,cT.hard]
 exact⟨u/1,by unfold dv;rw[a]⟩
inductive QT where
 |ok (m:cT) (cs:List Int)|bad (s:String)
noncomputable def Y6(w:Int->Int)(cs:List Int):Rw->QT
 |.num n=>.ok (.int n) cs
 |.two x a b=>match dv x (w a) (w b)with
  |some v=>.ok (.int v) cs
  |none=>.bad "nought"
 |.pick c a b=>.ok (.int (if w c=0 then w b else w a)) cs
 |.load p=>if p<cs.length then .ok (.int (cs.getD p.toNat 0)) cs else .bad "beyond"
 |.take p c a=>if w c=0 then .ok (.int (w a)) cs else if p<cs.length then .ok (.int (cs.getD p.toNat 0)) cs else .bad "beyond"
 |.store p a=>if p<cs.length then .ok .non (cs.set p.toNat (w a))else .bad "beyond"
 |.put p a c=>if w c=0 then .ok .non cs else if p<cs.length then .ok .non (cs.set p.toNat (w a))else .bad "beyond"
def QT.out(cs:List Int):QT->cT×List cT
 |.ok m cs'=>(.tup [m,.non],[.lst (cs'.map .int)])
 |.bad s=>(.tup [.non,.str s],[.lst (cs.map .int)])
def G9{cs:List Int}{p:Int}(a:0<=p)(h1:p<cs.length):UR (cs.map cT.int) p=b3 (.int (cs.getD p.toNat 0)):=by
 have hi:p.toNat<cs.length:=by lia
 rw[U1 a (by simpa using h1),Ef,Fy hi];simp[hi]
def Up{cs:List Int}{p:Int}(h1:p<cs.length)(b:0<=p)(a:∀c∈cs,Wd c):Wd (cs.getD p.toNat 0):=by
 have hi:p.toNat<cs.length:=by lia
 simp[hi];exact a _ (Pu hi)
def G8{cs:List Int}{p:Int}(a:0<=p)(h1:p<cs.length):KQ cs.length p=b3 p.toNat:=by unfold KQ;rw[if_pos a,if_pos h1]
@[simp] theorem oP{p:Int}{t:List cT}:aS [.tup (.str "load":: .int p::t)]=b3 (.int p,[]):=by unfold aS;rw[cA];unfold YW;simp[b7,XM,ZY]
@[simp] theorem u5{p:Int}{t:List cT}:aS [.tup (.str "take":: .int p::t)]=b3 (.int p,[]):=by unfold aS;rw[cA];unfold YW;simp[b7,XM,ZY]
@[simp] theorem oa{p:Int}{t:List cT}:aS [.tup (.str "store":: .int p::t)]=b3 (.int p,[]):=by unfold aS;rw[cA];unfold YW;simp[b7,XM,ZY]
@[simp] theorem q8{p:Int}{t:List cT}:aS [.tup (.str "put":: .int p::t)]=b3 (.int p,[]):=by unfold aS;rw[cA];unfold YW;simp[b7,XM,ZY]
@[simp] theorem pS{t:List cT}:aS [.tup (.str "pick"::t)]=b3 (.non,[]):=by unfold aS;rw[cA];unfold YW;simp[b7,XM,ZY]
def Zo{x:String}(a:x∈D7){t:List cT}:aS [.tup (.str x::t)]=b3 (.non,[]):=by unfold aS;rw[cA];unfold YW;have e:=(EI a (y:= "load") (by decide)).2;have d:=(EI a (y:= "take") (by decide)).2;have c:=(EI a (y:= "store") (by decide)).2;have b:=(EI a (y:= "put") (by decide)).2;simp[b7,XM,ZY,e,d,c,b]
@[simp] theorem ue{d:cT}:YE [.str "load",d]=b3 (.bl ba,[]):=by kernel_rfl
@[simp] theorem qC{d:cT}:YE [.str "store",d]=b3 (.bl ba,[]):=by kernel_rfl
@[simp] theorem oZ{a:Int}{ds:List cT}:YE [.str "take",.lst (.int a::ds)]=b3 (.bl (!decide (a=0)),[]):=by unfold YE;rw[cA];unfold RJ;simp[b7]
@[simp] theorem oH{a b:Int}{ds:List cT}:YE [.str "put",.lst (.int a:: .int b::ds)]=b3 (.bl (!decide (b=0)),[]):=by unfold YE;rw[cA];unfold RJ;simp[b7]
def XB{x:String}{p:Int}{t ws cs:List cT}{r:cT×List cT}{c:cT}(a:x= "load" ∨x= "take" ∨x= "store" ∨x= "put")(h:aZ [.str x,.int p,.lst ws,.lst cs]=b3 (r.1,[c])):XY [.tup (.str x:: .int p::t),.lst ws,.lst cs,.int 0]=b3 (r.1,[c]):=by
 have b:aS [.tup (.str x:: .int p::t)]=b3 (.int p,[]):=by rcases a with rfl|rfl|rfl|rfl<;>simp
 have d:¬x= "number":=by rcases a with rfl|rfl|rfl|rfl<;>decide
 unfold XY;rw[cA];unfold SG;simp[b7,h,b,d]
def lR{u v z:Int}:U0 [.str "pick",.lst [.int u,.int v,.int z]]=b3 (.int (if u=0 then z else v),[]):=by
 have e:GR [.int u,.int v,.int z]=b3 (.int (if u=0 then z else v),[]):=by unfold GR;rw[cA];unfold DC;by_cases h:u=0<;>simp[b7,h]
 unfold U0;rw[cA];unfold LJ;simp[b7,e,cT.hard]
def fM{u v z:Int}:YI [.str "pick",.lst [.int u,.int v,.int z]]=b3 (.int (if u=0 then z else v),[]):=by unfold YI;rw[cA];unfold UA;by_cases h:u=0<;>simp[b7,h]
section
variable{M:Int->Prop}{r:Rw}{w:Int->Int}{cs:List Int}
def eX(h:r.Ok M)(hw:∀a∈r.nms,Wd (w a)):XY [r.dat,.lst ((r.nms.map w).map .int),.lst (cs.map .int),.int 0]=b3 ((Y6 w cs r).out cs):=by
 cases r with
 |num n=>exact(by kernel_rfl:XY [.tup [.str "number",.int n],.lst [],.lst (cs.map .int),.int 0]=b3 (.tup [.int n,.non],[.lst (cs.map .int)]))
 |two x a b=>
  obtain⟨j,_⟩:=h;obtain⟨e,_,_⟩:=M3 j (hw a (by simp[Rw.nms])) (hw b (by simp[Rw.nms]));have l:=Zo j (t:=[.int a,.int b]);have k:=(EI j (y:= "number") (by decide)).1;unfold XY;rw[cA];unfold SG;simp only[Rw.dat,Rw.nms,Y6,Be,Cf];cases hd:dv x (w a) (w b)with
  |none=>rw[hd]at e;simp[b7,l,e,oD,QT.out,k]
  |some v=>rw[hd]at e;simp[b7,l,e,oD,QT.out,k]
 |pick c a b=>
  unfold XY;rw[cA];unfold SG;simp[Rw.dat,Rw.nms,Y6,b7,lR,QT.out]
 |load p=>
  have i:=h.1;simp only[Rw.dat,Rw.nms,Y6,Cf];by_cases f:p<cs.length
  ·have d : ¬ (cs.length : Int) <= p := by lia
   rw[if_pos f];refine XB (r:=(_,[])) (by simp) ?_;unfold aZ;rw[cA];unfold aT;simp[b7,d,G9 i f,ZY]
  ·have d : (cs.length : Int) <= p := by lia
   rw[if_neg f];refine XB (r:=(_,[])) (by simp) ?_;unfold aZ;rw[cA];unfold aT;simp[b7,d]
 |take p c a=>
  have i:=h.1.1;simp only[Rw.dat,Rw.nms,Y6,Be,Cf];by_cases g:w c=0
  ·rw[if_pos g]
   refine XB (r:=(_,[])) (by simp) ?_;unfold aZ;rw[cA];unfold aT;simp[b7,g]
  ·rw[if_neg g]
   by_cases f:p<cs.length
   ·have d : ¬ (cs.length : Int) <= p := by lia
    rw[if_pos f];refine XB (r:=(_,[])) (by simp) ?_;unfold aZ;rw[cA];unfold aT;simp[b7,g,d,G9 i f,ZY]
   ·have d : (cs.length : Int) <= p := by lia
    rw[if_neg f];refine XB (r:=(_,[])) (by simp) ?_;unfold aZ;rw[cA];unfold aT;simp[b7,g,d]
 |store p a=>
  have i:=h.1.1;simp only[Rw.dat,Rw.nms,Y6,Be,Cf];by_cases f:p<cs.length
  ·have d : ¬ (cs.length : Int) <= p := by lia
   rw[if_pos f];refine XB (r:=(_,[])) (by simp) ?_;unfold aZ;rw[cA];unfold aT;simp[b7,d,G8 i f,Ma,ZY]
  ·have d : (cs.length : Int) <= p := by lia
   rw[if_neg f];refine XB (r:=(_,[])) (by simp) ?_;unfold aZ;rw[cA];unfold aT;simp[b7,d]
 |put p a c=>
  have i:=h.1.1;simp only[Rw.dat,Rw.nms,Y6,Be,Cf];by_cases g:w c=0
  ·rw[if_pos g]
   refine XB (r:=(_,[])) (by simp) ?_;unfold aZ;rw[cA];unfold aT;simp[b7,g]
  ·rw[if_neg g]
   by_cases f:p<cs.length
   ·have d : ¬ (cs.length : Int) <= p := by lia
    rw[if_pos f];refine XB (r:=(_,[])) (by simp) ?_;unfold aZ;rw[cA];unfold aT;simp[b7,g,d,G8 i f,Ma,ZY]
   ·have d : (cs.length : Int) <= p := by lia
    rw[if_neg f];refine XB (r:=(_,[])) (by simp) ?_;unfold aZ;rw[cA];unfold aT;simp[b7,g,d]
def fG(h:r.Ok M)(q:¬r.hd= "number")(hw:∀a∈r.nms,Wd (w a)):T0 [r.dat,.int 0,.lst ((r.nms.map w).map .int),.lst (cs.map .int)]=b3 ((Y6 w cs r).out cs):=by
 unfold T0;rw[cA];unfold QI;cases r with
 |num n=>exact absurd rfl q
 |two x a b=>
  obtain⟨j,_⟩:=h;obtain⟨_,e,_⟩:=M3 j (hw a (by simp[Rw.nms])) (hw b (by simp[Rw.nms]));have o:=(EI j (y:= "load") (by decide)).2;have m:=(EI j (y:= "take") (by decide)).2;have l:=(EI j (y:= "store") (by decide)).2;have k:=(EI j (y:= "put") (by decide)).2;simp only[Rw.dat,Rw.nms,Y6,Be,Cf];cases hd:dv x (w a) (w b)with
  |none=>rw[hd]at e;simp[b7,e,oD,QT.out,o,m,l,k]
  |some v=>rw[hd]at e;simp[b7,e,oD,QT.out,o,m,l,k]
 |pick c a b=>simp[Rw.dat,Rw.nms,Y6,b7,fM,QT.out]
 |load p=>
  have i:=h.1;simp only[Rw.dat,Rw.nms,Y6,Cf];by_cases f:p<cs.length
  ·have d : ¬ (cs.length : Int) <= p := by lia
   simp[b7,f,d,G9 i f,QT.out]
  ·have d : (cs.length : Int) <= p := by lia
   simp[b7,f,d,QT.out]
 |take p c a=>
  have i:=h.1.1;simp only[Rw.dat,Rw.nms,Y6,Be,Cf];by_cases g:w c=0
  ·simp[b7,g,QT.out]
  ·by_cases f:p<cs.length
   ·have d : ¬ (cs.length : Int) <= p := by lia
    simp[b7,g,f,d,G9 i f,QT.out]
   ·have d : (cs.length : Int) <= p := by lia
    simp[b7,g,f,d,QT.out]
 |store p a=>
  have i:=h.1.1;simp only[Rw.dat,Rw.nms,Y6,Be,Cf];by_cases f:p<cs.length
  ·have d : ¬ (cs.length : Int) <= p := by lia
   simp[b7,f,d,G8 i f,Ma,QT.out]
  ·have d : (cs.length : Int) <= p := by lia
   simp[b7,f,d,QT.out]
 |put p a c=>
  have i:=h.1.1;simp only[Rw.dat,Rw.nms,Y6,Be,Cf];by_cases g:w c=0
  ·simp[b7,g,QT.out]
  ·by_cases f:p<cs.length
   ·have d : ¬ (cs.length : Int) <= p := by lia
    simp[b7,g,f,d,G8 i f,Ma,QT.out]
   ·have d : (cs.length : Int) <= p := by lia
    simp[b7,g,f,d,QT.out]
def Tz{p:Int}{u:Int}(a:∀c∈cs,Wd c)(b:Wd u):∀c∈cs.set p.toNat u,Wd c:=λc h=>by
 rcases Ka h with z|z
 ·exact a c z
 ·rw[z];exact b
def MP(h:r.Ok M)(hw:∀a∈r.nms,Wd (w a))(d:∀c∈cs,Wd c){m:cT}{cs':List Int}(e:Y6 w cs r=.ok m cs'):cs'.length=cs.length/\(∀c∈cs',Wd c)/\QR 0 m/\(r.mk=ba->∃x,Wd x/\m=.int x):=by
 cases r with
 |num n=>cases e;exact⟨rfl,d,aC,λ_=>⟨n,h,rfl⟩⟩
 |two x a b=>
  obtain⟨_,_,k,_⟩:=M3 h.1 (hw a (by simp[Rw.nms])) (hw b (by simp[Rw.nms]));simp only[Y6]at e;cases hd:dv x (w a) (w b)with
  |none=>rw[hd]at e;cases e
  |some v=>rw[hd]at e;cases e;exact⟨rfl,d,aC,λ_=>⟨v,k v hd,rfl⟩⟩
 |pick c a b=>
  cases e;refine⟨rfl,d,aC,λ_=>⟨_,?_,rfl⟩⟩;split
  ·exact hw b (by simp[Rw.nms])
  ·exact hw a (by simp[Rw.nms])
 |load p=>
  simp only[Y6]at e;split at e
  ·rename_i f;cases e;exact⟨rfl,d,aC,λ_=>⟨_,Up f h.1 d,rfl⟩⟩
  ·cases e
 |take p c a=>
  simp only[Y6]at e;split at e
  ·cases e;exact⟨rfl,d,aC,λ_=>⟨_,hw a (by simp[Rw.nms]),rfl⟩⟩
  ·split at e
   ·rename_i f;cases e;exact⟨rfl,d,aC,λ_=>⟨_,Up f h.1.1 d,rfl⟩⟩
   ·cases e
 |store p a=>
  simp only[Y6]at e;split at e
  ·cases e;exact⟨by simp,Tz d (hw a (by simp[Rw.nms])),PP,λz=>nomatch z⟩
  ·cases e
 |put p a c=>
  simp only[Y6]at e;split at e
  ·cases e;exact⟨rfl,d,PP,λz=>nomatch z⟩
  ·split at e
   ·cases e;exact⟨by simp,Tz d (hw a (by simp[Rw.nms])),PP,λz=>nomatch z⟩
   ·cases e
end
abbrev GP(a b:Nat):VG:=FC 2 (aN (gN a) (aN (gN b) WD))
def jV(i:Nat)(d:cT)(ds:List cT):TL i (d::ds)=.tup [.int i,d]::TL (i+1) ds:=rfl
def Ab.lt{ab:List Bool}{a:Int}(h:Ab ab a):a<ab.length:=by
 have:=(Ai.mp h.2).1
 have:=h.1
 lia
def Ab.app{ab b:List Bool}{a:Int}(h:Ab ab a):Ab (ab++b) a:=⟨h.1,by rw[Ah (Ai.mp h.2).1];exact h.2⟩
def Ab.inv{ab:List Bool}{b:Bool}{a:Int}(h:Ab (ab++[b]) a):Ab ab a∨(a=ab.length/\b=ba):=by
 have d:=h.1;have hl:=h.lt;rw[Ao,Cn]at hl;by_cases hi:a.toNat<ab.length
 ·exact .inl ⟨d,by have:=h.2;rwa[Ah hi]at this⟩
 ·have c : a.toNat = ab.length := by lia
  have e:=h.2;rw[c]at e;exact .inr ⟨by lia,by simpa using e⟩
def Ab.new{ab:List Bool}:Ab (ab++[ba]) ab.length:=⟨by lia,by simp⟩
def wv(b:List cT)(a:Int):Int:=match UR b a with
 |some (.int x)=>x
 |_=>0
def N3{ws es:List cT}{a:Int}(b:0<=a)(h1:a<ws.length):UR (ws++es) a=UR ws a:=by rw[U1 b (by simp;lia),U1 b h1,Ah (by lia)]
def ZO{ws es:List cT}{a:Int}(b:0<=a)(h1:a<ws.length):wv (ws++es) a=wv ws a:=by unfold wv;rw[N3 b h1]
def GX{ws es:List cT}{m:cT}{a:Int}(h:a=ws.length):UR (ws++m::es) a=b3 m:=by subst h;rw[U1 (by lia) (by simp;lia)];simp
def YZ{ws es:List cT}{x a:Int}(h:a=ws.length):wv (ws++ .int x::es) a=x:=by unfold wv;rw[GX h]
structure Ws(ab:List Bool)(ws:List cT):Prop where
 len:ws.length=ab.length
 wd:∀a,Ab ab a->∃x,Wd x/\UR ws a=b3 (.int x)
def Ws.nil:Ws [] []:=⟨rfl,λa h=>by have:=h.2;simp at this⟩
def Ws.word{ab:List Bool}{ws:List cT}{a:Int}(W:Ws ab ws)(h:Ab ab a):UR ws a=b3 (.int (wv ws a))/\Wd (wv ws a):=by obtain⟨x,b,e⟩:=W.wd a h;unfold wv;rw[e];exact⟨rfl,b⟩
def Ws.lt{ab:List Bool}{ws:List cT}{a:Int}(W:Ws ab ws)(h:Ab ab a):a<ws.length:=by have:=h.lt;rw[W.len];exact this
def Ws.snoc{ab:List Bool}{ws:List cT}{b:Bool}{m:cT}(W:Ws ab ws)(h:b=ba->∃x,Wd x/\m=.int x):Ws (ab++[b]) (ws++[m]):=by
 refine⟨by simp[W.len],λa d=>?_⟩;rcases d.inv with h1|⟨h1,h2⟩
 ·obtain⟨x,c,e⟩:=W.wd a h1
  exact⟨x,c,by rw[N3 h1.1 (W.lt h1)];exact e⟩
 ·obtain⟨x,c,rfl⟩:=h h2
  exact⟨x,c,GX (by rw[h1,W.len])⟩
structure KL where
 ws:List cT
 cs:List Int
 er:Option String
def KL.fd(o:KL):cT:=match o.er with
 |none=>.non
 |some s=>.tup [.int o.ws.length,.str s]
noncomputable def go:List Rw->List cT->List Int->KL
 |[],ws,cs=>⟨ws,cs,b5⟩
 |r::rs,ws,cs=>match Y6 (wv ws) cs r with
  |.ok m cs'=>go rs (ws++[m]) cs'
  |.bad s=>⟨ws,cs,b3 s⟩
section
variable{r:Rw}{rs qs:List Rw}{ws:List cT}{cs cs':List Int}{m:cT}{s:String}{ab:List Bool}
def JO(e:Y6 (wv ws) cs r=.ok m cs'):go (r::rs) ws cs=go rs (ws++[m]) cs':=by
 show(match Y6 (wv ws) cs r with
  |.ok m cs'=>go rs (ws++[m]) cs'
  |.bad s=>⟨ws,cs,b3 s⟩)=_
 rw[e]
def LQ(e:Y6 (wv ws) cs r=.bad s):go (r::rs) ws cs=⟨ws,cs,b3 s⟩:=by
 show(match Y6 (wv ws) cs r with
  |.ok m cs'=>go rs (ws++[m]) cs'
  |.bad s=>⟨ws,cs,b3 s⟩)=_
 rw[e]
def K9:List Bool->List Rw->Prop
 |_,[]=>True
 |ab,r::rs=>r.Ok (Ab ab)/\K9 (ab++[r.mk]) rs
theorem K9.app:∀{rs qs:List Rw}{ab:List Bool},K9 ab rs->K9 (ab++rs.map Rw.mk) qs->K9 ab (rs++qs)
 |[],_,_,_,h=>by simpa using h
 |r::rs,_,_,⟨h1,h2⟩,h=>⟨h1,K9.app h2 (by simpa using h)⟩
structure Kept(ab:List Bool)(rs:List Rw)(ws:List cT)(cs:List Int)(o:KL):Prop where
 len:o.cs.length=cs.length
 ok:∀c∈o.cs,Wd c
 oks:∀d∈o.ws,QR 0 d
 all:o.er=b5->Ws (ab++rs.map Rw.mk) o.ws
 ext:∃ex,o.ws=ws++ex/\ex.length<=rs.length
theorem kept:∀{rs:List Rw}{ab:List Bool}{ws:List cT}{cs:List Int},K9 ab rs->Ws ab ws->(∀c∈cs,Wd c)->(∀d∈ws,QR 0 d)->Kept ab rs ws cs (go rs ws cs)
 |[],ab,ws,cs,_,W,g,f=>⟨rfl,g,f,λ_=>by simpa[go]using W,[],by simp[go],by simp⟩
 | r :: rs,ab,ws,cs,⟨h1,h2⟩,W,g,f => by
  cases e:Y6 (wv ws) cs r with
  |bad s=>
   rw[LQ e];exact⟨rfl,g,f,(λz=>nomatch z),[],by simp,by simp⟩
  |ok m cs'=>
   rw[JO e];obtain⟨a,b,c,d⟩:=MP h1 (λa i=>(W.word (h1.nm a i)).2) g e;have k:=kept h2 (W.snoc d) b (λx h=>by
    rcases Ci.mp h with z|z
    ·exact f x z
    ·rw[Al.mp z];exact c)
   obtain⟨ex,l,j⟩:=k.ext;exact⟨k.len.trans a,k.ok,k.oks,λz=>by simpa using k.all z,m::ex,by rw[l];simp,by simpa using j⟩
theorem DE:∀{rs:List Rw}{ws:List cT}{cs:List Int},go (rs++qs) ws cs=if(go rs ws cs).er=b5 then go qs (go rs ws cs).ws (go rs ws cs).cs else go rs ws cs
 |[],ws,cs=>by simp[go]
 |r::rs,ws,cs=>by
  cases e:Y6 (wv ws) cs r with
  |bad s=>rw[Dt,LQ e,LQ e];simp
  |ok m cs'=>rw[Dt,JO e,JO e];exact DE
noncomputable def fW(b:List cT):cT->cT
 |.int a=>.int (wv b a)
 |_=>.non
def Xc(a:List cT)(as:List Int):(as.map cT.int).map (fW a)=(as.map (wv a)).map cT.int:=by simp[fW]
def MU{as:List Int}{d:cT}{ws:List cT}(c:as.length<=3)(h:∀a∈as,bV d (.int a)=b3 (.int (wv ws a))):ZJ 1 1 (gN 1) U2 (f2 bV (fO 0) (fV 1)) (as.map .int) [] [.ow d]=b3 ((as.map (wv ws)).map .int,[.ow d]):=by
 rw[O9 1 _ [.ow d] (fW ws) rfl _ [] (λe b=>?_) (by simp;lia),Xc]
 ·rfl
 ·obtain⟨a,f,rfl⟩:=Ek.mp b
  simp[h a f,fW]
def stB(e:cT)(cs:List cT)(ws:List cT)(a b c d:Sl):Ev:=
 [.va e,.ow (.lst cs),.ow (.lst ws),a,b,c,d]
def k6{e:cT}{cs ws:List cT}{a b c d:Sl}{i r:cT}:GP 3 4 (.tup [i,r]) (stB e cs ws a b c d)=b3 (stB e cs ws (.va i) (.va r) c d):=by simp[stB]
theorem jG(h:r.Ok (Ab ab))(W:Ws ab ws)(hl:ws.length<16777216)(b i:cT)(c d:Sl):VN (stB b (cs.map .int) ws (.va i) (.va r.dat) c d)=match Y6 (wv ws) cs r with
  |.ok m cs'=>b3 (.nx (stB b (cs'.map .int) (ws++[m]) (.va i) (.va r.dat) (.va m) (.va .non)))
  |.bad s=>b3 (.rt (.tup [.lst ws,.tup [i,.str s]]) (stB b (cs.map .int) ws (.va i) (.va r.dat) (.va .non) (.va (.str s)))):=by
 have g:=MU (d:=.lst ws) (ws:=ws) Rw.nl λa f=>by rw[nC];exact(W.word (h.nm a f)).1
 have p2:=eX (cs:=cs) h λa f=>(W.word (h.nm a f)).2;have j:=h.names.1;generalize (r.nms.map (wv ws)).map cT.int=zs at g p2;unfold VN;cases e:Y6 (wv ws) cs r with
 |ok m cs'=>rw[e]at p2;simp[stB,j,Z8,g,p2,QT.out,hl]
 |bad s=>rw[e]at p2;simp[stB,j,Z8,g,p2,QT.out]
theorem B7:∀{rs:List Rw}{ab:List Bool}{ws:List cT}{cs:List Int},K9 ab rs->Ws ab ws->(∀c∈cs,Wd c)->ws.length+rs.length<1000->∀f a b c d,∃i h g d',YC (GP 3 4) VN (TL ws.length (rs.map Rw.dat)) (stB f (cs.map .int) ws a b c d)=b3 (match(go rs ws cs).er with
  |none=>.nx (stB f ((go rs ws cs).cs.map .int) (go rs ws cs).ws i h g d')
  |some s=>.rt (.tup [.lst (go rs ws cs).ws,.tup [.int (go rs ws cs).ws.length,.str s]]) (stB f ((go rs ws cs).cs.map .int) (go rs ws cs).ws i h g d'))
 |[],ab,ws,cs,_,_,_,_,f,a,b,c,d=>⟨a,b,c,d,by simp[go,TL]⟩
 | r :: rs,ab,ws,cs,⟨h1,h2⟩,W,j,hk,f,a,b,c,d => by
  simp only[Cg]at hk;have st:=jG (cs:=cs) h1 W (by lia) f (.int ws.length) c d;rw[Be,jV,U4,k6,Q5,st];cases e:Y6 (wv ws) cs r with
  |bad s=>
   rw[LQ e];exact⟨_,_,_,_,rfl⟩
  |ok m cs'=>
   rw[JO e];obtain⟨_,k1,_,k2⟩:=MP h1 (λa l=>(W.word (h1.nm a l)).2) j e;obtain⟨i,h,g,d',k⟩:=B7 h2 (W.snoc k2) k1 (by simp;lia) f (.va (.int ws.length)) (.va r.dat) (.va m) (.va .non);rw[Ao,Cn]at k;exact⟨i,h,g,d',by rw[NU];exact k⟩
theorem LA(b a:cT)(sure:Int):∀{rs:List Rw}{ab:List Bool},K9 ab rs->ab.length+rs.length<1000->∀s:Sl,∃s',YC (gN 4) WT (rs.map Rw.dat) [.va b,.va (.int sure),.va a,.ow (.lst (ab.map .bl)),s]=b3 (.nx [.va b,.va (.int sure),.va a,.ow (.lst ((ab++rs.map Rw.mk).map .bl)),s'])
 |[],ab,_,_,s=>⟨s,by simp⟩
 |r::rs,ab,⟨h1,h2⟩,hk,s=>by
  simp only[Cg]at hk;obtain⟨s',d⟩:=LA b a sure h2 (by simp;lia) (.va r.dat);refine⟨s',?_⟩;have e:=FH h1.row;have em:=h1.made;have c:ab.length<16777216:=by lia
  rw[Be,U4,LI,Q5];have f:WT [.va b,.va (.int sure),.va a,.ow (.lst (ab.map .bl)),.va r.dat]=b3 (.nx [.va b,.va (.int sure),.va a,.ow (.lst ((ab++[r.mk]).map .bl)),.va r.dat]):=by unfold WT;simp[e,em,c,cT.hard]
  have s1:([.va b,.va (.int sure),.va a,.ow (.lst (ab.map .bl)),s]:Ev).set 4 (.va r.dat)=[.va b,.va (.int sure),.va a,.ow (.lst (ab.map .bl)),.va r.dat]:=rfl;rw[s1,f,NU,d];simp
def jb{sure:Int}(h:K9 [] rs)(g:0<=sure)(s1:sure<=64)(i:rs.length<=40)(a:∀c∈cs,Wd c)(k:sure<=cs.length)(j:cs.length<=64):AM [.tup [.int sure,.tup (rs.map Rw.dat)],.lst (cs.map .int)]=b3 (.tup [.lst ((go rs [] cs).cs.map .int),(go rs [] cs).fd],[]):=by
 obtain⟨s',f⟩:=LA (.tup [.int sure,.tup (rs.map Rw.dat)]) (.tup (rs.map Rw.dat)) sure h (by simp;lia) .no;simp only[Cf]at f;have d:¬(40:Int)<(rs.length:Int):=by lia
 have o:YH [.tup [.int sure,.tup (rs.map Rw.dat)]]=b3 (.bl ba,[]):=by unfold YH;rw[cA,T9.eq_1];simp[b7,W4,Z6,g,s1,d,f]
 have n:=Yv a k j;have l:VH [.tup [.int sure,.tup (rs.map Rw.dat)],.lst (cs.map .int)]=b3 (.non,[]):=by unfold VH;rw[cA];unfold SF;simp[b7,o,n]
 obtain⟨r,q,p,d',b⟩:=B7 h Ws.nil a (by simp;lia) (.tup (rs.map Rw.dat)) .no .no .no .no;have m:RD [.tup (rs.map Rw.dat),.lst (cs.map .int)]=b3 (.tup [.lst (go rs [] cs).ws,(go rs [] cs).fd],[.lst ((go rs [] cs).cs.map .int)]):=by
  unfold KL.fd;simp only[stB,Ja]at b;unfold RD;rw[cA,OE.eq_1];cases e:(go rs [] cs).er with
  |none=>rw[e]at b;simp[b7,b]
  |some s=>rw[e]at b;simp[b7,b]
 unfold AM;rw[cA];unfold Tf;simp[b7,l,m]
end
inductive Ts where
 |nil|row (r:Rw) (t:Ts)|ifs (c:Int) (a b t:Ts)
def Ts.dats:Ts->List cT
 |.nil=>[]
 |.row r t=>r.dat::t.dats
 |.ifs c a b t=>.tup [.str "if",.int c,.tup a.dats,.tup b.dats]::t.dats
def Ts.size:Ts->Nat
 |.nil=>0
 |.row _ t=>1+t.size
 |.ifs _ a b t=>1+(a.size+b.size)+t.size
def Ts.dep:Ts->Nat
 |.nil=>0
 |.row _ t=>t.dep
 |.ifs _ a b t=>max (1+max a.dep b.dep) t.dep
abbrev aJ(n:Nat):List Bool:=Aj n bb
def Ts.sgt:Ts->List Bool->List Bool
 |.nil,ab=>ab
 |.row r t,ab=>t.sgt (ab++[r.mk])
 |.ifs _ a b t,ab=>t.sgt (ab++[bb]++aJ a.size++aJ b.size)
def Ts.Wf:Ts->List Bool->Prop
 |.nil,_=>True
 |.row r t,ab=>r.Ok (Ab ab)/\t.Wf (ab++[r.mk])
 |.ifs c a b t,ab=>Ab ab c/\a.Wf (ab++[bb])/\b.Wf (ab++[bb]++aJ a.size)/\t.Wf (ab++[bb]++aJ a.size++aJ b.size)
theorem Ts.sgt_len:∀(t:Ts) (ab:List Bool),(t.sgt ab).length=ab.length+t.size
 |.nil,_=>rfl
 |.row r t,ab=>by simp[Ts.sgt,Ts.size,Ts.sgt_len t];lia
 |.ifs c a b t,ab=>by simp[Ts.sgt,Ts.size,Ts.sgt_len t];lia
def Ts.cnts:Ts->List Int
 |.nil=>[]
 |.row _ t=>1::t.cnts
 |.ifs _ a b t=>(1+((a.size:Int)+b.size))::t.cnts
theorem Ts.cnts_sum:∀t:Ts,t.cnts.sum=t.size
 |.nil=>rfl
 |.row _ t=>by simp[Ts.cnts,Ts.size,Ts.cnts_sum t]
 |.ifs _ a b t=>by simp[Ts.cnts,Ts.size,Ts.cnts_sum t]
theorem BG:∀xs:List Int,QY (xs.map .int)=b3 xs
 |[]=>rfl
 |_::xs=>by simp[QY,BG xs]
noncomputable abbrev Us(R:cB):VF:=f2 aR (fC (.int 1)) (K1 (fB (f2 YK (f2 bV (fV 0) (fC (.int 0))) (fC (.str "if")))) (f2 aR (cE 1 [] R (aE (f2 bV (fV 0) (fC (.int 2))) bZ)) (cE 1 [] R (aE (f2 bV (fV 0) (fC (.int 3))) bZ))) (fC (.int 0)))
def RL{n:Nat}{t:Ts}(h:∀acc,acc.length+t.size<1000->ZJ 0 1 (gN 0) U2 (Us (ZL n)) t.dats acc []=b3 (acc++t.cnts.map .int,[]))(hk:t.size<1000):ZL (n+1) [.tup t.dats]=b3 (.int t.size,[]):=by show a8 1 [] (WC (ZL n)) _=_;have e:=h [] (by simpa using hk);rw[cA];unfold WC;simp only[Cv]at e;simp[b7,Z8,e,oSum,BG,Ts.cnts_sum]
theorem YG:∀{t:Ts}{n:Nat}{ab:List Bool},t.dep<=n->t.Wf ab->∀acc,acc.length+t.size<1000->ZJ 0 1 (gN 0) U2 (Us (ZL n)) t.dats acc []=b3 (acc++t.cnts.map .int,[])
 |.nil,n,ab,_,_,acc,_=>by simp[Ts.dats,Ts.cnts]
 |.row r t,n,ab,hd,⟨h1,h2⟩,acc,hk=>by
  simp only[Ts.size]at hk;have d:=YG (t:=t) hd h2 (acc++[.int 1]) (by simp;lia);have f:=h1.noif;have e:acc.length<16777216:=by lia
  simp[Ts.dats,Ts.cnts,f,e,K2,d]
 |.ifs c a b t,0,ab,hd,_,acc,hk=>by simp only[Ts.dep]at hd;lia
 |.ifs c a b t,n+1,ab,hd,⟨_,h1,h2,g⟩,acc,hk=>by
  simp only[Ts.size]at hk;simp only[Ts.dep]at hd;have i:=RL (t:=a) (n:=n) (YG (by lia) h1) (by lia);have h:=RL (t:=b) (n:=n) (YG (by lia) h2) (by lia);have d:=YG (t:=t) (n:=n+1) (by lia) g (acc++[.int (1+((a.size:Int)+b.size))]) (by simp;lia);have e:acc.length<16777216:=by lia
  simp[Ts.dats,Ts.cnts,i,h,e,K2,d]
@[simp] theorem sC{ds:List cT}:QQ (.lst ds) .non=b3 (.bl bb):=(rfl)
@[simp] theorem tQ{ds:List cT}:VQ (.lst ds) .non=b3 (.bl ba):=(rfl)
@[simp] theorem on{ds:List cT}{k:Int}:FV (.lst ds) (.int k)=if(0<=k/\k<4611686018427387904)/\ds.length*k.toNat<=16777216 then b3 (.lst (V4 k.toNat ds))else b5:=by show(if(0<=k/\k<2 ^ 62)/\_ then _ else _)=_;rw[show(2:Int) ^ 62=4611686018427387904 by decide]
def nK{d:cT}(k:Nat):V4 k [d]=Aj k d:=by
 unfold V4;induction k with
 |zero=>rfl
 |succ k a=>rw[Dh,Fz,a,Dh];rfl
section
variable{R:cB}{ab:List Bool}{k:Nat}{deep:Nat}
def CF{ds:List cT}{xs:List Bool}(th able:cT)(e:R [.tup ds,.lst (ab.map .bl),.int ((deep:Int)+1)]=b3 (.lst (xs.map .bl),[]))(c:xs.length=ab.length+k)(hk:ab.length+k<=20)(s:Sl):YS R [.va th,.va able,.va (.int deep),.va (.lst (ab.map .bl)),.va (.tup ds),s]=b3 (.nx [.va th,.va able,.va (.int deep),.va (.lst ((ab++aJ k).map .bl)),.va (.tup ds),.va (.lst (xs.map .bl))]):=by
 have h1:((xs.length:Int)-(ab.length:Int))=(k:Int):=by lia
 have h2:(k:Int)<4611686018427387904:=by lia
 have b:k<=16777216:=by lia
 have a:ab.length+k<=16777216:=by lia
 unfold YS;simp -implicitDefEqProofs [e,h1,h2,b,a,nK]
def mn{c:Int}{b a:List cT}{d f:List Bool}{k1 k2:Nat}(hc:Ab ab c)(hd:deep<3)(j:R [.tup b,.lst ((ab++[bb]).map .bl),.int ((deep:Int)+1)]=b3 (.lst (d.map .bl),[]))(h1:d.length=(ab++[bb]).length+k1)(i:R [.tup a,.lst ((ab++[bb]++aJ k1).map .bl),.int ((deep:Int)+1)]=b3 (.lst (f.map .bl),[]))(h2:f.length=(ab++[bb]++aJ k1).length+k2)(hk:ab.length+1+k1+k2<=20):Y0 R [.tup [.str "if",.int c,.tup b,.tup a],.lst (ab.map .bl),.int deep]=b3 (.lst ((ab++[bb]++aJ k1++aJ k2).map .bl),[]):=by
 have f1:=CF (.tup [.str "if",.int c,.tup b,.tup a]) (.lst (ab.map .bl)) j h1 (by simp;lia) .no;have f2:=CF (.tup [.str "if",.int c,.tup b,.tup a]) (.lst (ab.map .bl)) i h2 (by simp;lia) (.va (.lst (d.map .bl)));have em:=Ux hc;have h:¬(deep:Int)=3:=by lia
 have hl:ab.length+1<=16777216:=by lia
 generalize g:ab.map cT.bl=A at em f1 f2;have e:A.length=ab.length:=by rw[<-g];simp
 have k:(ab++[bb]).map cT.bl=A++[.bl bb]:=by rw[Au,g];rfl
 rw[k]at f1;unfold Y0;rw[cA,X5.eq_1];simp[b7,em,NL,e,hl,h];rw[f1];simp only[NU,U4,LI,Q5,Nw,Nx,Ww];rw[f2];simp
def MM{n:Nat}{t:Ts}{able:cT}(h:∀th able s,∃s',YC (gN 4) (aD (a7 n)) t.dats [.va th,.va able,.va (.int deep),.va (.lst (ab.map .bl)),s]=b3 (.nx [.va th,.va able,.va (.int deep),.va (.lst ((t.sgt ab).map .bl)),s'])):a7 (n+1) [.tup t.dats,.lst (ab.map .bl),.int deep]=b3 (.lst ((t.sgt ab).map .bl),[]):=by show a8 5 [] (YX (a7 n)) _=_;obtain⟨s',e⟩:=h (.tup t.dats) (.lst (ab.map .bl)) .no;rw[cA,YX.eq_1];simp[b7,e]
end
theorem WI:∀{t:Ts}{n:Nat}{ab:List Bool}{deep:Nat},t.dep<=n->deep+t.dep<=3->t.Wf ab->ab.length+t.size<=20->∀th able s,∃s',YC (gN 4) (aD (a7 n)) t.dats [.va th,.va able,.va (.int deep),.va (.lst (ab.map .bl)),s]=b3 (.nx [.va th,.va able,.va (.int deep),.va (.lst ((t.sgt ab).map .bl)),s'])
 |.nil,n,ab,deep,_,_,_,_,th,able,s=>⟨s,rfl⟩
 |.row r t,n,ab,deep,hd,i,⟨h1,h2⟩,hk,th,able,s=>by
  simp only[Ts.size]at hk;obtain⟨s',d⟩:=WI (t:=t) (n:=n) (deep:=deep) hd i h2 (by simp;lia) th able (.va r.dat);refine⟨s',?_⟩;have e:=FH h1.row;have em:=h1.made;have j:=h1.isif;have g:ab.length+1<=16777216:=by lia
  have m:¬(20:Int)<(ab.length:Int)+1:=by lia
  rw[Ts.dats,U4,LI,Q5];have k:aD (a7 n) [.va th,.va able,.va (.int deep),.va (.lst (ab.map .bl)),.va r.dat]=b3 (.nx [.va th,.va able,.va (.int deep),.va (.lst ((ab++[r.mk]).map .bl)),.va r.dat]):=by unfold aD;simp[e,em,j,g,m,XJ]
  have s1:([.va th,.va able,.va (.int deep),.va (.lst (ab.map .bl)),s]:Ev).set 4 (.va r.dat)=[.va th,.va able,.va (.int deep),.va (.lst (ab.map .bl)),.va r.dat]:=rfl;rw[s1,k,NU,d];rfl
 |.ifs c a b t,0,ab,deep,hd,_,_,_,th,able,s=>by simp only[Ts.dep]at hd;lia
 |.ifs c a b t,n+1,ab,deep,hd,i,⟨hc,h1,h2,o⟩,hk,th,able,s=>by
  simp only[Ts.size]at hk;simp only[Ts.dep]at hd i;have q:=MM (t:=a) (n:=n) (able:=able) (WI (deep:=deep+1) (by lia) (by lia) h1 (by simp;lia));have p:=MM (t:=b) (n:=n) (able:=able) (WI (deep:=deep+1) (by lia) (by lia) h2 (by simp;lia));obtain⟨s',d⟩:=WI (t:=t) (n:=n+1) (deep:=deep) (by lia) (by lia) o (by simp;lia) th able (.va (.tup [.str "if",.int c,.tup a.dats,.tup b.dats]));refine⟨s',?_⟩;have f:=mn (R:=a7 (n+1)) (deep:=deep) hc (by lia) q (Ts.sgt_len _ _) p (Ts.sgt_len _ _) (by lia);have j:MV [.tup [.str "if",.int c,.tup a.dats,.tup b.dats]]=b3 (.bl ba,[]):=by kernel_rfl
  generalize l:ab++[bb]++aJ a.size++aJ b.size=B at f d;have h:¬(20:Int)<(B.length:Int):=by rw[<-l];simp;lia
  rw[Ts.dats,U4,LI,Q5];have k:aD (a7 (n+1)) [.va th,.va able,.va (.int deep),.va (.lst (ab.map .bl)),.va (.tup [.str "if",.int c,.tup a.dats,.tup b.dats])]=b3 (.nx [.va th,.va able,.va (.int deep),.va (.lst (B.map .bl)),.va (.tup [.str "if",.int c,.tup a.dats,.tup b.dats])]):=by unfold aD;simp[j,f,h,XJ]
  have s1:([.va th,.va able,.va (.int deep),.va (.lst (ab.map .bl)),s]:Ev).set 4 (.va (.tup [.str "if",.int c,.tup a.dats,.tup b.dats]))=[.va th,.va able,.va (.int deep),.va (.lst (ab.map .bl)),.va (.tup [.str "if",.int c,.tup a.dats,.tup b.dats])]:=rfl;rw[s1,k,NU,d,Ts.sgt,l]
def Uf{sure:Int}{t:Ts}(hd:t.dep<=3)(h:t.Wf [])(hk:t.size<=20)(a:0<=sure)(s1:sure<=64):WM [.tup [.int sure,.tup t.dats]]=b3 (.bl ba,[]):=by have e:=MM (t:=t) (n:=7) (able:=.non) (WI (ab:=[]) (deep:=0) (by lia) (by lia) h (by simp;lia));simp only[Cf]at e;have b:a7 8 [.tup t.dats,.lst [],.int 0]=b3 (.lst ((t.sgt []).map .bl),[]):=e;unfold WM;rw[cA];unfold OF;simp[b7,W4,a,s1,b]
def Ws.offs{ab:List Bool}{ws es:List cT}{k:Nat}(W:Ws ab ws)(hl:es.length=k):Ws (ab++aJ k) (ws++es):=by
 refine⟨by simp[W.len,hl],λa b=>?_⟩;have c:=b.1;by_cases hi:a.toNat<ab.length
 ·have h1 : Ab ab a := ⟨c,by have := b.2;rwa [Ah hi]at this⟩
  obtain⟨x,d,e⟩:=W.wd a h1;exact⟨x,d,by rw[N3 c (W.lt h1)];exact e⟩
 ·have e:=b.2
  rw[Am (by lia)]at e;have:=En (Cm e)
  cases this
noncomputable def Ts.run:Ts->List cT->List Int->KL
 |.nil,ws,cs=>⟨ws,cs,b5⟩
 |.row r t,ws,cs=>match Y6 (wv ws) cs r with
  |.ok m cs'=>t.run (ws++[m]) cs'
  |.bad s=>⟨ws,cs,b3 s⟩
 | .ifs c a b t,ws,cs => if wv ws c = 0 then
   (if(b.run (ws++Aj (1+a.size) .non) cs).er=b5 then t.run (b.run (ws++Aj (1+a.size) .non) cs).ws (b.run (ws++Aj (1+a.size) .non) cs).cs else b.run (ws++Aj (1+a.size) .non) cs)
  else
   (if(a.run (ws++[.non]) cs).er=b5 then t.run ((a.run (ws++[.non]) cs).ws++Aj b.size .non) (a.run (ws++[.non]) cs).cs else a.run (ws++[.non]) cs)
structure RunK(t:Ts)(ab:List Bool)(ws:List cT)(cs:List Int)(o:KL):Prop where
 len:o.cs.length=cs.length
 ok:∀c∈o.cs,Wd c
 all:o.er=b5->Ws (t.sgt ab) o.ws/\∃ex,o.ws=ws++ex/\ex.length=t.size
def X4{ab:List Bool}{n:Nat}:ab++[bb]++aJ n=ab++aJ (1+n):=by rw[Av,Pg,aJ,aJ,Dh];rfl
def WX{ab:List Bool}{n m:Nat}:ab++aJ n++aJ m=ab++aJ (n+m):=by rw[Av,aJ,aJ,aJ,List.replicate_append_replicate]
theorem X7:∀{t:Ts}{ab:List Bool}{ws:List cT}{cs:List Int},t.Wf ab->Ws ab ws->(∀c∈cs,Wd c)->RunK t ab ws cs (t.run ws cs)
 |.nil,ab,ws,cs,_,W,d=>⟨rfl,d,λ_=>⟨W,[],by simp[Ts.run],rfl⟩⟩
 | .row r t,ab,ws,cs,⟨h1,h2⟩,W,d => by
  unfold Ts.run;cases e:Y6 (wv ws) cs r with
  |bad s=>exact⟨rfl,d,λz=>nomatch z⟩
  |ok m cs'=>
   obtain⟨k0,k1,_,k2⟩:=MP h1 (λa p=>(W.word (h1.nm a p)).2) d e;obtain⟨q1,q2,q3⟩:=X7 (t:=t) h2 (W.snoc k2) k1;refine⟨q1.trans k0,q2,λz=>?_⟩;obtain⟨w,ex,f,h⟩:=q3 z;exact⟨w,m::ex,by rw[f];simp,by simp[Ts.size,h];lia⟩
 | .ifs c a b t,ab,ws,cs,⟨hc,h1,h2,i⟩,W,d => by
  unfold Ts.run;rw[X4,WX]at i;rw[X4]at h2;split
  ·have k := X7 (t := b) (ws := ws ++ Aj (1 + a.size) .non) h2 (W.offs (by simp)) d
   generalize b.run (ws++Aj (1+a.size) .non) cs=o at k;obtain⟨k1,k2,k3⟩:=k;split
   ·rename_i g
    obtain⟨_,ex,f,h⟩:=k3 g;rw[Av]at f;obtain⟨q1,q2,q3⟩:=X7 (t:=t) (ws:=o.ws) (cs:=o.cs) i (by rw[f];exact W.offs (by simp[h])) k2;refine⟨q1.trans k1,q2,λz=>?_⟩;obtain⟨w,j,n,l⟩:=q3 z;refine⟨by rw[Ts.sgt,X4,WX];exact w,Aj (1+a.size) .non++ex++j,by rw[n,f,Av],by simp[Ts.size,h,l];lia⟩
   ·rename_i g
    exact⟨k1,k2,λz=>absurd z g⟩
  ·have k:=X7 (t:=a) (ws:=ws++[.non]) h1 (W.offs (k:=1) rfl) d
   generalize a.run (ws++[.non]) cs=o at k;obtain⟨k1,k2,k3⟩:=k;split
   ·rename_i g
    obtain⟨_,ex,f,h⟩:=k3 g;rw[Av]at f;obtain⟨q1,q2,q3⟩:=X7 (t:=t) (ws:=o.ws++Aj b.size .non) (cs:=o.cs) i (by rw[f,Av];exact W.offs (by simp[h];lia)) k2;refine⟨q1.trans k1,q2,λz=>?_⟩;obtain⟨w,j,n,l⟩:=q3 z;refine⟨by rw[Ts.sgt,X4,WX];exact w,[.non]++ex++Aj b.size .non++j,by rw[n,f];simp,by simp[Ts.size,h,l];lia⟩
   ·rename_i g
    exact⟨k1,k2,λz=>absurd z g⟩
theorem FL:∀{ks:List aQ}{ds:List cT}{k:aQ}{v:cT}{a:List aQ}{b:List cT},bJ ks ds k=b3 v->bJ (ks++a) (ds++b) k=b3 v
 |[],_,_,_,_,_,h=>by simp[bJ]at h
 |_::_,[],_,_,_,_,h=>by simp[bJ]at h
 | k' :: ks,d :: ds,k,v,a,b,h => by
  by_cases e:k'=k
  ·simp[bJ,e]at h⊢
   exact h
  ·simp only[bJ,if_neg e]at h
   simp only[Dt,bJ,if_neg e];exact FL h
theorem FN:∀{ks:List aQ}{ds:List cT}{k:aQ}{v:cT},ks.length=ds.length->k∉ks->bJ (ks++[k]) (ds++[v]) k=b3 v
 |[],[],_,_,_,_=>by simp[bJ]
 |k'::ks,d::ds,k,v,hl,a=>by have h1:¬k'=k:=λe=>a (by rw[e];exact Bj);simp only[Dt,bJ,if_neg h1];exact FN (by simpa using hl) λh=>a (At _ h)
structure Dr(ab:List Bool)(ws:List cT)(ks:List aQ)(ds:List cT):Prop where
 len:ks.length=ds.length
 nd:ks.Nodup
 lt:∀k∈ks,∃i:Nat,k=.inl (i:Int)/\i<ws.length
 sm:ks.length<=ws.length
 at_:∀a,Ab ab a->bJ ks ds (.inl a)=b3 (.int (wv ws a))
section
variable{ab:List Bool}{ws:List cT}{ks:List aQ}{ds:List cT}{R:cB}{r:Rw}{cs:List Int}{c:Int}{tl:List cT}
def Dr.nin(D:Dr ab ws ks ds):(.inl (ws.length:Int):aQ)∉ks:=λh=>by obtain⟨i,e,hi⟩:=D.lt _ h;injection e with e;lia
def Dr.nil:Dr [] [] [] []:=⟨rfl,.nil,(λ_ h=>nomatch h),Ax _,λa h=>by have:=h.2;simp at this⟩
def Dr.snoc{b:Bool}{m:cT}(D:Dr ab ws ks ds)(W:Ws ab ws)(h:b=ba->∃x,Wd x/\m=.int x):Dr (ab++[b]) (ws++[m]) (ks++[.inl (ws.length:Int)]) (ds++[m]):=by
 refine⟨by simp[D.len],?_,λk hk=>?_,by have:=D.sm;simp;lia,λa f=>?_⟩
 ·refine Op.mpr ⟨D.nd,by simp,λx d y c => ?_⟩
  rw[Al.mp c];exact λe=>D.nin (e▸d)
 ·rcases Ci.mp hk with z|z
  ·obtain⟨i,e,hi⟩:=D.lt k z
   exact⟨i,e,by simp;lia⟩
  ·exact⟨ws.length,Al.mp z,by simp⟩
 ·rcases f.inv with h1|⟨h1,h2⟩
  ·rw[FL (D.at_ a h1),ZO h1.1 (W.lt h1)]
  ·obtain⟨x,_,rfl⟩:=h h2
   have e:a=ws.length:=by rw[h1,W.len]
   rw[YZ e,e];exact FN D.len D.nin
def Dr.offs{es:List cT}{bs:List Bool}(D:Dr ab ws ks ds)(W:Ws ab ws)(d:∀b∈bs,b=bb):Dr (ab++bs) (ws++es) ks ds:=by
 refine⟨D.len,D.nd,λk hk=>?_,by have:=D.sm;simp;lia,λa c=>?_⟩
 ·obtain⟨i,e,hi⟩:=D.lt k hk
  exact⟨i,e,by simp;lia⟩
 ·by_cases hi:a.toNat<ab.length
  ·have h1 : Ab ab a := ⟨c.1,by have := c.2;rwa [Ah hi]at this⟩
   rw[D.at_ a h1,ZO h1.1 (W.lt h1)]
  ·have e:=c.2
   rw[Am (by lia)]at e;exact absurd (d _ (Cm e)) (by simp)
noncomputable def KY(rows:cT)(n:Nat)(ks:List aQ)(ds cs:List cT)(a b c d e:Sl):Ev:=[.va rows,.va (.int n),.ow (.dct ks ds),.ow (.lst cs),a,b,c,d,e]
def Rw.Ok.isnum{M:Int->Prop}(h:r.Ok M):(∃n,r=.num n)∨¬r.hd= "number":=by
 cases r with
 |num n=>exact .inl ⟨n,rfl⟩
 |two x a b=>exact .inr (EI h.1 (by decide)).1
 |_=>exact .inr (by simp[Rw.hd])
theorem Yl(h:r.Ok (Ab ab))(W:Ws ab ws)(D:Dr ab ws ks ds)(hl:ws.length<1000)(rows:cT)(b c d e:Sl):∃d' o,bS R (KY rows ws.length ks ds (cs.map .int) (.va r.dat) b c d e)=match Y6 (wv ws) cs r with
  |.ok m cs'=>b3 (.nx (KY rows (ws.length+1) (ks++[.inl (ws.length:Int)]) (ds++[m]) (cs'.map .int) (.va r.dat) (.va .non) c d' o))
  |.bad s=>b3 (.rt (.tup [.int ws.length,.str s]) (KY rows ws.length (ks++[.inl (ws.length:Int)]) (ds++[.non]) (cs.map .int) (.va r.dat) (.va (.tup [.int ws.length,.str s])) c d' o)):=by
 have hi:=h.noif;have f:ks.length<16777216:=by have:=D.sm;lia
 have hnd:=D.nd;have pn:=λm=>BY ks ds (.inl (ws.length:Int)) m D.len D.nin;have g:=RL (n:=7) (t:=.row r .nil) (YG (by simp[Ts.dep]) ⟨h,trivial⟩) (by simp[Ts.size]);simp only[Ts.dats,Ts.size,Nat.add_zero]at g;rcases h.isnum with⟨n,rfl⟩|i
 ·refine⟨d,e,?_⟩
  simp only[Y6];simp only[Rw.dat]at g⊢;unfold bS;simp[KY,f,hnd,pn,g]
 ·have k := MU (d := .dct ks ds) (ws := ws) Rw.nl λa j => by rw[jn];exact D.at_ a (h.nm a j)
  have p2:=fG (cs:=cs) h i λa j=>(W.word (h.nm a j)).2;have l:=h.names.2;generalize (r.nms.map (wv ws)).map cT.int=zs at k p2;unfold bS;cases es:Y6 (wv ws) cs r with
  |ok m cs'=>rw[es]at p2;exact⟨.va m,.va .non,by simp[KY,l,Z8,k,p2,QT.out,hi,i,f,hnd,pn,g]⟩
  |bad s=>rw[es]at p2;exact⟨.va .non,.va (.str s),by simp[KY,l,Z8,k,p2,QT.out,hi,i,f,hnd,pn]⟩
def Ab.offs{ab:List Bool}{k:Nat}{a:Int}(h:Ab (ab++aJ k) a):Ab ab a:=by
 by_cases hi:a.toNat<ab.length
 ·exact⟨h.1,by have:=h.2;rwa[Ah hi]at this⟩
 ·have e:=h.2
  rw[Am (by lia)]at e;have:=En (Cm e)
  cases this
theorem Ts.sgt_ab:∀{t:Ts}{ab:List Bool}{a:Int},Ab ab a->Ab (t.sgt ab) a
 |.nil,_,_,h=>h
 |.row _ t,_,_,h=>Ts.sgt_ab (t:=t) h.app
 |.ifs _ _ _ t,_,_,h=>Ts.sgt_ab (t:=t) h.app.app.app
def Dr.weak{b:List Bool}(D:Dr ab ws ks ds)(h:∀a,Ab b a->Ab ab a):Dr b ws ks ds:=⟨D.len,D.nd,D.lt,D.sm,λa c=>D.at_ a (h a c)⟩
inductive PlR(R:cB)(L:List cT)(δ:Ev)(t:Ts)(ab:List Bool)(ws:List cT)(cs:List Int)(rows:cT)(K:Ev->Option Ou):Prop
 |mk (N':Nat) (ks':List aQ) (ds':List cT) (a' b' c' d' e':Sl) (hD:(t.run ws cs).er=b5->Dr (t.sgt ab) (t.run ws cs).ws ks' ds') (q:YC (gN 4) (bS R) L δ=match(t.run ws cs).er with
  |none=>K (KY rows (t.run ws cs).ws.length ks' ds' ((t.run ws cs).cs.map .int) a' b' c' d' e')
  |some s=>b3 (.rt (.tup [.int (t.run ws cs).ws.length,.str s]) (KY rows N' ks' ds' ((t.run ws cs).cs.map .int) a' b' c' d' e'))):PlR R L δ t ab ws cs rows K
inductive PlS(n:Nat)(N:Int)(ks:List aQ)(ds:List cT)(t:Ts)(ab:List Bool)(ws:List cT)(cs:List Int):Prop
 |mk (ks':List aQ) (ds':List cT) (hD:(t.run ws cs).er=b5->Dr (t.sgt ab) (t.run ws cs).ws ks' ds') (q:bK (n+1) [.tup t.dats,.int N,.dct ks ds,.lst (cs.map .int)]=b3 ((t.run ws cs).fd,[.dct ks' ds',.lst ((t.run ws cs).cs.map .int)])):PlS n N ks ds t ab ws cs
def IC{n:Nat}{t:Ts}{N:Int}(d:N=ws.length)(q:∀rows,PlR (bK n) (t.dats++[]) (KY rows ws.length ks ds (cs.map .int) .no .no .no .no .no) t ab ws cs rows (YC (gN 4) (bS (bK n)) [])):PlS n N ks ds t ab ws cs:=by
 subst d;obtain⟨N',a,b,i,h,g,d',f,e,q⟩:=q (.tup t.dats);refine⟨a,b,e,?_⟩;show a8 9 [2,3] (ZA (bK n)) _=_;rw[cA,ZA.eq_1];unfold KL.fd;simp only[KY,Bi]at q;generalize t.dats=L at q⊢;generalize t.run ws cs=o at q⊢;cases c:o.er with
 |none=>rw[c]at q;simp at q;simp[b7,q]
 |some s=>rw[c]at q;simp[b7,q]
theorem WQ:∀{t:Ts}{n:Nat}{ab:List Bool}{ws:List cT}{cs:List Int}{ks:List aQ}{ds tl:List cT},n<=7->t.dep<=n->t.Wf ab->Ws ab ws->Dr ab ws ks ds->(∀c∈cs,Wd c)->ws.length+t.size<1000->∀rows a b c d e,PlR (bK n) (t.dats++tl) (KY rows ws.length ks ds (cs.map .int) a b c d e) t ab ws cs rows (YC (gN 4) (bS (bK n)) tl)
 |.nil,n,ab,ws,cs,ks,ds,tl,_,_,_,_,D,_,_,rows,a,b,c,d,e=>⟨0,ks,ds,a,b,c,d,e,λ_=>D,by simp[Ts.dats,Ts.run]⟩
 | .row r t,n,ab,ws,cs,ks,ds,tl,F,hd,⟨h1,h2⟩,W,D,h,hk,rows,a,b,c,d,e => by
  simp only[Ts.size]at hk;simp only[Ts.dep]at hd;obtain⟨d1,e1,st⟩:=Yl (R:=bK n) (cs:=cs) h1 W D (by lia) rows b c d e;have s1:YC (gN 4) (bS (bK n)) ((Ts.row r t).dats++tl) (KY rows ws.length ks ds (cs.map .int) a b c d e)=_:=U4;rw[LI,Q5,show(KY rows ws.length ks ds (cs.map .int) a b c d e).set 4 (.va r.dat)=KY rows ws.length ks ds (cs.map .int) (.va r.dat) b c d e from rfl,st]at s1;cases es:Y6 (wv ws) cs r with
  |bad s=>
   rw[es]at s1;exact⟨_,_,_,_,_,_,_,_,(λz=>by simp[Ts.run,es]at z),by rw[s1];simp only[Ts.run,es];rfl⟩
  |ok m cs'=>
   rw[es]at s1;obtain⟨_,k1,_,k2⟩:=MP h1 (λa H=>(W.word (h1.nm a H)).2) h es;obtain⟨N',K,P,a',b',c',d',e',B,ih⟩:=WQ (t:=t) (tl:=tl) F hd h2 (W.snoc k2) (D.snoc W k2) k1 (by simp;lia) rows (.va r.dat) (.va .non) c d1 e1;rw[Ao,Cn]at ih;have f:(Ts.row r t).run ws cs=t.run (ws++[m]) cs':=by simp only[Ts.run,es]
   exact⟨N',K,P,a',b',c',d',e',by rw[f];exact B,by rw[f,s1];exact ih⟩
 |.ifs k x y t,0,ab,ws,cs,ks,ds,tl,F,hd,_,W,D,h,hk,rows,a,b,c,d,e=>by simp only[Ts.dep]at hd;lia
 | .ifs k x y t,n + 1,ab,ws,cs,ks,ds,tl,F,hd,⟨hc,h1,h2,M⟩,W,D,h,hk,rows,a,b,c,d,e => by
  simp only[Ts.size]at hk;simp only[Ts.dep]at hd;have q:=D.at_ k hc;have l:=RL (n:=7) (t:=x) (YG (by lia) h1) (by lia);have v:=RL (n:=7) (t:=.ifs k x y .nil) (YG (by simp only[Ts.dep];lia) ⟨hc,h1,h2,trivial⟩) (by simp only[Ts.size];lia);simp only[Ts.dats,Ts.size,Nat.add_zero]at v;rw[X4,WX]at M;rw[X4]at h2;have s1:YC (gN 4) (bS (bK (n+1))) ((Ts.ifs k x y t).dats++tl) (KY rows ws.length ks ds (cs.map .int) a b c d e)=_:=U4;rw[LI,Q5,show(KY rows ws.length ks ds (cs.map .int) a b c d e).set 4 (.va (.tup [.str "if",.int k,.tup x.dats,.tup y.dats]))=KY rows ws.length ks ds (cs.map .int) (.va (.tup [.str "if",.int k,.tup x.dats,.tup y.dats])) b c d e from rfl]at s1;by_cases hz:wv ws k=0
  ·have f : (Ts.ifs k x y t).run ws cs = if (y.run (ws ++ Aj (1 + x.size) .non) cs).er = b5 then t.run (y.run (ws ++ Aj (1 + x.size) .non) cs).ws (y.run (ws ++ Aj (1 + x.size) .non) cs).cs else y.run (ws ++ Aj (1 + x.size) .non) cs := by rw [Ts.run,if_pos hz]
   have J:=W.offs (es:=Aj (1+x.size) .non) (k:=1+x.size) (by simp);obtain⟨i,j,B,p⟩:=IC (t:=y) (n:=n) (ab:=ab++aJ (1+x.size)) (ws:=ws++Aj (1+x.size) .non) (cs:=cs) (ks:=ks) (ds:=ds) (N:=(ws.length:Int)+1+x.size) (by simp;lia) λrows=>WQ (t:=y) (n:=n) (tl:=[]) (cs:=cs) (by lia) (by lia) h2 J (D.offs W (es:=Aj (1+x.size) .non) (bs:=aJ (1+x.size)) λb G=>En G) h (by simp;lia) rows .no .no .no .no .no;have kk:=X7 (t:=y) h2 J h;generalize y.run (ws++Aj (1+x.size) .non) cs=o at B p kk f;unfold KL.fd at p;cases g:o.er with
   |some s=>
    rw[if_neg (by rw[g];simp)]at f;refine⟨ws.length,i,j,.va (.tup [.str "if",.int k,.tup x.dats,.tup y.dats]),.va (.tup [.int o.ws.length,.str s]),.va (.int (ws.length+1+x.size)),d,e,(λz=>by rw[f,g]at z;cases z),?_⟩;rw[f,s1];rw[g]at p;generalize x.dats=X at*;generalize y.dats=Y at*;unfold bS;simp[KY,l,q,hz,p,g]
   |none=>
    rw[if_pos g]at f;obtain⟨_,ex,C,I⟩:=kk.all g;have w:o.ws.length=ws.length+(1+(x.size+y.size)):=by rw[C];simp[I];lia
    have Z:Dr (ab++aJ (1+x.size+y.size)) o.ws i j:=(B g).weak λa H=>Ts.sgt_ab (H.offs.app);rw[Av]at C;obtain⟨V,u,E,U,T,S,Q,O,A,L⟩:=WQ (t:=t) (n:=n+1) (ws:=o.ws) (cs:=o.cs) (tl:=tl) F (by lia) M (by rw[C];exact W.offs (by simp[I])) Z kk.ok (by lia) rows (.va (.tup [.str "if",.int k,.tup x.dats,.tup y.dats])) (.va .non) (.va (.int (ws.length+1+x.size))) d e;refine⟨V,u,E,U,T,S,Q,O,by rw[f,Ts.sgt,X4,WX];exact A,?_⟩;rw[f,s1,<-L,w];rw[g]at p;generalize x.dats=X at*;generalize y.dats=Y at*;unfold bS;simp[KY,l,v,q,hz,p]
  ·have f : (Ts.ifs k x y t).run ws cs = if (x.run (ws ++ [.non]) cs).er = b5 then t.run ((x.run (ws ++ [.non]) cs).ws ++ Aj y.size .non) (x.run (ws ++ [.non]) cs).cs else x.run (ws ++ [.non]) cs := by rw [Ts.run,if_neg hz]
   have J:=W.offs (es:=[cT.non]) (k:=1) rfl;obtain⟨i,j,B,p⟩:=IC (t:=x) (n:=n) (ab:=ab++[bb]) (ws:=ws++[.non]) (cs:=cs) (ks:=ks) (ds:=ds) (N:=(ws.length:Int)+1) (by simp) λrows=>WQ (t:=x) (n:=n) (tl:=[]) (cs:=cs) (by lia) (by lia) h1 J (D.offs W (es:=[.non]) (bs:=aJ 1) λb G=>En G) h (by simp;lia) rows .no .no .no .no .no;have kk:=X7 (t:=x) h1 J h;generalize x.run (ws++[.non]) cs=o at B p kk f;unfold KL.fd at p;cases g:o.er with
   |some s=>
    rw[if_neg (by rw[g];simp)]at f;refine⟨ws.length,i,j,.va (.tup [.str "if",.int k,.tup x.dats,.tup y.dats]),.va (.tup [.int o.ws.length,.str s]),.va (.int (ws.length+1+x.size)),d,e,(λz=>by rw[f,g]at z;cases z),?_⟩;rw[f,s1];rw[g]at p;generalize x.dats=X at*;generalize y.dats=Y at*;unfold bS;simp[KY,l,q,hz,p,g]
   |none=>
    rw[if_pos g]at f;obtain⟨W3,ex,C,I⟩:=kk.all g;have w:(o.ws++Aj y.size cT.non).length=ws.length+(1+(x.size+y.size)):=by rw[C];simp[I];lia
    have Z:Dr (ab++aJ (1+x.size+y.size)) (o.ws++Aj y.size .non) i j:=((B g).offs W3 (bs:=aJ y.size) λb G=>En G).weak λa H=>(Ts.sgt_ab H.offs.app).app;rw[Av]at C;obtain⟨V,u,E,U,T,S,Q,O,A,L⟩:=WQ (t:=t) (n:=n+1) (ws:=o.ws++Aj y.size .non) (cs:=o.cs) (tl:=tl) F (by lia) M (by rw[C,Av];exact W.offs (by simp[I];lia)) Z kk.ok (by lia) rows (.va (.tup [.str "if",.int k,.tup x.dats,.tup y.dats])) (.va .non) (.va (.int (ws.length+1+x.size))) d e;refine⟨V,u,E,U,T,S,Q,O,by rw[f,Ts.sgt,X4,WX];exact A,?_⟩;rw[f,s1,<-L,w];rw[g]at p;generalize x.dats=X at*;generalize y.dats=Y at*;unfold bS;simp[KY,l,v,q,hz,p]
def iQ{t:Ts}(hd:t.dep<=3)(h:t.Wf [])(hk:t.size<=20)(a:∀c∈cs,Wd c):∃d',bK 8 [.tup t.dats,.int 0,.dct [] [],.lst (cs.map .int)]=b3 ((t.run [] cs).fd,[d',.lst ((t.run [] cs).cs.map .int)]):=by obtain⟨b,d,_,p⟩:=IC (t:=t) (n:=7) (ab:=[]) (ws:=[]) (cs:=cs) (ks:=[]) (ds:=[]) (N:=0) rfl λrows=>WQ (t:=t) (n:=7) (tl:=[]) (cs:=cs) (by lia) (by lia) h Ws.nil Dr.nil a (by simp;lia) rows .no .no .no .no .no;exact⟨_,p⟩
end
def GF{t:VB}{g:VS}{k:Nat}{δ δ1 a:Ev}(h:t δ=b3 (ba,δ1))(h2:g δ1=b3 (.nx a)):Z9 t g (k+1) δ=Z9 t g k a:=by show((t δ).bind λp=>if p.1=ba then(g p.2).bind (X1 (Z9 t g k))else b3 (.nx p.2))=_;rw[h,Ay];show(if ba=ba then(g δ1).bind (X1 (Z9 t g k))else _)=_;rw[if_pos rfl,h2];rfl
def ly{t:VB}{g:VS}{k:Nat}{δ δ1:Ev}(h:t δ=b3 (bb,δ1)):Z9 t g (k+1) δ=b3 (.nx δ1):=by show((t δ).bind λp=>if p.1=ba then(g p.2).bind (X1 (Z9 t g k))else b3 (.nx p.2))=_;rw[h];rfl
def isW:Kd->Bool
 |.w=>ba
 |_=>bb
def TR.rw{M:Int->Prop}{row:cT}(h:TR M row):∃r:Rw,row=r.dat/\r.Ok M/\isW (mk1 .w row)=r.mk:=by
 cases h with
 | @number n a b=>exact⟨.num n,rfl,⟨a,b⟩,by kernel_rfl⟩
 | @two x a b g d f=>
  refine⟨.two x a b,rfl,⟨g,d,f⟩,?_⟩;rcases d7 g with rfl|rfl|rfl|rfl|rfl|rfl|rfl<;>kernel_rfl
 | @pick c a b hc d f=>exact⟨.pick c a b,rfl,⟨hc,d,f⟩,by kernel_rfl⟩
 | @load p a b=>exact⟨.load p,rfl,⟨a,b⟩,by kernel_rfl⟩
 | @take p c a e h1 hc d=>exact⟨.take p c a,rfl,⟨⟨e,h1⟩,hc,d⟩,by kernel_rfl⟩
 | @store p a e h1 d=>exact⟨.store p a,rfl,⟨⟨e,h1⟩,d⟩,by kernel_rfl⟩
 | @put p a c e h1 d hc=>exact⟨.put p a c,rfl,⟨⟨e,h1⟩,d,hc⟩,by kernel_rfl⟩
def Rw.Ok.wr{M:Int->Prop}{r:Rw}(h:r.Ok M):(!decide ("store"=r.hd)&&!decide ("put"=r.hd))=r.mk:=by
 cases r with
 |two x a b=>
  have d:=(EI h.1 (y:= "store") (by decide)).2;have c:=(EI h.1 (y:= "put") (by decide)).2;simp[Rw.hd,Rw.mk,d,c]
 |_=>simp[Rw.hd,Rw.mk]
section
variable{ns:List Int}{room:Int}{deep:Nat}
def sD(N:Nat)(zs:List Int):cT:=.nst [b5,b3 zs.length] (.int N::zs.map .int)
noncomputable def MO(ns:List Int)(n:Nat)(m:Int)(deep N:Nat)(zs:List Int)(room:Int)(rows:List cT)(a b c d e f g:Sl):Ev:=
 [.va (T4 ns),.ow (V7 n),.va (.int m),.va (.int deep),.ow (sD N zs),.va (.int room),.ow (.lst rows),a,b,c,d,e,f,g]
def j9(zs:List Int):HZ (.lst (zs.map .int)) (.lst [])=b3 (.bl (!zs.isEmpty)):=by
 have e:=SA zs;have k1:QR 1 (.lst (zs.map .int)):=M6 λd hd=>by obtain⟨c,_,rfl⟩:=Ek.mp hd;exact aC
 have k2:QR 1 (.lst []):=M6 YM;rw[Vi k1 k2]at e;rw[Vw k1 k2];injection e with e;injection e with e;rw[e]
noncomputable abbrev Tst:VB:=NE (fB (f2 HZ (fNl 4 1) (XW bO))) (NE (fB (f2 oLt (fV 3) (fC (.int 3)))) (NE (fB (f2 BN (fV 2) (fC (.int 1)))) (fB (f2 YK (cE 3 [1] bF (aE (fV 0) (aO 1 (aE (fC (.int 4)) bZ)))) (fC (.int 0))))))
def UZ{zs:List Int}:(zs.map cT.int).take zs.length=zs.map .int:=Cz (by simp)
def JK{zs:List Int}:(zs.map cT.int).drop zs.length=[]:=List.drop_of_length_le (by simp)
def lQ{n N:Nat}{m:Int}{zs:List Int}{rows:List cT}(hl:ns.length<=63)(p:n<700000)(a b c d e f g:Sl):∃j t,(t=ba->0<zs.length/\deep<3/\1<m)/\n<=j/\j<=n+1/\Tst (MO ns n m deep N zs room rows a b c d e f g)=b3 (t,MO ns j m deep N zs room rows a b c d e f g):=by
 have i:=j9 zs;have tk:=UZ (zs:=zs);cases zs with
 |nil=>exact⟨n,bb,by simp,by lia,by lia,by simp at i;simp[MO,sD,i]⟩
 |cons z zs=>
  generalize hz:z::zs=ys at*;have l:0<ys.length:=by rw[<-hz];simp
  have k:ys.isEmpty=bb:=by rw[<-hz];rfl
  rw[k]at i;simp only[MO,sD];generalize ys.map cT.int=Z at*;by_cases h1:deep<3
  ·have h : (deep : Int) < 3 := by lia
   by_cases h2:1<m
   ·have o := YL ns n 4 hl (by lia) (by decide)
    refine⟨n+1,decide (JL ns n 4=0),λ_=>⟨l,h1,h2⟩,by lia,by lia,?_⟩;simp[tk,i,h,h2,o]
   ·exact⟨n,bb,by simp,by lia,by lia,by simp[tk,i,h,h2]⟩
  ·have h : ¬ (deep : Int) < 3 := by lia
   exact⟨n,bb,by simp,by lia,by lia,by simp[tk,i,h]⟩
def my{R:cB}{n i N:Nat}{m:Int}{zs:List Int}{rows:List cT}{a b c d e f g:Sl}(hl:ns.length<=63)(x:i<600000)(v:0<room)(o:room<=64)(hz:zs.length<1000)(hw:rows.length<1000)(p:Tst (MO ns n m deep N zs room rows a b c d e f g)=b3 (bb,MO ns i m deep N zs room rows a b c d e f g)):∃(r:Rw) (n':Nat),r.Ok (· ∈zs)/\i<=n'/\n'<=i+10/\Z3 R (MO ns n m deep N zs room rows a b c d e f g)=b3 (.nx (MO ns n' (m-1) deep (N+1) (if r.mk=ba then zs++[(N:Int)]else zs) room (rows++[r.dat]) a b c d e f (.va r.dat))):=by
 obtain⟨row,n',u,h1,h2,_,w,_,s⟩:=jt ns i zs (.dct [] []) room hl (by lia) ⟨[],[],rfl,rfl,List.nodup_nil,Ee _⟩ v o;obtain⟨r,rfl,q,_⟩:=w.rw;refine⟨r,n',q,h1,h2,?_⟩;have h:=q.wr;have tk:=UZ (zs:=zs);have t:=JK (zs:=zs);have l:(zs.map cT.int).length=zs.length:=by simp
 have k:zs.length<16777216:=by lia
 have j:rows.length<16777216:=by lia
 unfold Z3;unfold Tst at p;rw[Vs,p];cases hk:r.mk with
 |true=>
  rw[hk]at h;simp only[if_true];simp only[MO,sD,Au,Be,Cf,Ao,Cn];generalize zs.map cT.int=Z at*;simp[tk,t,s,h,l,k,j]
 |false=>
  rw[hk]at h;simp only[Ec,if_false];simp only[MO,sD];generalize zs.map cT.int=Z at*;simp[tk,t,s,h,j]
inductive RSr(ns:List Int)(room:Int)(deep:Nat)(R:cB)(ab:List Bool)(zs:List Int)(n c8:Nat):Prop
 |mk (t:Ts) (n':Nat) (h1:t.Wf ab) (h2:t.size=c8) (h3:t.dep+deep<=3) (h4:n'<=n+12*c8) (h5:R [T4 ns,V7 n,.int c8,.int deep,sD ab.length zs,.int room]=b3 (.tup t.dats,[V7 n',sD (ab.length+c8) zs])):RSr ns room deep R ab zs n c8
abbrev RSp(ns:List Int)(room:Int)(deep:Nat)(R:cB):Prop:=∀(ab:List Bool) (zs:List Int) (n a:Nat),(∀z∈zs,Ab ab z)->zs.length<=ab.length->ab.length+a<=20->n+12*a<500000->RSr ns room deep R ab zs n a
inductive SIf(R:cB)(ns:List Int)(room:Int)(deep m n1:Nat)(ab:List Bool)(zs:List Int)(rows:List cT)(a g:Sl)(δ:Ev):Prop
 |mk (k:Int) (x y:Ts) (n':Nat) (b' c' d' e' f':Sl) (h1:Ab ab k) (h2:x.Wf (ab++[bb])) (h3:y.Wf (ab++[bb]++aJ x.size)) (h4:1+(x.size+y.size)<=m) (h5:1+max x.dep y.dep+deep<=3) (h6:n'<=n1+2+12*(x.size+y.size)) (h7:Z3 R δ=b3 (.nx (MO ns n' ((m-(1+(x.size+y.size)):Nat):Int) deep (ab.length+(1+(x.size+y.size))) zs room (rows++[.tup [.str "if",.int k,.tup x.dats,.tup y.dats]]) a b' c' d' e' f' g))):SIf R ns room deep m n1 ab zs rows a g δ
def nE{R:cB}{n o m:Nat}{ab:List Bool}{zs:List Int}{rows:List cT}{a b c d e f g:Sl}(E:RSp ns room (deep+1) R)(hl:ns.length<=63)(V:o+12*m<500001)(W:1<m)(hz:∀z∈zs,Ab ab z)(O:zs.length<=ab.length)(t:0<zs.length)(hk:ab.length+m<=20)(hw:rows.length<1000)(D:Tst (MO ns n m deep ab.length zs room rows a b c d e f g)=b3 (ba,MO ns o m deep ab.length zs room rows a b c d e f g)):SIf R ns room deep m o ab zs rows a g (MO ns n m deep ab.length zs room rows a b c d e f g):=by
 obtain⟨q,P,Q⟩:=UH ns o (zs.map .int) hl (by lia) (by simpa using t);obtain⟨k,v,rfl⟩:=Ek.mp P;have F:=YL ns (o+1) m hl (by lia) (by lia);have d0:=QV ns (o+1) (b:=m) (by lia);have S:=NN ns (o+1) (b:=m) (by lia);obtain⟨i,hi⟩:=Hv d0;rw[hi]at F S;obtain⟨x,N,L,K,U,J,s⟩:=E (ab++[bb]) zs (o+2) (i-i/2) (λz h=>(hz z h).app) (by simp;lia) (by simp;lia) (by lia);obtain⟨y,M,I,H,T,G,r⟩:=E (ab++[bb]++aJ x.size) zs N (i/2) (λz h=>(hz z h).app.app) (by simp;lia) (by simp;lia) (by lia);have p:x.size+y.size=i:=by lia
 have f1:(i:Int)/2=((i/2:Nat):Int):=by lia
 have w:(i:Int)-((i/2:Nat):Int)=((i-i/2:Nat):Int):=by lia
 have f3:((m-(1+i):Nat):Int)=(m:Int)-1-i:=by lia
 have C:(ab++[bb]).length=ab.length+1:=by simp
 have B:(ab++[bb]++aJ x.size).length=ab.length+1+(i-i/2):=by simp;lia
 have A:ab.length+1+(i-i/2)+i/2=ab.length+(1+i):=by lia
 rw[C]at s;rw[B,A]at r;refine⟨k,x,y,M,.va (.int k),.va (.int i),.va (.int ((i/2:Nat):Int)),.va (.tup x.dats),.va (.tup y.dats),hz k v,L,I,by lia,by lia,by lia,?_⟩;have tk:=UZ (zs:=zs);have u:rows.length<16777216:=by lia
 unfold Z3;unfold Tst at D;rw[Vs,D,p,f3];simp only[MO,sD]at s r⊢;generalize zs.map cT.int=Z at*;generalize x.dats=X at*;generalize y.dats=Y at*;clear p C B A K J H G;generalize i-i/2=l at*;generalize i/2=j at*;simp only[Int.natCast_add,Int.natCast_one]at s r;simp[cT.hard,KO,tk,Q,F,f1,w,s,r,u]
inductive RLp(R:cB)(q:Nat)(ns:List Int)(room:Int)(deep m n:Nat)(ab:List Bool)(zs:List Int)(rows:List cT)(a:Sl)(δ:Ev):Prop
 |mk (t:Ts) (n':Nat) (ex:List Int) (b' c' d' e' f' g':Sl) (h1:t.Wf ab) (h2:t.size=m) (h3:t.dep+deep<=3) (h4:n'<=n+12*m) (h5:Z9 (fB (f2 BN (fV 2) (fC (.int 0)))) (Z3 R) (q+1) δ=b3 (.nx (MO ns n' 0 deep (ab.length+m) (zs++ex) room (rows++t.dats) a b' c' d' e' f' g'))):RLp R q ns room deep m n ab zs rows a δ
theorem IH{R:cB}(hl:ns.length<=63)(u:0<room)(i:room<=64)(hd:deep<=3)(w:deep<3->RSp ns room (deep+1) R):∀(q m:Nat) {ab:List Bool}{zs:List Int}{n:Nat}{rows:List cT},m<=q->(∀z∈zs,Ab ab z)->zs.length<=ab.length->ab.length+m<=20->rows.length+m<=100->n+12*m<500000->∀a b c d e f g,RLp R q ns room deep m n ab zs rows a (MO ns n m deep ab.length zs room rows a b c d e f g)
 |q,0,ab,zs,n,rows,_,_,_,_,_,_,a,b,c,d,e,f,g=>⟨.nil,n,[],b,c,d,e,f,g,trivial,rfl,by simpa[Ts.dep]using hd,by lia,by rw[ly (δ1:=MO ns n 0 deep ab.length zs room rows a b c d e f g) (by simp[MO])];simp[Ts.dats]⟩
 |0,m+1,ab,zs,n,rows,h,_,_,_,_,_,a,b,c,d,e,f,g=>by lia
 | q + 1,m + 1,ab,zs,n,rows,hq,hz,p,hk,hw,hn,a,b,c,d,e,f,g => by
  have H:fB (f2 BN (fV 2) (fC (.int 0))) (MO ns n ((m+1:Nat):Int) deep ab.length zs room rows a b c d e f g)=b3 (ba,MO ns n ((m+1:Nat):Int) deep ab.length zs room rows a b c d e f g):=by
   have:0<((m+1:Nat):Int):=by lia
   generalize ((m+1:Nat):Int)=M at*;simp[MO,this]
  obtain⟨n1,t,Q,t2,t3,te⟩:=lQ (ns:=ns) (room:=room) (deep:=deep) (n:=n) (N:=ab.length) (m:=((m+1:Nat):Int)) (zs:=zs) (rows:=rows) hl (by lia) a b c d e f g;cases t with
  |false=>
   obtain⟨r,o,T,r1,r2,C⟩:=my (R:=R) hl (by lia) u i (by lia) (by lia) te;have s:∀z∈(if r.mk=ba then zs++[(ab.length:Int)]else zs),Ab (ab++[r.mk]) z:=λz h=>by
    split at h
    ·rename_i hk
     rcases Ci.mp h with h|h
     ·exact(hz z h).app
     ·rw[Al.mp h,hk];exact Ab.new
    ·exact(hz z h).app
   obtain⟨t,n',ex,F,E,d',D,A,g',l,P,G,O,j⟩:=IH hl u i hd w q m (n:=o) (rows:=rows++[r.dat]) (by lia) s (by split<;>simp<;>lia) (by simp;lia) (by simp;lia) (by lia) a b c d e f (.va r.dat);refine⟨.row r t,n',(if r.mk=ba then[(ab.length:Int)]else[])++ex,F,E,d',D,A,g',⟨T.imp hz,l⟩,by simp only[Ts.size];lia,by simp only[Ts.dep];exact G,by lia,?_⟩;rw[GF H C,show((m+1:Nat):Int)-1=m by lia];rw[Ao,Cn]at j;rw[j,show ab.length+1+m=ab.length+(m+1) by lia];rw[Ts.dats,Av,Mb];split<;>simp
  |true=>
   obtain⟨J,I,Y⟩:=Q rfl;obtain⟨k,x,y,o,X,W,V,B,f1,v,L,K,Z,dp,U,C⟩:=nE (w I) hl (by lia) (by lia) hz p J hk (by lia) te;obtain⟨t,n',ex,F,E,d',D,A,g',l,P,G,O,j⟩:=IH hl u i hd w q (m+1-(1+(x.size+y.size))) (ab:=ab++[bb]++aJ x.size++aJ y.size) (zs:=zs) (n:=o) (rows:=rows++[.tup [.str "if",.int k,.tup x.dats,.tup y.dats]]) (by lia) (λz h=>(hz z h).app.app.app) (by simp;lia) (by simp;lia) (by simp;lia) (by lia) a X W V B f1 g;refine⟨.ifs k x y t,n',ex,F,E,d',D,A,g',⟨v,L,K,l⟩,by simp only[Ts.size];lia,by simp only[Ts.dep];lia,by lia,?_⟩;have S:(ab++[bb]++aJ x.size++aJ y.size).length=ab.length+(1+(x.size+y.size)):=by simp;lia
   rw[S]at j;rw[GF H C,j,show ab.length+(1+(x.size+y.size))+(m+1-(1+(x.size+y.size)))=ab.length+(m+1) by lia];rw[Ts.dats,Av,Mb]
def MH{R:cB}(hl:ns.length<=63)(q:0<room)(d:room<=64)(hd:deep<=3)(s:deep<3->RSp ns room (deep+1) R){ab:List Bool}{zs:List Int}{n m:Nat}(hz:∀z∈zs,Ab ab z)(b:zs.length<=ab.length)(hk:ab.length+m<=20)(r:n+12*m<500000):∃(t:Ts) (n':Nat) (ex:List Int),t.Wf ab/\t.size=m/\t.dep+deep<=3/\n'<=n+12*m/\a8 14 [1,4] (ZB R) [T4 ns,V7 n,.int m,.int deep,sD ab.length zs,.int room]=b3 (.tup t.dats,[V7 n',sD (ab.length+m) (if deep=0 then zs++ex else zs)]):=by
 obtain⟨t,n',ex,A,y,d',x,w,g',o,l,k,j,e⟩:=IH (R:=R) hl q d hd s m m (n:=n) (rows:=[]) (Ax _) hz b hk (by simp;lia) r (.va (.int zs.length)) .no .no .no .no .no .no;refine⟨t,n',ex,o,l,k,j,?_⟩;have e:=ku e;rw[Cv]at e;have c:((zs++ex).map cT.int).length=zs.length+ex.length:=by simp
 have tk:((zs++ex).map cT.int).take (zs++ex).length=(zs++ex).map .int:=UZ;have u:((zs++ex).map cT.int).drop (zs++ex).length=[]:=JK;have p:((zs++ex).map cT.int).take zs.length=zs.map .int:=by rw[Au];exact Lw (by simp)
 have a:=UZ (zs:=zs);have g:(zs.map cT.int).length=zs.length:=by simp
 have c0:¬(zs.length:Int)<0:=by lia
 have v:(zs.length:Int)<=(zs.length:Int)+ex.length:=by lia
 rw[cA,ZB.eq_1];simp only[MO,sD]at e⊢;generalize t.dats=T at*;by_cases h:deep=0
 ·subst h
  rw[if_pos rfl];generalize (zs++ex).map cT.int=Y at*;generalize zs.map cT.int=Z at*;generalize (zs++ex).length=i at*;rw[show((0:Nat):Int)=0 from rfl]at e⊢;simp[b7,a,g,e]
 ·have f : 0 < deep := by lia
  rw[if_neg h];generalize (zs++ex).map cT.int=Y at*;generalize zs.map cT.int=Z at*;generalize (zs++ex).length=i at*;simp[b7,a,g,e,f,tk,u,p,c,v]
theorem B8(hl:ns.length<=63)(i:0<room)(b:room<=64):∀(q deep:Nat),3<=deep+q->deep<=3->0<deep->RSp ns room deep (aK (q+1))
 |0,deep,k,hd,l=>λab zs n m hz a hk j=>by obtain⟨t,n',ex,g,f,d,c,e⟩:=MH (R:=aK 0) hl i b hd (λh=>by lia) hz a hk j;rw[if_neg (by lia)]at e;exact⟨t,n',g,f,d,c,e⟩
 |q+1,deep,k,hd,l=>λab zs n m hz a hk j=>by obtain⟨t,n',ex,g,f,d,c,e⟩:=MH (R:=aK (q+1)) hl i b hd (λh=>B8 hl i b q (deep+1) (by lia) (by lia) (by lia)) hz a hk j;rw[if_neg (by lia)]at e;exact⟨t,n',g,f,d,c,e⟩
def kB(hl:ns.length<=63)(b:0<room)(a:room<=64){n m:Nat}(j:m<=20)(i:n+12*m<500000):∃(t:Ts) (n':Nat) (d:cT),t.Wf []/\t.size=m/\t.dep<=3/\n'<=n+12*m/\aK 8 [T4 ns,V7 n,.int m,.int 0,.nst [b5,b3 0] [.int 0],.int room]=b3 (.tup t.dats,[V7 n',d]):=by obtain⟨t,n',ex,g,f,k,c,e⟩:=MH (R:=aK 7) (deep:=0) (ab:=[]) (zs:=[]) hl b a (by lia) (λh=>B8 hl b a 6 1 (by lia) (by lia) (by lia)) (λ_ h=>nomatch h) (Ax _) (by simpa using j) i;exact⟨t,n',_,g,f,by lia,c,e⟩
def cY(hl:ns.length<=63){n:Nat}(w:n<1000):∃(sure:Int) (t:Ts) (n':Nat),t.Wf []/\t.size<=20/\t.dep<=3/\0<=sure/\sure<=64/\n'<=n+300/\T1 [T4 ns,V7 n,.int 20]=b3 (.tup [.int sure,.tup t.dats],[V7 n']):=by
 obtain⟨x,d,ex⟩:=UH ns n [.int 3,.int 6,.int 64] hl (by lia) (by simp);obtain⟨room,rfl,j,i⟩:∃q:Int,x=.int q/\0<q/\q<=64:=by simp only[Ar,Br,or_false]at d;rcases d with rfl|rfl|rfl<;>exact⟨_,rfl,by lia,by lia⟩
 have e:=YL ns (n+1) 21 hl (by lia) (by lia);have l:=QV ns (n+1) (b:=21) (by lia);have k:=NN ns (n+1) (b:=21) (by lia);obtain⟨m,o⟩:=Hv l;rw[o]at e k;obtain⟨t,a,dd,g,v,f,u,r⟩:=kB (ns:=ns) (n:=n+1+1) (m:=m) hl j i (by lia) (by lia);have s:=YL ns a (room+1) hl (by lia) (by lia);have q0:=QV ns a (b:=room+1) (by lia);have q1:=NN ns a (b:=room+1) (by lia);obtain⟨y,c,p⟩:=UH ns (a+1) [.int 0,.int room,.int (JL ns a (room+1))] hl (by lia) (by simp);obtain⟨sure,rfl,h,s1⟩:∃q:Int,y=.int q/\0<=q/\q<=64:=by simp only[Ar,Br,or_false]at c;rcases c with rfl|rfl|rfl<;>exact⟨_,rfl,by lia,by lia⟩
 refine⟨sure,t,a+1+1,g,by lia,f,h,s1,by lia,?_⟩;generalize JL ns a (room+1)=z at*;generalize t.dats=T at*;unfold T1;rw[cA];unfold QJ;simp[b7,ex,e,r,s,p]
end
noncomputable def Fl(L N:List cT):cT:=.flt "Flat" "laid" "numbers" L.length (L++N)
section
variable{x f g:Sb}{b:Bool}{i n:Nat}{δ:Ev}{d:cT}{es L N:List cT}{fs:R8}{gs:WO}{mF:List Nat}{F:cB}
noncomputable def qFA(x f g:Sb)(b:Bool)(δ:Ev):Option Sl->Option (cT×Ev)
 |some (.ow (.flt a c g' k ds))=>if a=x/\c=f/\g'=g then b3 (.lst (if b then ds.take k else ds.drop k),δ)else b5
 |_=>b5
@[simp] theorem fA_e:fA x f g b i δ=qFA x f g b δ δ[i]? :=rfl
@[simp] theorem uH:qFA "Flat" "laid" "numbers" ba δ (b3 (.ow (Fl L N)))=b3 (.lst L,δ):=by simp[qFA,Fl]
@[simp] theorem nW:qFA "Flat" "laid" "numbers" bb δ (b3 (.ow (Fl L N)))=b3 (.lst N,δ):=by simp[qFA,Fl]
def qS3(x f g:Sb)(b:Bool)(i:Nat)(es:List cT)(δ:Ev)(s:Option Sl):Option Ou:=(match s with
 |some (.ow (.flt a c g' k ds))=>if a=x/\c=f/\g'=g then b3 (k,ds)else b5
 |_=>b5).bind λz=>match es with
 |[d]=>if z.2.length<16777216 then b3 (.nx (δ.set i (.ow (.flt x f g (UV b z.1 z.2 d).1 (UV b z.1 z.2 d).2))))else b5
 |_=>b5
def qS2(x f g:Sb)(b:Bool)(i:Nat)(r:Option (List cT×Ev)):Option Ou:=r.bind λr=>qS3 x f g b i r.1 r.2 r.2[i]?
noncomputable def qS1(x f g:Sb)(b:Bool)(i:Nat)(fs:R8)(δ:Ev)(s:Option Sl):Option Ou:=(match s with
 |some (.ow (.flt a c g' k ds))=>if a=x/\c=f/\g'=g then b3 (k,ds)else b5
 |_=>b5:Option (Nat×List cT)).bind λ_=>qS2 x f g b i (fs δ)
@[simp] theorem t5:NW x f g b i fs δ=qS1 x f g b i fs δ δ[i]? :=rfl
@[simp] theorem u9:qS1 "Flat" "laid" "numbers" b i fs δ (b3 (.ow (Fl L N)))=qS2 "Flat" "laid" "numbers" b i (fs δ):=by simp[qS1,Fl]
@[simp] theorem tq:qS2 x f g b i (b3 (es,δ))=qS3 x f g b i es δ δ[i]? :=rfl
@[simp] theorem uM:qS3 "Flat" "laid" "numbers" ba i [d] δ (b3 (.ow (Fl L N)))=if L.length+N.length<16777216 then b3 (.nx (δ.set i (.ow (Fl (L++[d]) N))))else b5:=by simp[qS3,Fl,UV]
@[simp] theorem sx:qS3 "Flat" "laid" "numbers" bb i [d] δ (b3 (.ow (Fl L N)))=if L.length+N.length<16777216 then b3 (.nx (δ.set i (.ow (Fl L (N++[d])))))else b5:=by simp[qS3,Fl,UV]
def qCM(x f g:Sb)(i n:Nat)(mF:List Nat)(F:cB)(gs:WO)(δ:Ev)(s:Option Sl):Option (cT×Ev):=(match s with
 |some (.ow (.flt a b g' k ds))=>if a=x/\b=f/\g'=g then b3 (k,ds)else b5
 |_=>b5:Option (Nat×List cT)).bind λ_=>cE n mF F (aO i gs) δ
@[simp] theorem pU:ZT x f g i n mF F gs δ=qCM x f g i n mF F gs δ δ[i]? :=rfl
@[simp] theorem qN:qCM "Flat" "laid" "numbers" i n mF F gs δ (b3 (.ow (Fl L N)))=cE n mF F (aO i gs) δ:=by simp[qCM,Fl]
@[simp] theorem pQ:E8 "Flat" "laid" "numbers" δ=b3 (Fl [] [],δ):=rfl
end
section
variable{L N:List cT}{m c row:cT}
def UC(hl:L.length+N.length<16777216):ZW [Fl L N,row]=b3 (.int L.length,[Fl (L++[row]) N]):=by unfold ZW;rw[cA];unfold QD;simp[b7,hl]
def GY(hl:L.length+N.length<16777216):YD [Fl L N,m,c]=b3 (.int L.length,[Fl (L++[.tup [.str "pick",m,c,.int 0]]) N]):=by unfold YD;rw[cA];unfold SD;simp[b7,UC hl,G2]
end
noncomputable def US(q:Rw)(m:Int):List Rw:=match q with
 |.take _ c _=>[.pick m c 0]
 |.put _ _ c=>[.pick m c 0]
 |.two x _ b=>if x= "over" then[.pick m b 1]else[]
 |_=>[]
noncomputable def U9(q:Rw)(m k:Int):Rw:=match q with
 |.load p=>.take p m m
 |.take p _ a=>.take p k a
 |.store p a=>.put p a m
 |.put p a _=>.put p a k
 |.two x a b=>if x= "over" then .two x a k else .two x a b
 |q=>q
def iW{M:Int->Prop}{q:Rw}{L N:List cT}{m:Int}(h:q.Ok M)(hl:L.length+N.length<16777216):W9 [Fl L N,q.dat,.int m]=b3 ((U9 q m L.length).dat,[Fl (L++(US q m).map Rw.dat) N]):=by
 unfold W9;rw[cA];unfold U6;cases q with
 |num n=>simp[b7,Rw.dat,U9,US]
 |two x a b=>
  obtain⟨d,_⟩:=h;have j:=(EI d (y:= "load") (by decide)).1;have i:=(EI d (y:= "take") (by decide)).1;have g:=(EI d (y:= "store") (by decide)).1;have f:=(EI d (y:= "put") (by decide)).1;by_cases e:x= "over"
  ·subst e
   simp[b7,Rw.dat,U9,US,UC hl,AT]
  ·simp[b7,Rw.dat,U9,US,j,i,g,f,e]
 |pick c a b=>simp[b7,Rw.dat,U9,US]
 |load p=>simp[b7,Rw.dat,U9,US]
 |take p c a=>simp[b7,Rw.dat,U9,US,GY hl]
 |store p a=>simp[b7,Rw.dat,U9,US]
 |put p a c=>simp[b7,Rw.dat,U9,US,GY hl]
def eE{f:Int->Int}{r:Rw}:T3 [r.dat,.lst ((r.nms.map f).map .int)]=b3 ((r.ren f).dat,[]):=by
 cases r<;>kernel_rfl
noncomputable def mD:Option Int->cT
 |none=>.non
 |some m=>.int m
def HU(m:Option Int)(q:Rw)(k:Nat):List Rw:=match m with
 |none=>[q]
 |some m=>US q m++[U9 q m k]
def FT(m:Option Int)(q:Rw)(k:Nat):Nat:=match m with
 |none=>k
 |some m=>k+(US q m).length
section
variable{m:Option Int}{q r:Rw}{k:Nat}{ab bab:List Bool}{N:List cT}{rs L hd s1 s2:List Rw}{R:cB}{tl:List cT}{c:Int}
def FR{m:Int}:(US q m).length<=1:=by
 unfold US;split
 ·simp
 ·simp
 ·split<;>simp
 ·simp
def BK:k+(HU m q k).length=FT m q k+1:=by
 cases m with
 |none=>rfl
 |some m=>simp[HU,FT];lia
def Ue:k<=FT m q k/\FT m q k<=k+1:=by
 cases m with
 |none=>simp[FT]
 |some m=>
  have:=FR (q:=q) (m:=m)
  simp[FT];lia
def iR{m k:Int}:(U9 q m k).mk=q.mk:=by
 cases q with
 |two x a b=>unfold U9;simp only;split<;>rfl
 |_=>rfl
def iz:∃pre a,HU m q k=pre++[a]/\a.mk=q.mk/\k+pre.length=FT m q k:=by
 cases m with
 |none=>exact⟨[],q,rfl,rfl,rfl⟩
 |some m=>exact⟨US q m,U9 q m k,rfl,iR,rfl⟩
structure Nr(ab:List Bool)(N:List cT)(bab:List Bool):Prop where
 len:N.length=ab.length
 nm:∀a,Ab ab a->UR N a=b3 (.int (wv N a))/\Ab bab (wv N a)
def Nr.nil:Nr [] [] bab:=⟨rfl,λa h=>by have:=h.2;simp at this⟩
def Nr.lt{a:Int}(Q:Nr ab N bab)(h:Ab ab a):a<N.length:=by have:=h.lt;rw[Q.len];exact this
def Nr.app{b:List Bool}(Q:Nr ab N bab):Nr ab N (bab++b):=⟨Q.len,λa h=>⟨(Q.nm a h).1,(Q.nm a h).2.app⟩⟩
def Nr.offs{es:List cT}{bs:List Bool}(Q:Nr ab N bab)(hl:es.length=bs.length)(d:∀b∈bs,b=bb):Nr (ab++bs) (N++es) bab:=by
 refine⟨by simp[Q.len,hl],λa c=>?_⟩;by_cases hi:a.toNat<ab.length
 ·have h1 : Ab ab a := ⟨c.1,by have := c.2;rwa [Ah hi]at this⟩
  rw[N3 h1.1 (Q.lt h1),ZO h1.1 (Q.lt h1)];exact Q.nm a h1
 ·have e:=c.2
  rw[Am (by lia)]at e;exact absurd (d _ (Cm e)) (by simp)
def Nr.step(Q:Nr ab N bab)(c:q.mk=r.mk):Nr (ab++[r.mk]) (N++[.int (FT m q bab.length)]) (bab++(HU m q bab.length).map Rw.mk):=by
 obtain⟨pre,j,g,f,i⟩:=iz (m:=m) (q:=q) (k:=bab.length);refine⟨by simp[Q.len],λa e=>?_⟩;rcases e.inv with h|⟨h,d⟩
 ·rw[N3 h.1 (Q.lt h),ZO h.1 (Q.lt h)]
  exact⟨(Q.nm a h).1,(Q.nm a h).2.app⟩
 ·have b : a = N.length := by rw [h,Q.len]
  rw[GX b,YZ b];refine⟨rfl,by lia,?_⟩;rw[g,Au,<-Av,Am (by simp;lia)];have:(FT m q bab.length:Int).toNat-(bab++List.map Rw.mk pre).length=0:=by simp;lia
  rw[this];simp[f,c,d]
def nQ{as:List Int}(L:List cT)(c:as.length<=3)(h:∀a∈as,UR N a=b3 (.int (wv N a))):ZJ 1 1 (gN 1) U2 (f2 bV (fA "Flat" "laid" "numbers" bb 0) (fV 1)) (as.map .int) [] [.ow (Fl L N)]=b3 ((as.map (wv N)).map .int,[.ow (Fl L N)]):=by
 rw[O9 1 _ [.ow (Fl L N)] (fW N) rfl _ [] (λe b=>?_) (by simp;lia),Xc]
 ·rfl
 ·obtain⟨a,d,rfl⟩:=Ek.mp b
  simp[h a d,fW]
def la(h:r.Ok (Ab ab))(Q:Nr ab N bab)(hl:L.length+N.length<1000000)(rows:cT)(s:Sl):bE R [.ow (Fl (L.map Rw.dat) N),.va rows,.va (mD m),.va r.dat,s]=b3 (.nx [.ow (Fl ((L++HU m (r.ren (wv N)) L.length).map Rw.dat) (N++[.int (FT m (r.ren (wv N)) L.length)])),.va rows,.va (mD m),.va r.dat,.va (r.ren (wv N)).dat]):=by
 have hi:=h.noif;have e:=h.names.1;have d:=nQ (N:=N) (L.map Rw.dat) Rw.nl λa j=>(Q.nm a (h.nm a j)).1;have b:=eE (f:=wv N) (r:=r);have i:(r.ren (wv N)).Ok (λ_=>True):=h.ren λ_ _=>trivial;generalize (r.nms.map (wv N)).map cT.int=zs at d b;generalize r.ren (wv N)=q at*;have h1:L.length+N.length<16777216:=by lia
 have h2:L.length+1+N.length<16777216:=by lia
 cases m with
 |none=>
  have c:=UC (L:=L.map Rw.dat) (N:=N) (row:=q.dat) (by simpa using h1);unfold bE;simp[e,Z8,d,b,hi,mD,c,h2,HU,FT]
 |some m=>
  have l:=FR (q:=q) (m:=m);have g:=iW (m:=m) (L:=L.map Rw.dat) (N:=N) i (by simpa using h1);have c:=UC (L:=L.map Rw.dat++(US q m).map Rw.dat) (N:=N) (row:=(U9 q m L.length).dat) (by simp;lia);have k:L.length+((US q m).length+1)+N.length<16777216:=by lia
  unfold bE;simp only[Ba]at g;simp[e,Z8,d,b,hi,mD,g,c,k,HU,FT]
end
noncomputable def fl:Ts->Option Int->List Rw->List cT->List Rw×List cT
 |.nil,_,L,N=>(L,N)
 |.row r t,m,L,N=>fl t m (L++HU m (r.ren (wv N)) L.length) (N++[.int (FT m (r.ren (wv N)) L.length)])
 | .ifs c a b t,m,L,N=>
  fl t m (fl b (b3 (fl a (b3 L.length) (L++[.pick (m.getD 1) (wv N c) 0]) (N++[.non])).1.length) ((fl a (b3 L.length) (L++[.pick (m.getD 1) (wv N c) 0]) (N++[.non])).1++[.pick (wv N c) 0 (m.getD 1)]) (fl a (b3 L.length) (L++[.pick (m.getD 1) (wv N c) 0]) (N++[.non])).2).1
   (fl b (b3 (fl a (b3 L.length) (L++[.pick (m.getD 1) (wv N c) 0]) (N++[.non])).1.length) ((fl a (b3 L.length) (L++[.pick (m.getD 1) (wv N c) 0]) (N++[.non])).1++[.pick (wv N c) 0 (m.getD 1)]) (fl a (b3 L.length) (L++[.pick (m.getD 1) (wv N c) 0]) (N++[.non])).2).2
abbrev flA(c:Int)(a:Ts)(m:Option Int)(L:List Rw)(N:List cT):List Rw×List cT:=fl a (b3 L.length) (L++[.pick (m.getD 1) (wv N c) 0]) (N++[.non])
abbrev C9(c:Int)(b:Ts)(m:Option Int)(N:List cT)(p:List Rw×List cT):List Rw×List cT:=fl b (b3 p.1.length) (p.1++[.pick (wv N c) 0 (m.getD 1)]) p.2
def FA{c:Int}{a b t:Ts}{m:Option Int}{L:List Rw}{N:List cT}:fl (.ifs c a b t) m L N=fl t m (C9 c b m N (flA c a m L N)).1 (C9 c b m N (flA c a m L N)).2:=by rw[fl]
def Nr.weak{ab b bab:List Bool}{N:List cT}(Q:Nr ab N bab)(hl:b.length=ab.length)(h:∀a,Ab b a->Ab ab a):Nr b N bab:=⟨Q.len.trans hl.symm,λa c=>Q.nm a (h a c)⟩
structure Fls(t:Ts)(ab:List Bool)(L:List Rw)(N:List cT)(p:List Rw×List cT):Prop where
 ext:∃ex,p.1=L++ex/\ex.length<=2*t.size
 num:∃ey,p.2=N++ey/\ey.length=t.size
 nr:Nr (t.sgt ab) p.2 (p.1.map Rw.mk)
 ion:(∀d∈N,ioN d=ba)->∀d∈p.2,ioN d=ba
def YU{a:Ts}{ab:List Bool}(x:Int)(h:Ab (ab++aJ a.size) x):Ab (a.sgt ab) x:=Ts.sgt_ab h.offs
theorem Q8:∀{t:Ts}{ab:List Bool}{m:Option Int}{L:List Rw}{N:List cT},Nr ab N (L.map Rw.mk)->Fls t ab L N (fl t m L N)
 |.nil,ab,m,L,N,Q=>⟨⟨[],by simp[fl],by simp⟩,⟨[],by simp[fl],rfl⟩,Q,λh=>h⟩
 | .row r t,ab,m,L,N,Q => by
  have e:=Q.step (m:=m) (q:=r.ren (wv N)) (r:=r) Rw.ren_mk;rw[Ba,<-Au]at e;obtain⟨⟨ex,u,x⟩,⟨w,s,v⟩,k,y⟩:=Q8 (t:=t) (m:=m) e;have D:=BK (m:=m) (q:=r.ren (wv N)) (k:=L.length);have C:=Ue (m:=m) (q:=r.ren (wv N)) (k:=L.length);rw[fl];refine⟨⟨_,by rw[u,Av],?_⟩,⟨_,by rw[s,Av],?_⟩,k,λh=>y λd hd=>?_⟩
  ·simp only[Ao,Ts.size];lia
  ·simp[Ts.size,v];lia
  ·rcases Ci.mp hd with z|z
   ·exact h d z
   ·rw[Al.mp z];rfl
 | .ifs c a b t,ab,m,L,N,Q => by
  rw[FA];have J:Nr (ab++[bb]) (N++[.non]) ((L++[Rw.pick (m.getD 1) (wv N c) 0]).map Rw.mk):=by rw[Au];exact(Q.offs (es:=[.non]) (bs:=[bb]) rfl (by simp)).app
  have f1:=Q8 (t:=a) (m:=b3 L.length) J;have B:flA c a m L N=fl a (b3 L.length) (L++[Rw.pick (m.getD 1) (wv N c) 0]) (N++[.non]):=rfl;rw[<-B]at f1;generalize flA c a m L N=p at f1⊢;obtain⟨⟨ex,u,x⟩,⟨w,s,v⟩,k1,i⟩:=f1;have e:Nr (ab++[bb]++aJ a.size) p.2 ((p.1++[Rw.pick (wv N c) 0 (m.getD 1)]).map Rw.mk):=by rw[Au];exact(k1.weak (by rw[Ts.sgt_len,Ao,Bp]) YU).app
  have f2:=Q8 (t:=b) (m:=b3 p.1.length) e;have A:C9 c b m N p=fl b (b3 p.1.length) (p.1++[Rw.pick (wv N c) 0 (m.getD 1)]) p.2:=rfl;rw[<-A]at f2;generalize C9 c b m N p=q at f2⊢;obtain⟨⟨o,H,P⟩,⟨l,G,O⟩,k2,g⟩:=f2;have I:Nr (ab++[bb]++aJ a.size++aJ b.size) q.2 (q.1.map Rw.mk):=k2.weak (by rw[Ts.sgt_len,Ao,Bp]) YU;obtain⟨⟨n,F,M⟩,⟨j,E,K⟩,k3,f⟩:=Q8 (t:=t) (m:=m) I;refine⟨⟨[Rw.pick (m.getD 1) (wv N c) 0]++ex++[Rw.pick (wv N c) 0 (m.getD 1)]++o++n,by rw[F,H,u];simp,?_⟩,⟨[.non]++w++l++j,by rw[E,G,s];simp,?_⟩,k3,λh=>f (g (i λd hd=>?_))⟩
  ·simp[Ts.size];lia
  ·simp[Ts.size];lia
  ·rcases Ci.mp hd with z|z
   ·exact h d z
   ·rw[Al.mp z];rfl
section
variable{m:Option Int}{ab:List Bool}{N:List cT}{L:List Rw}
def DH{n:Nat}{t:Ts}(h:∀rows s s',∃u a,YC (gN 3) (bE (bX n)) (t.dats++[]) [.ow (Fl (L.map Rw.dat) N),.va rows,.va (mD m),s,s']=YC (gN 3) (bE (bX n)) [] [.ow (Fl ((fl t m L N).1.map Rw.dat) (fl t m L N).2),.va rows,.va (mD m),u,a]):bX (n+1) [Fl (L.map Rw.dat) N,.tup t.dats,mD m]=b3 (.non,[Fl ((fl t m L N).1.map Rw.dat) (fl t m L N).2]):=by show a8 5 [0] (Y9 (bX n)) _=_;obtain⟨u,a,e⟩:=h (.tup t.dats) .no .no;rw[Bi]at e;generalize (fl t m L N).1.map Rw.dat=A at*;generalize (fl t m L N).2=B at*;generalize L.map Rw.dat=C at*;generalize t.dats=D at*;rw[cA,Y9.eq_1];simp[b7,e]
def j4{R:cB}{c:Int}{a b:Ts}{d:Int}(r:m.getD 1=d)(e:UR N c=b3 (.int (wv N c)))(hl:L.length+N.length+3*(a.size+b.size)<1000000){p q:List Rw×List cT}(o:flA c a m L N=p)(n:C9 c b m N p=q)(h1:p.1.length+p.2.length<10000000)(l:R [Fl ((L++[Rw.pick d (wv N c) 0]).map Rw.dat) (N++[.non]),.tup a.dats,.int L.length]=b3 (.non,[Fl (p.1.map Rw.dat) p.2]))(k:R [Fl ((p.1++[Rw.pick (wv N c) 0 d]).map Rw.dat) p.2,.tup b.dats,.int p.1.length]=b3 (.non,[Fl (q.1.map Rw.dat) q.2])):Y7 R [Fl (L.map Rw.dat) N,.tup [.str "if",.int c,.tup a.dats,.tup b.dats],.int d]=b3 (.non,[Fl (q.1.map Rw.dat) q.2]):=by
 have g:=GY (L:=L.map Rw.dat) (N:=N++[.non]) (m:=.int d) (c:=.int (wv N c)) (by simp;lia);have f:=UC (L:=p.1.map Rw.dat) (N:=p.2) (row:=.tup [.str "pick",.int (wv N c),.int 0,.int d]) (by simp;lia);have i:L.map Rw.dat++[.tup [.str "pick",.int d,.int (wv N c),.int 0]]=(L++[Rw.pick d (wv N c) 0]).map Rw.dat:=by simp[Rw.dat]
 have h:p.1.map Rw.dat++[.tup [.str "pick",.int (wv N c),.int 0,.int d]]=(p.1++[Rw.pick (wv N c) 0 d]).map Rw.dat:=by simp[Rw.dat]
 rw[i,Ba]at g;rw[h,Ba]at f;have j:(L.map Rw.dat).length+N.length<16777216:=by simp;lia
 generalize (L++[Rw.pick d (wv N c) 0]).map Rw.dat=y at*;generalize (p.1++[Rw.pick (wv N c) 0 d]).map Rw.dat=x at*;generalize q.1.map Rw.dat=A4 at*;generalize q.2=u at*;generalize p.1.map Rw.dat=w at*;generalize p.2=v at*;generalize (p.1.length:Int)=k2 at*;generalize L.map Rw.dat=z at*;generalize (L.length:Int)=k0 at*;generalize a.dats=t at*;generalize b.dats=s at*;unfold Y7;rw[cA];unfold U5;simp[b7,e,j,g,l,f,k,G2]
end
theorem SM:∀{t:Ts}{n:Nat}{ab:List Bool}{N:List cT}{L:List Rw}{m:Option Int}{tl:List cT},t.dep<=n->t.Wf ab->Nr ab N (L.map Rw.mk)->L.length+N.length+3*t.size<1000000->∀rows s s',∃u e,YC (gN 3) (bE (bX n)) (t.dats++tl) [.ow (Fl (L.map Rw.dat) N),.va rows,.va (mD m),s,s']=YC (gN 3) (bE (bX n)) tl [.ow (Fl ((fl t m L N).1.map Rw.dat) (fl t m L N).2),.va rows,.va (mD m),u,e]
 |.nil,n,ab,N,L,m,tl,_,_,_,_,rows,s,s'=>⟨s,s',by simp[Ts.dats,fl]⟩
 |.row r t,n,ab,N,L,m,tl,hd,⟨h1,h2⟩,Q,hk,rows,s,s'=>by simp only[Ts.size]at hk;simp only[Ts.dep]at hd;have st:=la (R:=bX n) (m:=m) (L:=L) h1 Q (by lia) rows s';have f:=Q.step (m:=m) (q:=r.ren (wv N)) (r:=r) Rw.ren_mk;rw[Ba,<-Au]at f;have G:=BK (m:=m) (q:=r.ren (wv N)) (k:=L.length);have F:=Ue (m:=m) (q:=r.ren (wv N)) (k:=L.length);obtain⟨u,e,g⟩:=SM (t:=t) (tl:=tl) hd h2 f (by simp;lia) rows (.va r.dat) (.va (r.ren (wv N)).dat);refine⟨u,e,?_⟩;have s1:([.ow (Fl (L.map Rw.dat) N),.va rows,.va (mD m),s,s']:Ev).set 3 (.va r.dat)=[.ow (Fl (L.map Rw.dat) N),.va rows,.va (mD m),.va r.dat,s']:=rfl;rw[show(Ts.row r t).dats++tl=r.dat::(t.dats++tl) from rfl,U4,LI,Q5,s1,st,NU,g,fl]
 |.ifs c a b t,0,ab,N,L,m,tl,hd,_,_,_,rows,s,s'=>by simp only[Ts.dep]at hd;lia
 | .ifs c a b t,n + 1,ab,N,L,m,tl,hd,⟨hc,h1,h2,H⟩,Q,hk,rows,s,s' => by
  simp only[Ts.size]at hk;simp only[Ts.dep]at hd;have o:Nr (ab++[bb]) (N++[.non]) ((L++[Rw.pick (m.getD 1) (wv N c) 0]).map Rw.mk):=by rw[Au];exact(Q.offs (es:=[.non]) (bs:=[bb]) rfl (by simp)).app
  have f1:=Q8 (t:=a) (m:=b3 L.length) o;have l:=DH (t:=a) (n:=n) (m:=b3 L.length) λrows s s'=>SM (tl:=[]) (by lia) h1 o (by simp;lia) rows s s';have E:flA c a m L N=fl a (b3 L.length) (L++[Rw.pick (m.getD 1) (wv N c) 0]) (N++[.non]):=rfl;rw[FA];rw[<-E]at f1 l;generalize i:flA c a m L N=p at f1 l⊢;obtain⟨⟨ex,C,U⟩,⟨V,z,T⟩,k1,_⟩:=f1;have O:p.1.length<=L.length+1+2*a.size/\p.2.length=N.length+1+a.size:=by rw[C,z];simp;lia
  have f:Nr (ab++[bb]++aJ a.size) p.2 ((p.1++[Rw.pick (wv N c) 0 (m.getD 1)]).map Rw.mk):=by rw[Au];exact(k1.weak (by rw[Ts.sgt_len,Ao,Bp]) YU).app
  have f2:=Q8 (t:=b) (m:=b3 p.1.length) f;have j:=DH (t:=b) (n:=n) (m:=b3 p.1.length) λrows s s'=>SM (tl:=[]) (by lia) h2 f (by simp;lia) rows s s';have D:C9 c b m N p=fl b (b3 p.1.length) (p.1++[Rw.pick (wv N c) 0 (m.getD 1)]) p.2:=rfl;rw[<-D]at f2 j;generalize h:C9 c b m N p=q at f2 j⊢;obtain⟨⟨J,y,S⟩,⟨I,x,P⟩,k2,_⟩:=f2;have M:q.1.length<=L.length+2+2*a.size+2*b.size/\q.2.length=N.length+1+a.size+b.size:=by rw[y,x];simp;lia
  have K:Nr (ab++[bb]++aJ a.size++aJ b.size) q.2 (q.1.map Rw.mk):=k2.weak (by rw[Ts.sgt_len,Ao,Bp]) YU;have d:=j4 (R:=bX (n+1)) (m:=m) (L:=L) (N:=N) (c:=c) (a:=a) (b:=b) rfl (Q.nm c hc).1 (by lia) i h (by lia) l j;obtain⟨u,e,g⟩:=SM (t:=t) (n:=n+1) (m:=m) (tl:=tl) (by lia) H K (by lia) rows (.va (.tup [.str "if",.int c,.tup a.dats,.tup b.dats])) s';refine⟨u,e,?_⟩;have s1:([.ow (Fl (L.map Rw.dat) N),.va rows,.va (mD m),s,s']:Ev).set 3 (.va (.tup [.str "if",.int c,.tup a.dats,.tup b.dats]))=[.ow (Fl (L.map Rw.dat) N),.va rows,.va (mD m),.va (.tup [.str "if",.int c,.tup a.dats,.tup b.dats]),s']:=rfl;have st:bE (bX (n+1)) [.ow (Fl (L.map Rw.dat) N),.va rows,.va (mD m),.va (.tup [.str "if",.int c,.tup a.dats,.tup b.dats]),s']=b3 (.nx [.ow (Fl (q.1.map Rw.dat) q.2),.va rows,.va (mD m),.va (.tup [.str "if",.int c,.tup a.dats,.tup b.dats]),s']):=by
   generalize q.1.map Rw.dat=A at*;generalize L.map Rw.dat=B at*;generalize a.dats=w at*;generalize b.dats=v at*;unfold bE;cases m with
   |none=>
    have d:Y7 (bX (n+1)) [Fl B N,.tup [.str "if",.int c,.tup w,.tup v],.int 1]=_:=d;simp[mD,AT,d]
   |some k=>
    have d:Y7 (bX (n+1)) [Fl B N,.tup [.str "if",.int c,.tup w,.tup v],.int k]=_:=d;simp[mD,d]
  rw[show(Ts.ifs c a b t).dats++tl=.tup [.str "if",.int c,.tup a.dats,.tup b.dats]::(t.dats++tl) from rfl,U4,LI,Q5,s1,st,NU,g]
def Ts.hasIf:Ts->Bool
 |.nil=>bb
 |.row _ t=>t.hasIf
 |.ifs _ _ _ _=>ba
noncomputable def L0(t:Ts):List Rw:=if t.hasIf=ba then[.num 0,.num 1]else[]
abbrev Lf(t:Ts):List Rw:=(fl t b5 (L0 t) []).1
abbrev Nf(t:Ts):List cT:=(fl t b5 (L0 t) []).2
def Ts.isIs:Ts->List Bool
 |.nil=>[]
 |.row _ t=>bb::t.isIs
 |.ifs _ _ _ t=>ba::t.isIs
theorem LS:∀{t:Ts},t.isIs.any id=t.hasIf
 |.nil=>rfl
 |.row _ t=>LS (t:=t)
 |.ifs _ _ _ _=>rfl
theorem CZ:∀bs:List Bool,N6 (bs.map .bl)=b3 bs
 |[]=>rfl
 |b::bs=>by rw[Be,kM,CZ bs];rfl
theorem PH:∀{t:Ts}{ab:List Bool},t.Wf ab->∀acc,acc.length+t.size<1000->ZJ 0 1 (gN 0) U2 (f2 YK (f2 bV (fV 0) (fC (.int 0))) (fC (.str "if"))) t.dats acc []=b3 (acc++t.isIs.map .bl,[])
 |.nil,ab,_,acc,_=>by simp[Ts.dats,Ts.isIs]
 |.row r t,ab,⟨h1,h2⟩,acc,hk=>by
  simp only[Ts.size]at hk;have d:=PH (t:=t) h2 (acc++[.bl bb]) (by simp;lia);have f:=h1.noif;have e:acc.length<16777216:=by lia
  simp[Ts.dats,Ts.isIs,f,e,K2,d]
 |.ifs c a b t,ab,⟨_,_,_,g⟩,acc,hk=>by
  simp only[Ts.size]at hk;have d:=PH (t:=t) g (acc++[.bl ba]) (by simp;lia);have e:acc.length<16777216:=by lia
  simp[Ts.dats,Ts.isIs,e,K2,d]
def nr0{t:Ts}:Nr [] [] ((L0 t).map Rw.mk):=Nr.nil
def Wn{t:Ts}:(Lf t).length<=2+2*t.size/\(Nf t).length=t.size:=by
 obtain⟨⟨ex,b,d⟩,⟨f,a,c⟩,_,_⟩:=Q8 (t:=t) (m:=b5) (nr0 (t:=t));have e:(L0 t).length<=2:=by unfold L0;split<;>simp
 unfold Lf Nf;rw[b,a];simp;lia
section
variable{t:Ts}{sure:Int}
def nw:(L0 t).length<=2:=by unfold L0;split<;>simp
def BJ(hd:t.dep<=3)(h:t.Wf [])(hk:t.size<=20):bX 8 [Fl ((L0 t).map Rw.dat) [],.tup t.dats,.non]=b3 (.non,[Fl ((Lf t).map Rw.dat) (Nf t)]):=
 DH (t:=t) (n:=7) (m:=b5) λrows s s'=>SM (L:=L0 t) (tl:=[]) (by lia) h nr0 (by
  have:=nw (t:=t)
  simp only[Ja];lia) rows s s'
def cW(hd:t.dep<=3)(h:t.Wf [])(hk:t.size<=20)(j:0<=sure)(s1:sure<=64)(l:(Lf t).length<=40):ZG [.tup [.int sure,.tup t.dats]]=b3 (.tup [.tup [.int sure,.tup ((Lf t).map Rw.dat)],.lst (Nf t)],[]):=by
 have g:=Uf hd h hk j s1;have c:=PH h [] (by simp;lia);have i:=CZ t.isIs;have b:=LS (t:=t);have a:=BJ hd h hk;have e:=UC (L:=[]) (N:=[]) (row:=.tup [.str "number",.int 0]) (by simp);have d:=UC (L:=[.tup [.str "number",.int 0]]) (N:=[]) (row:=.tup [.str "number",.int 1]) (by simp);have f:¬(40:Int)<(((Lf t).map Rw.dat).length:Int):=by rw[Ba];lia
 simp only[Cv]at c e;simp only[Dt,Cv]at d;unfold L0 at a;generalize (Lf t).map Rw.dat=A4 at*;generalize Nf t=m at*;generalize t.dats=k at*;generalize t.isIs.map cT.bl=bs at*;generalize t.isIs=ks at*;unfold ZG;rw[cA];unfold VO;cases hi:t.hasIf with
 |true=>
  rw[hi]at b a;simp only[if_true,Be,Cf,Rw.dat]at a;simp[b7,g,Z8,c,i,b,e,d,a,Z6,f]
 |false=>
  rw[hi]at b a;simp only[Ec,if_false,Cf]at a;simp[b7,g,Z8,c,i,b,a,Z6,f]
def qS_0{g:VS}:qS b5 g=b5:=(rfl)
def Vg{ml:List Nat}:qRun ml b5=b5:=(rfl)
def gK(hd:t.dep<=3)(h:t.Wf [])(hk:t.size<=20)(j:0<=sure)(s1:sure<=64)(l:40<(Lf t).length):ZG [.tup [.int sure,.tup t.dats]]=b5/\YF [.tup [.int sure,.tup t.dats]]=b3 ((("TooLong":Sb),b5):Xw):=by
 have e:=Uf hd h hk j s1;have c:=PH h [] (by simp;lia);have f:=CZ t.isIs;have b:=LS (t:=t);have a:=BJ hd h hk;have i:=UC (L:=[]) (N:=[]) (row:=.tup [.str "number",.int 0]) (by simp);have g:=UC (L:=[.tup [.str "number",.int 0]]) (N:=[]) (row:=.tup [.str "number",.int 1]) (by simp);have d:(40:Int)<(((Lf t).map Rw.dat).length:Int):=by rw[Ba];lia
 simp only[Cv]at c i;simp only[Dt,Cv]at g;unfold L0 at a;generalize (Lf t).map Rw.dat=A4 at*;generalize Nf t=m at*;generalize t.dats=k at*;generalize t.isIs.map cT.bl=bs at*;generalize t.isIs=ks at*;unfold ZG YF runZ;rw[cA];unfold VO TH;cases hi:t.hasIf with
 |true=>
  rw[hi]at b a;simp only[if_true,Be,Cf,Rw.dat]at a;constructor
  ·simp[b7,qS_0,Vg,e,Z8,c,f,b,i,g,a,Z6,d]
  ·simp[b7,AH,IP,zIf,zNo,e,Z8,c,f,b,i,g,a,Z6,d]
 |false=>
  rw[hi]at b a;simp only[Ec,if_false,Cf]at a;constructor
  ·simp[b7,qS_0,Vg,e,Z8,c,f,b,a,Z6,d]
  ·simp[b7,AH,IP,zIf,zNo,e,Z8,c,f,b,a,Z6,d]
end
section
variable{m:Option Int}{q r:Rw}{k:Nat}{ab bab:List Bool}{N ws bw:List cT}{c:Int}{cs:List Int}{w w':Int->Int}
def K9.two{p q:Rw}(h1:p.Ok (Ab bab))(a:p.mk=ba)(h2:q.Ok (Ab (bab++[ba]))):K9 bab [p,q]:=⟨h1,by rw[a];exact h2,trivial⟩
abbrev Mks(m:Option Int)(bab:List Bool):Prop:=∀k,m=b3 k->Ab bab k/\Ab bab 0/\Ab bab 1
def DL(d:q.Ok (Ab bab))(g:Mks m bab):K9 bab (HU m q bab.length):=by
 cases m with
 |none=>exact⟨d,trivial⟩
 |some m=>
  obtain⟨h1,h2,h⟩:=g m rfl;cases q with
  |num n=>exact⟨d,trivial⟩
  |two x a b=>
   by_cases f:x= "over"
   ·subst f
    exact K9.two ⟨h1,d.2.2,h⟩ rfl ⟨d.1,d.2.1.app,Ab.new⟩
   ·have e : HU (b3 m) (.two x a b) bab.length = [.two x a b] := by simp [HU,US,U9,f]
    rw[e];exact⟨d,trivial⟩
  |pick c a b=>exact⟨d,trivial⟩
  |load p=>exact⟨⟨d,h1,h1⟩,trivial⟩
  |take p c a=>exact K9.two ⟨h1,d.2.1,h2⟩ rfl ⟨d.1,Ab.new,d.2.2.app⟩
  |store p a=>exact⟨⟨d.1,d.2,h1⟩,trivial⟩
  |put p a c=>exact K9.two ⟨h1,d.2.2,h2⟩ rfl ⟨d.1,d.2.1.app,Ab.new⟩
def Zm{f:Int->Int}:Y6 w cs (r.ren f)=Y6 (λa=>w (f a)) cs r:=by cases r<;>rfl
def dU(h:∀a∈r.nms,w a=w' a):Y6 w cs r=Y6 w' cs r:=by
 cases r with
 |num=>rfl
 |two x a b=>simp only[Y6,h a (by simp[Rw.nms]),h b (by simp[Rw.nms])]
 |pick c a b=>simp only[Y6,h a (by simp[Rw.nms]),h b (by simp[Rw.nms]),h c (by simp[Rw.nms])]
 |load=>rfl
 |take p c a=>simp only[Y6,h a (by simp[Rw.nms]),h c (by simp[Rw.nms])]
 |store p a=>simp only[Y6,h a (by simp[Rw.nms])]
 |put p a c=>simp only[Y6,h a (by simp[Rw.nms]),h c (by simp[Rw.nms])]
def QT.fin(ws:List cT)(cs:List Int):QT->KL
 |.ok m cs'=>⟨ws++[m],cs',b5⟩
 |.bad s=>⟨ws,cs,b3 s⟩
def XN:go [r] ws cs=(Y6 (wv ws) cs r).fin ws cs:=by
 cases e:Y6 (wv ws) cs r with
 |ok m cs'=>rw[JO e];rfl
 |bad s=>rw[LQ e];rfl
def OH{p:Rw}{x:Int}(h:Y6 (wv bw) cs p=.ok (.int x) cs):go [p,q] bw cs=(Y6 (wv (bw++[.int x])) cs q).fin (bw++[.int x]) cs:=by rw[JO h,XN]
def MOn(m:Option Int)(bw:List cT):Prop:=∀k,m=b3 k->wv bw k≠0
def dQ(f:q.Ok (Ab bab))(W:Ws bab bw)(i:MOn m bw):∃es,bw.length+es.length=FT m q bw.length/\go (HU m q bw.length) bw cs=(Y6 (wv bw) cs q).fin (bw++es) cs:=by
 have d:∀{x a:Int},Ab bab a->wv (bw++[.int x]) a=wv bw a:=λh=>ZO h.1 (W.lt h);cases m with
 |none=>exact⟨[],rfl,by rw[Bi];exact XN⟩
 |some m=>
  have hz:=i m rfl;cases q with
  |num n=>exact⟨[],rfl,by rw[Bi];exact XN⟩
  |two x a b=>
   by_cases g:x= "over"
   ·subst g
    refine⟨[.int (wv bw b)],rfl,?_⟩;refine(OH (p:=.pick m b 1) (q:=.two "over" a bw.length) (x:=wv bw b) (by simp[Y6,hz])).trans ?_;simp only[Y6,YZ (ws:=bw) (es:=[]) (x:=wv bw b) rfl,d f.2.1]
   ·have e : HU (b3 m) (.two x a b) bw.length = [.two x a b] := by simp [HU,US,U9,g]
    have j:FT (b3 m) (.two x a b) bw.length=bw.length:=by simp[FT,US,g]
    rw[e,j];exact⟨[],rfl,by rw[Bi];exact XN⟩
  |pick c a b=>exact⟨[],rfl,by rw[Bi];exact XN⟩
  |load p=>exact⟨[],rfl,by rw[Bi];exact XN.trans (by simp[U9,Y6,hz])⟩
  |take p c a=>
   refine⟨[.int (wv bw c)],rfl,?_⟩;refine(OH (p:=.pick m c 0) (q:=.take p bw.length a) (x:=wv bw c) (by simp[Y6,hz])).trans ?_;simp only[Y6,YZ (ws:=bw) (es:=[]) (x:=wv bw c) rfl,d f.2.2]
  |store p a=>exact⟨[],rfl,by rw[Bi];exact XN.trans (by simp[U9,Y6,hz])⟩
  |put p a c=>
   refine⟨[.int (wv bw c)],rfl,?_⟩;refine(OH (p:=.pick m c 0) (q:=.put p a bw.length) (x:=wv bw c) (by simp[Y6,hz])).trans ?_;simp only[Y6,YZ (ws:=bw) (es:=[]) (x:=wv bw c) rfl,d f.2.1]
def Z01(bw:List cT):Prop:=wv bw 0=0/\wv bw 1=1
def kI{m:Int}(d:q.Ok (Ab bab))(W:Ws bab bw)(z:wv bw m=0)(g:Z01 bw):∃es,go (HU (b3 m) q bw.length) bw cs=⟨bw++es,cs,b5⟩:=by
 obtain⟨j,k⟩:=g;have f:∀{x a:Int},Ab bab a->wv (bw++[.int x]) a=wv bw a:=λh=>ZO h.1 (W.lt h);cases q with
 |num n=>exact⟨[.int n],XN⟩
 |two x a b=>
  by_cases i:x= "over"
  ·subst i
   obtain⟨v,e⟩:=mf (W.word d.2.1).2;refine⟨[.int 1,.int v],?_⟩;refine(OH (p:=.pick m b 1) (q:=.two "over" a bw.length) (x:=1) (by simp[Y6,z,k])).trans ?_;simp only[Y6,YZ (ws:=bw) (es:=[]) (x:=1) rfl,f d.2.1,e];simp[QT.fin]
  ·have e : HU (b3 m) (.two x a b) bw.length = [.two x a b] := by simp [HU,US,U9,i]
   obtain⟨v,l⟩:=(M3 d.1 (W.word d.2.1).2 (W.word d.2.2).2).2.2.2 i;rw[e];exact⟨[.int v],XN.trans (by simp[Y6,l,QT.fin])⟩
 |pick c a b=>exact⟨_,XN⟩
 |load p=>exact⟨_,XN.trans (by simp[U9,Y6,z,QT.fin];rfl)⟩
 |take p c a=>
  refine⟨[.int 0,.int (wv bw a)],?_⟩;refine(OH (p:=.pick m c 0) (q:=.take p bw.length a) (x:=0) (by simp[Y6,z,j])).trans ?_;simp only[Y6,YZ (ws:=bw) (es:=[]) (x:=0) rfl,f d.2.2];simp[QT.fin]
 |store p a=>exact⟨_,XN.trans (by simp[U9,Y6,z,QT.fin];rfl)⟩
 |put p a c=>
  refine⟨[.int 0,.non],?_⟩;refine(OH (p:=.pick m c 0) (q:=.put p a bw.length) (x:=0) (by simp[Y6,z,j])).trans ?_;simp only[Y6,YZ (ws:=bw) (es:=[]) (x:=0) rfl];simp[QT.fin]
def Vl(ab:List Bool)(ws N bw:List cT):Prop:=∀a,Ab ab a->wv ws a=wv bw (wv N a)
def BB{rs qs:List Rw}{a:List cT}{b:List Int}(h:go rs ws cs=⟨a,b,b5⟩):go (rs++qs) ws cs=go qs a b:=by rw[DE,h];rfl
def BA{rs qs:List Rw}(h:(go rs ws cs).er≠b5):go (rs++qs) ws cs=go rs ws cs:=by rw[DE,if_neg h]
structure Dn(c0:List Int)(L:List Rw)(bw:List cT)(cs:List Int):Prop where
 wf:K9 [] L
 go:go L [] c0=⟨bw,cs,b5⟩
 ws:Ws (L.map Rw.mk) bw
def Dn.more{c0:List Int}{L R:List Rw}{bw es:List cT}{cs cs':List Int}(a:∀c∈c0,Wd c)(D:Dn c0 L bw cs)(b:K9 (L.map Rw.mk) R)(e:L2.go R bw cs=⟨bw++es,cs',b5⟩):Dn c0 (L++R) (bw++es) cs':=by
 have hw:=D.wf.app (by simpa using b);have g:L2.go (L++R) [] c0=⟨bw++es,cs',b5⟩:=(BB D.go).trans e;have k:=kept hw Ws.nil a (λ_ h=>nomatch h);rw[g]at k;have:=k.all rfl
 rw[Cv]at this;exact⟨hw,g,this⟩
def Dn.one{c0:List Int}{L:List Rw}{bw:List cT}{cs:List Int}{r:Rw}{x:Int}(a:∀c∈c0,Wd c)(D:Dn c0 L bw cs)(b:r.Ok (Ab (L.map Rw.mk)))(e:Y6 (wv bw) cs r=.ok (.int x) cs):Dn c0 (L++[r]) (bw++[.int x]) cs:=
 D.more a ⟨b,trivial⟩ (by rw[XN,e];rfl)
def Dn.len{c0:List Int}{L:List Rw}(D:Dn c0 L bw cs):bw.length=L.length:=by rw[D.ws.len,Ba]
def Z01.app{c0:List Int}{L:List Rw}{es:List cT}(h:Z01 bw)(D:Dn c0 L bw cs)(a:Ab (L.map Rw.mk) 0)(h1:Ab (L.map Rw.mk) 1):Z01 (bw++es):=⟨by rw[ZO a.1 (D.ws.lt a)];exact h.1,by rw[ZO h1.1 (D.ws.lt h1)];exact h.2⟩
def Vl.app{es:List cT}(V:Vl ab ws N bw)(Q:Nr ab N bab)(W:Ws bab bw):Vl ab ws N (bw++es):=λa h=>by
 have:=(Q.nm a h).2
 rw[ZO this.1 (W.lt this)];exact V a h
def Vl.offs{es ns:List cT}{k:Nat}(V:Vl ab ws N bw)(Q:Nr ab N bab)(W:Ws ab ws):Vl (ab++aJ k) (ws++es) (N++ns) bw:=λa b=>by have h1:=b.offs;rw[ZO h1.1 (W.lt h1),ZO h1.1 (Q.lt h1)];exact V a h1
end
theorem OC{c0:List Int}(d:∀c∈c0,Wd c):∀{t:Ts}{ab:List Bool}{m:Int}{L:List Rw}{N bw:List cT}{cs:List Int},t.Wf ab->Nr ab N (L.map Rw.mk)->Dn c0 L bw cs->Mks (b3 m) (L.map Rw.mk)->wv bw m=0->Z01 bw->∃es,Dn c0 (fl t (b3 m) L N).1 (bw++es) cs
 |.nil,ab,m,L,N,bw,cs,_,_,D,_,_,_=>⟨[],by rw[Bi];exact D⟩
 |.row r t,ab,m,L,N,bw,cs,⟨h1,h2⟩,Q,D,hk,hz,z=>by have y:(r.ren (wv N)).Ok (Ab (L.map Rw.mk)):=h1.ren λa O=>(Q.nm a O).2;obtain⟨es,st⟩:=kI (cs:=cs) y D.ws hz z;have hw:=DL y hk;have s:=Q.step (m:=b3 m) (q:=r.ren (wv N)) (r:=r) Rw.ren_mk;rw[Ba]at hw s;rw[<-Au]at s;rw[D.len]at st;obtain⟨a0,f,g⟩:=hk m rfl;have E:=D.more d hw st;obtain⟨j,K⟩:=OC d (t:=t) h2 s E (λk e=>by cases e;rw[Au];exact⟨a0.app,f.app,g.app⟩) (by rw[ZO a0.1 (D.ws.lt a0)];exact hz) (z.app D f g);exact⟨es++j,by rw[fl,<-Av];exact K⟩
 | .ifs c a b t,ab,m,L,N,bw,cs,⟨hc,h1,h2,P⟩,Q,D,hk,hz,z => by
  obtain⟨a0,f,g⟩:=hk m rfl;have v:=(Q.nm c hc).2;have G:Nr (ab++[bb]) (N++[.non]) ((L++[Rw.pick m (wv N c) 0]).map Rw.mk):=by rw[Au];exact(Q.offs (es:=[.non]) (bs:=[bb]) rfl (by simp)).app
  have W:=D.one d (r:=.pick m (wv N c) 0) (x:=0) ⟨a0,v,f⟩ (by simp[Y6,hz,z.1]);have J:Ab ((L++[Rw.pick m (wv N c) 0]).map Rw.mk) (L.length:Int):=by
   rw[Au];have:=Ab.new (ab:=L.map Rw.mk)
   rw[Ba]at this;exact this
  have w:∀{R:List Rw}{x:Int},Ab (L.map Rw.mk) x->Ab ((L++R).map Rw.mk) x:=λh=>by rw[Au];exact h.app
  obtain⟨es,u⟩:=OC d (t:=a) (m:=L.length) h1 G W (λk e=>by cases e;exact⟨J,w f,w g⟩) (YZ (by rw[D.len])) (z.app D f g);have f1:=Q8 (t:=a) (m:=b3 (L.length:Int)) G;rw[FA];have M:flA c a (b3 m) L N=fl a (b3 (L.length:Int)) (L++[Rw.pick m (wv N c) 0]) (N++[.non]):=rfl;rw[<-M]at u f1;generalize flA c a (b3 m) L N=p at u f1⊢;obtain⟨⟨ex,F,_⟩,_,k1,_⟩:=f1;have n:∀{R:List Rw}{x:Int},Ab (L.map Rw.mk) x->Ab ((p.1++R).map Rw.mk) x:=λh=>by rw[Au,F,Au];exact(w h).app.app
  have o:∀{x:Int},Ab (L.map Rw.mk) x->Ab (p.1.map Rw.mk) x:=λh=>by rw[F,Au];exact(w h).app
  have i:∀{x:Int},Ab (L.map Rw.mk) x->wv (bw++[.int 0]++es) x=wv bw x:=λh=>by rw[Av,ZO h.1 (D.ws.lt h)]
  have s:Nr (ab++[bb]++aJ a.size) p.2 ((p.1++[Rw.pick (wv N c) 0 m]).map Rw.mk):=by rw[Au];exact(k1.weak (by rw[Ts.sgt_len,Ao,Bp]) YU).app
  have z':Z01 (bw++[.int 0]++es):=⟨by rw[i f];exact z.1,by rw[i g];exact z.2⟩;have E:=u.one d (r:=.pick (wv N c) 0 m) (x:=0) ⟨o v,o f,o a0⟩ (by
   have T:wv (bw++[.int 0]++es) m=0:=by rw[i a0];exact hz
   show QT.ok (.int (if wv (bw++[.int 0]++es) (wv N c)=0 then wv (bw++[.int 0]++es) m else wv (bw++[.int 0]++es) 0)) cs=_;rw[T,z'.1];split<;>rfl)
  have I:Ab ((p.1++[Rw.pick (wv N c) 0 m]).map Rw.mk) (p.1.length:Int):=by
   rw[Au];have:=Ab.new (ab:=p.1.map Rw.mk)
   rw[Ba]at this;exact this
  obtain⟨j,C⟩:=OC d (t:=b) (m:=p.1.length) h2 s E (λk e=>by cases e;exact⟨I,n f,n g⟩) (YZ (by rw[u.len])) (z'.app u (o f) (o g));have f2:=Q8 (t:=b) (m:=b3 (p.1.length:Int)) s;have y:C9 c b (b3 m) N p=fl b (b3 (p.1.length:Int)) (p.1++[Rw.pick (wv N c) 0 m]) p.2:=rfl;rw[<-y]at C f2;generalize C9 c b (b3 m) N p=q at C f2⊢;obtain⟨⟨S,H,_⟩,_,k2,_⟩:=f2;have U:Nr (ab++[bb]++aJ a.size++aJ b.size) q.2 (q.1.map Rw.mk):=k2.weak (by rw[Ts.sgt_len,Ao,Bp]) YU;have l:∀{x:Int},Ab (L.map Rw.mk) x->Ab (q.1.map Rw.mk) x:=λh=>by rw[H,Au];exact(n h).app
  have B:∀{x:Int},Ab (L.map Rw.mk) x->wv (bw++[.int 0]++es++[.int 0]++j) x=wv bw x:=λh=>by rw[Av,ZO h.1 (u.ws.lt (o h)),i h]
  obtain⟨A,V⟩:=OC d (t:=t) (m:=m) P U C (λk e=>by cases e;exact⟨l a0,l f,l g⟩) (by rw[B a0];exact hz) ⟨by rw[B f];exact z.1,by rw[B g];exact z.2⟩;exact⟨[.int 0]++es++[.int 0]++j++A,by simpa using V⟩
def Yo{c0:List Int}{t:Ts}{ab:List Bool}{m:Option Int}{L:List Rw}{N:List cT}(Q:Nr ab N (L.map Rw.mk))(h:(go L [] c0).er≠b5):go (fl t m L N).1 [] c0=go L [] c0:=by obtain⟨⟨ex,e,_⟩,_⟩:=Q8 (t:=t) (m:=m) Q;rw[e];exact BA h
inductive Bad(c0:List Int)(o:KL)(L:List Rw)(N:List cT):Prop
 |mk (er:o.er≠b5) (e1:(go L [] c0).er=o.er) (e2:(go L [] c0).cs=o.cs) (e3:UR N (o.ws.length:Int)=b3 (.int (go L [] c0).ws.length))
def jf{ws:List cT}{n:Nat}{v:cT}(h:UR ws (n:Int)=b3 v):n<ws.length:=by
 unfold UR KQ at h;rw[if_pos (by lia)]at h;by_cases hl:(n:Int)<ws.length
 ·lia
 ·rw[if_neg hl]at h
  cases h
def Bad.fl{c0:List Int}{o:KL}{L:List Rw}{N:List cT}{t:Ts}{ab:List Bool}{m:Option Int}(B:Bad c0 o L N)(Q:Nr ab N (L.map Rw.mk)):Bad c0 o (fl t m L N).1 (fl t m L N).2:=by obtain⟨a,c,d,b⟩:=B;have g:=Yo (t:=t) (m:=m) (c0:=c0) Q (by rw[c];exact a);obtain⟨_,⟨f,e,_⟩,_⟩:=Q8 (t:=t) (m:=m) Q;exact⟨a,by rw[g];exact c,by rw[g];exact d,by rw[g,e,N3 (by lia) (by have:=jf b;lia)];exact b⟩
def Bad.more{c0:List Int}{o:KL}{L R:List Rw}{N:List cT}(B:Bad c0 o L N):Bad c0 o (L++R) N:=by obtain⟨a,b,d,c⟩:=B;have g:=BA (qs:=R) (show(go L [] c0).er≠b5 by rw[b];exact a);exact⟨a,by rw[g];exact b,by rw[g];exact d,by rw[g];exact c⟩
inductive FlR(c0:List Int)(o:KL)(ab:List Bool)(bw:List cT)(p:List Rw×List cT):Prop
 |ok (he:o.er=b5) (es:List cT) (D:Dn c0 p.1 (bw++es) o.cs) (V:Vl ab o.ws p.2 (bw++es))
 |bad (B:Bad c0 o p.1 p.2)
def FlR.pre{c0:List Int}{o:KL}{ab:List Bool}{bw es:List cT}{p:List Rw×List cT}(h:FlR c0 o ab (bw++es) p):FlR c0 o ab bw p:=by
 cases h with
 |ok b a D V=>exact .ok b (es++a) (by rw[<-Av];exact D) (by rw[<-Av];exact V)
 |bad B=>exact .bad B
def Vl.weak{ab b:List Bool}{ws N bw:List cT}(V:Vl ab ws N bw)(h:∀a,Ab b a->Ab ab a):Vl b ws N bw:=λa c=>V a (h a c)
theorem LH{c0:List Int}(d:∀c∈c0,Wd c):∀{t:Ts}{ab:List Bool}{m:Option Int}{L:List Rw}{N ws bw:List cT}{cs:List Int},t.Wf ab->Ws ab ws->Nr ab N (L.map Rw.mk)->Dn c0 L bw cs->(∀c∈cs,Wd c)->Vl ab ws N bw->MOn m bw->(∀k,m=b3 k->Ab (L.map Rw.mk) k)->((m.isSome || t.hasIf)=ba->(Ab (L.map Rw.mk) 0/\Ab (L.map Rw.mk) 1)/\Z01 bw)->FlR c0 (t.run ws cs) (t.sgt ab) bw (fl t m L N)
 |.nil,ab,m,L,N,ws,bw,cs,_,W,Q,D,u,V,P,hk,hz=>.ok rfl [] (by rw[Bi];exact D) (by rw[Bi];exact V)
 | .row r t,ab,m,L,N,ws,bw,cs,⟨h1,h2⟩,W,Q,D,u,V,P,hk,hz => by
  have O:(r.ren (wv N)).Ok (Ab (L.map Rw.mk)):=h1.ren λa U=>(Q.nm a U).2;obtain⟨es,S,st⟩:=dQ (cs:=cs) O D.ws P;have hw:=DL (m:=m) O λk e=>⟨hk k e,(hz (by rw[e];rfl)).1⟩;have se:Y6 (wv bw) cs (r.ren (wv N))=Y6 (wv ws) cs r:=by rw[Zm];exact dU λa U=>(V a (h1.nm a U)).symm
  rw[se]at st;have H:=Q.step (m:=m) (q:=r.ren (wv N)) (r:=r) Rw.ren_mk;rw[Ba]at hw H;rw[<-Au]at H;rw[D.len]at st S;rw[fl,Ts.sgt];generalize FT m (r.ren (wv N)) L.length=nn at*;cases e:Y6 (wv ws) cs r with
  |bad s=>
   have w:(Ts.row r t).run ws cs=⟨ws,cs,b3 s⟩:=by simp only[Ts.run,e]
   rw[e]at st;have g:go (L++HU m (r.ren (wv N)) L.length) [] c0=⟨bw++es,cs,b3 s⟩:=(BB D.go).trans st;rw[w];refine .bad (Bad.fl ⟨(λz=>nomatch z),by rw[g],by rw[g],?_⟩ H);rw[g];show UR (N++[.int nn]) (ws.length:Int)=b3 (.int ((bw++es).length:Nat));rw[GX (by rw[Q.len,W.len]),Ao,D.len,S]
  |ok v cs'=>
   have w:(Ts.row r t).run ws cs=t.run (ws++[v]) cs':=by simp only[Ts.run,e]
   rw[e]at st;have st:go (HU m (r.ren (wv N)) L.length) bw cs=⟨bw++(es++[v]),cs',b5⟩:=by rw[st,<-Av];rfl
   obtain⟨_,k1,_,k2⟩:=MP h1 (λa U=>(W.word (h1.nm a U)).2) u e;have D2:=D.more d hw st;have V2:Vl (ab++[r.mk]) (ws++[v]) (N++[.int nn]) (bw++(es++[v])):=λa U=>by
    rcases U.inv with h|⟨h,hb'⟩
    ·rw[ZO h.1 (W.lt h),ZO h.1 (Q.lt h)]
     exact V.app Q D.ws a h
    ·obtain⟨x,_,rfl⟩:=k2 hb'
     rw[YZ (ws:=ws) (by rw[h,W.len]),YZ (ws:=N) (by rw[h,Q.len]),<-Av,YZ (ws:=bw++es) (by rw[Ao,D.len,S])]
   rw[w];refine(LH d h2 (W.snoc k2) H D2 k1 V2 (λk e=>?_) (λk e=>?_) λe=>?_).pre
   ·rw[ZO (hk k e).1 (D.ws.lt (hk k e))]
    exact P k e
   ·rw[Au]
    exact(hk k e).app
   ·obtain⟨⟨a,b⟩,z⟩:=hz e
    exact⟨by rw[Au];exact⟨a.app,b.app⟩,z.app D a b⟩
 | .ifs c a b t,ab,m,L,N,ws,bw,cs,⟨hc,h1,h2,h3⟩,W,Q,D,u,V,P,hk,hz => by
  obtain⟨⟨l,A⟩,z⟩:=hz (by rw[Ts.hasIf,Rr]);obtain⟨i,hmm,a0,hn0⟩:∃i,m.getD 1=i/\Ab (L.map Rw.mk) i/\wv bw i≠0:=by
   cases m with
   |none=>exact⟨1,rfl,A,by rw[z.2];decide⟩
   |some k=>exact⟨k,rfl,hk k rfl,P k rfl⟩
  have F:=(Q.nm c hc).2;have vc:wv bw (wv N c)=wv ws c:=(V c hc).symm;have Q1:Nr (ab++[bb]) (N++[.non]) ((L++[Rw.pick i (wv N c) 0]).map Rw.mk):=by rw[Au];exact(Q.offs (es:=[.non]) (bs:=[bb]) rfl (by simp)).app
  have D1:=D.one d (r:=.pick i (wv N c) 0) (x:=wv ws c) ⟨a0,F,l⟩ (by simp[Y6,hn0,vc]);have n1:Ab ((L++[Rw.pick i (wv N c) 0]).map Rw.mk) (L.length:Int):=by
   rw[Au];have:=Ab.new (ab:=L.map Rw.mk)
   rw[Ba]at this;exact this
  have Z:∀{R:List Rw}{x:Int},Ab (L.map Rw.mk) x->Ab ((L++R).map Rw.mk) x:=λh=>by rw[Au];exact h.app
  have f1:=Q8 (t:=a) (m:=b3 (L.length:Int)) Q1;have V1:=V.app (es:=[.int (wv ws c)]) Q D.ws;have K:=λ(hz:wv ws c≠0)=>LH d (t:=a) (m:=b3 (L.length:Int)) h1 (W.offs (es:=[.non]) (k:=1) rfl) Q1 D1 u (V1.offs (k:=1) (es:=[.non]) (ns:=[.non]) Q W) (λk e=>by cases e;rw[YZ (by rw[D.len])];exact hz) (λk e=>by cases e;exact n1) λ_=>⟨⟨Z l,Z A⟩,z.app D l A⟩;have dj:=λ(hz:wv ws c=0)=>OC d (t:=a) (m:=L.length) h1 Q1 D1 (λk e=>by cases e;exact⟨n1,Z l,Z A⟩) (by rw[YZ (by rw[D.len])];exact hz) (z.app D l A);rw[FA,Ts.sgt];have hp:flA c a m L N=fl a (b3 (L.length:Int)) (L++[Rw.pick i (wv N c) 0]) (N++[.non]):=by rw[<-hmm]
  rw[<-hp]at f1 K dj;generalize flA c a m L N=p at f1 K dj⊢;obtain⟨⟨ex,z1,_⟩,⟨ey,z2,zl2⟩,k1,_⟩:=f1;have y:∀{x:Int},Ab (L.map Rw.mk) x->Ab (p.1.map Rw.mk) x:=λh=>by rw[z1,Au];exact(Z h).app
  have C:∀{R:List Rw}{x:Int},Ab (L.map Rw.mk) x->Ab ((p.1++R).map Rw.mk) x:=λh=>by rw[Au];exact(y h).app
  have H:Nr (ab++[bb]++aJ a.size) p.2 ((p.1++[Rw.pick (wv N c) 0 i]).map Rw.mk):=by rw[Au];exact(k1.weak (by rw[Ts.sgt_len,Ao,Bp]) YU).app
  have n2:Ab ((p.1++[Rw.pick (wv N c) 0 i]).map Rw.mk) (p.1.length:Int):=by
   rw[Au];have:=Ab.new (ab:=p.1.map Rw.mk)
   rw[Ba]at this;exact this
  have f2:=Q8 (t:=b) (m:=b3 (p.1.length:Int)) H;have O:C9 c b m N p=fl b (b3 (p.1.length:Int)) (p.1++[Rw.pick (wv N c) 0 i]) p.2:=by rw[<-hmm]
  have p2:p.2=N++([.non]++ey):=by rw[z2,Av]
  rw[X4]at h2 H;rw[X4,WX]at h3⊢;by_cases E:wv ws c=0
  ·have w : (Ts.ifs c a b t).run ws cs = if (b.run (ws ++ Aj (1 + a.size) .non) cs).er = b5 then t.run (b.run (ws ++ Aj (1 + a.size) .non) cs).ws (b.run (ws ++ Aj (1 + a.size) .non) cs).cs else b.run (ws ++ Aj (1 + a.size) .non) cs := by rw [Ts.run,if_pos E]
   obtain⟨es,G⟩:=dj E;have f:∀{x:Int},Ab (L.map Rw.mk) x->wv (bw++[.int (wv ws c)]++es) x=wv bw x:=λh=>by rw[Av,ZO h.1 (D.ws.lt h)]
   have z':Z01 (bw++[.int (wv ws c)]++es):=⟨by rw[f l];exact z.1,by rw[f A];exact z.2⟩;have VE:Vl ab ws N (bw++[.int (wv ws c)]++es):=by rw[Av];exact V.app Q D.ws
   generalize T:bw++[.int (wv ws c)]++es=j at*;have D2:=G.one d (r:=.pick (wv N c) 0 i) (x:=wv bw i) ⟨y F,y l,y a0⟩ (by
    have e1:wv j (wv N c)=0:=by rw[f F,vc];exact E
    simp[Y6,e1,f a0])
   have W2:=W.offs (es:=Aj (1+a.size) .non) (k:=1+a.size) (by simp);have VE2:Vl ab ws N (j++[.int (wv bw i)]):=VE.app (⟨Q.len,λa h=>⟨(Q.nm a h).1,y (Q.nm a h).2⟩⟩:Nr ab N (p.1.map Rw.mk)) G.ws;have M:=LH d (t:=b) (m:=b3 (p.1.length:Int)) h2 W2 H D2 u (by rw[p2];exact VE2.offs (bab:=p.1.map Rw.mk) ⟨Q.len,λa h=>⟨(Q.nm a h).1,y (Q.nm a h).2⟩⟩ W) (λk e=>by cases e;rw[YZ (by rw[G.len])];exact hn0) (λk e=>by cases e;exact n2) λ_=>⟨⟨C l,C A⟩,z'.app G (y l) (y A)⟩;have kk:=X7 (t:=b) h2 W2 u;rw[<-O]at M f2;generalize C9 c b m N p=q at M f2⊢;obtain⟨⟨ex2,z3,_⟩,⟨ey2,z4,_⟩,k2,_⟩:=f2;have Y:Nr (ab++aJ (1+a.size+b.size)) q.2 (q.1.map Rw.mk):=by rw[<-WX,<-X4];exact k2.weak (by rw[Ts.sgt_len,Ao,Bp]) YU
   generalize b.run (ws++Aj (1+a.size) .non) cs=o at M kk w;cases M with
   |bad B=>
    have I:=B.1;rw[if_neg I]at w;rw[w];exact .bad (B.fl Y)
   |ok I J E2 V2=>
    rw[if_pos I]at w;rw[w];obtain⟨_,ex3,e3,e4⟩:=kk.all I;rw[Av]at e3;have n:∀{x:Int},Ab (L.map Rw.mk) x->Ab (q.1.map Rw.mk) x:=λh=>by rw[z3,Au];exact(C h).app
    have X:∀{x:Int},Ab (L.map Rw.mk) x->wv (j++[.int (wv bw i)]++J) x=wv bw x:=λh=>by rw[Av,ZO h.1 (G.ws.lt (y h)),f h]
    have R:=LH d (t:=t) (m:=m) h3 (by rw[e3];exact W.offs (by simp[e4])) Y E2 kk.ok (V2.weak λx hx=>Ts.sgt_ab hx.offs.app) (λk e=>by rw[X (hk k e)];exact P k e) (λk e=>n (hk k e)) λ_=>⟨⟨n l,n A⟩,by rw[X l];exact z.1,by rw[X A];exact z.2⟩;have R:=R.pre.pre;rw[<-T,Av]at R;exact R.pre
  ·have w : (Ts.ifs c a b t).run ws cs = if (a.run (ws ++ [.non]) cs).er = b5 then t.run ((a.run (ws ++ [.non]) cs).ws ++ Aj b.size .non) (a.run (ws ++ [.non]) cs).cs else a.run (ws ++ [.non]) cs := by rw [Ts.run,if_neg E]
   have M:=K E;have kk:=X7 (t:=a) h1 (W.offs (es:=[.non]) (k:=1) rfl) u;generalize a.run (ws++[.non]) cs=o at M kk w;have QP:Nr (ab++aJ (1+a.size)) p.2 (p.1.map Rw.mk):=by rw[<-X4];exact k1.weak (by rw[Ts.sgt_len,Ao,Bp]) YU
   rw[<-O]at f2;cases M with
   |bad B=>
    have I:=B.1;rw[if_neg I]at w;rw[w];have B2:=(B.more (R:=[Rw.pick (wv N c) 0 i])).fl (t:=b) (m:=b3 (p.1.length:Int)) H;rw[<-O]at B2;generalize C9 c b m N p=q at B2 f2⊢;have Y:Nr (ab++aJ (1+a.size+b.size)) q.2 (q.1.map Rw.mk):=by rw[<-WX,<-X4];exact f2.nr.weak (by rw[Ts.sgt_len,Ao,Bp]) YU
    exact .bad (B2.fl Y)
   |ok I es G V1'=>
    rw[if_pos I]at w;rw[w];obtain⟨_,ex3,e3,e4⟩:=kk.all I;have f:∀{x:Int},Ab (L.map Rw.mk) x->wv (bw++[.int (wv ws c)]++es) x=wv bw x:=λh=>by rw[Av,ZO h.1 (D.ws.lt h)]
    have z':Z01 (bw++[.int (wv ws c)]++es):=⟨by rw[f l];exact z.1,by rw[f A];exact z.2⟩;generalize T:bw++[.int (wv ws c)]++es=j at*;have D2:=G.one d (r:=.pick (wv N c) 0 i) (x:=0) ⟨y F,y l,y a0⟩ (by
     have e1:wv j (wv N c)=wv ws c:=by rw[f F,vc]
     simp[Y6,e1,E,z'.1])
    obtain⟨J,E2⟩:=OC d (t:=b) (m:=p.1.length) h2 H D2 (λk e=>by cases e;exact⟨n2,C l,C A⟩) (YZ (by rw[G.len])) (z'.app G (y l) (y A));rw[<-O]at E2;generalize C9 c b m N p=q at E2 f2⊢;obtain⟨⟨ex2,z3,_⟩,⟨ey2,z4,_⟩,k2,_⟩:=f2;have Y:Nr (ab++aJ (1+a.size+b.size)) q.2 (q.1.map Rw.mk):=by rw[<-WX,<-X4];exact k2.weak (by rw[Ts.sgt_len,Ao,Bp]) YU
    have n:∀{x:Int},Ab (L.map Rw.mk) x->Ab (q.1.map Rw.mk) x:=λh=>by rw[z3,Au];exact(C h).app
    have X:∀{x:Int},Ab (L.map Rw.mk) x->wv (j++[.int 0]++J) x=wv bw x:=λh=>by rw[Av,ZO h.1 (G.ws.lt (y h)),f h]
    have WA:Ws (ab++aJ (1+a.size)) o.ws:=by rw[e3,Av];exact W.offs (by simp[e4];lia)
    have WB:Ws (ab++aJ (1+a.size+b.size)) (o.ws++Aj b.size .non):=by rw[<-WX];exact WA.offs (by simp)
    have VB:Vl (ab++aJ (1+a.size+b.size)) (o.ws++Aj b.size .non) q.2 (j++[.int 0]++J):=by rw[<-WX,z4,Av j];exact((V1'.weak λx hx=>Ts.sgt_ab hx.offs.app).app QP G.ws).offs QP WA
    have R:=LH d (t:=t) (m:=m) h3 WB Y E2 kk.ok VB (λk e=>by rw[X (hk k e)];exact P k e) (λk e=>n (hk k e)) λ_=>⟨⟨n l,n A⟩,by rw[X l];exact z.1,by rw[X A];exact z.2⟩;have R:=R.pre.pre;rw[<-T,Av]at R;exact R.pre
theorem JN:∀{t:Ts}{ab:List Bool}{m:Option Int}{L:List Rw}{N:List cT},t.Wf ab->Nr ab N (L.map Rw.mk)->K9 [] L->(∀k,m=b3 k->Ab (L.map Rw.mk) k)->((m.isSome || t.hasIf)=ba->Ab (L.map Rw.mk) 0/\Ab (L.map Rw.mk) 1)->K9 [] (fl t m L N).1
 |.nil,ab,m,L,N,_,_,hw,_,_=>hw
 |.row r t,ab,m,L,N,⟨h1,h2⟩,Q,hw,hk,hz=>by have w:(r.ren (wv N)).Ok (Ab (L.map Rw.mk)):=h1.ren λa F=>(Q.nm a F).2;have A:=DL (m:=m) w λk e=>⟨hk k e,hz (by rw[e];rfl)⟩;have j:=Q.step (m:=m) (q:=r.ren (wv N)) (r:=r) Rw.ren_mk;rw[Ba]at A j;rw[<-Au]at j;rw[fl];exact JN h2 j (hw.app (by simpa using A)) (λk e=>by rw[Au];exact(hk k e).app) λe=>by rw[Au];exact⟨(hz e).1.app,(hz e).2.app⟩
 | .ifs c a b t,ab,m,L,N,⟨hc,h1,h2,G⟩,Q,hw,hk,hz => by
  obtain⟨o,s⟩:=hz (by rw[Ts.hasIf,Rr]);obtain⟨f,l,a0⟩:∃f,m.getD 1=f/\Ab (L.map Rw.mk) f:=by
   cases m with
   |none=>exact⟨1,rfl,s⟩
   |some k=>exact⟨k,rfl,hk k rfl⟩
  have n:=(Q.nm c hc).2;have B:Nr (ab++[bb]) (N++[.non]) ((L++[Rw.pick f (wv N c) 0]).map Rw.mk):=by rw[Au];exact(Q.offs (es:=[.non]) (bs:=[bb]) rfl (by simp)).app
  have new:∀(K:List Rw) {x y z:Int},Ab ((K++[Rw.pick x y z]).map Rw.mk) (K.length:Int):=λK _ _ _=>by
   rw[Au];have:=Ab.new (ab:=K.map Rw.mk)
   rw[Ba]at this;exact this
  have g:∀{K R:List Rw}{x:Int},Ab (K.map Rw.mk) x->Ab ((K++R).map Rw.mk) x:=λh=>by rw[Au];exact h.app
  have v:=JN (t:=a) (m:=b3 (L.length:Int)) h1 B (hw.app (qs:=[Rw.pick f (wv N c) 0]) (by rw[Cv];exact⟨⟨a0,n,o⟩,trivial⟩)) (λk e=>by cases e;exact new L) λ_=>⟨g o,g s⟩;have f1:=Q8 (t:=a) (m:=b3 (L.length:Int)) B;rw[FA];have E:flA c a m L N=fl a (b3 (L.length:Int)) (L++[Rw.pick f (wv N c) 0]) (N++[.non]):=by rw[<-l]
  rw[<-E]at f1 v;generalize flA c a m L N=p at f1 v⊢;obtain⟨⟨ex,D,_⟩,_,k1,_⟩:=f1;have d:∀{x:Int},Ab (L.map Rw.mk) x->Ab (p.1.map Rw.mk) x:=λh=>by rw[D];exact g (g h)
  have j:Nr (ab++[bb]++aJ a.size) p.2 ((p.1++[Rw.pick (wv N c) 0 f]).map Rw.mk):=by rw[Au];exact(k1.weak (by rw[Ts.sgt_len,Ao,Bp]) YU).app
  have u:=JN (t:=b) (m:=b3 (p.1.length:Int)) h2 j (v.app (qs:=[Rw.pick (wv N c) 0 f]) (by rw[Cv];exact⟨⟨d n,d o,d a0⟩,trivial⟩)) (λk e=>by cases e;exact new p.1) λ_=>⟨g (d o),g (d s)⟩;have f2:=Q8 (t:=b) (m:=b3 (p.1.length:Int)) j;have w:C9 c b m N p=fl b (b3 (p.1.length:Int)) (p.1++[Rw.pick (wv N c) 0 f]) p.2:=by rw[<-l]
  rw[<-w]at f2 u;generalize C9 c b m N p=q at f2 u⊢;obtain⟨⟨H,C,_⟩,_,k2,_⟩:=f2;have i:∀{x:Int},Ab (L.map Rw.mk) x->Ab (q.1.map Rw.mk) x:=λh=>by rw[C];exact g (g (d h))
  exact JN G (k2.weak (by rw[Ts.sgt_len,Ao,Bp]) YU) u (λk e=>i (hk k e)) λ_=>⟨i o,i s⟩
def ab01:Ab (([.num 0,.num 1]:List Rw).map Rw.mk) 0/\Ab (([.num 0,.num 1]:List Rw).map Rw.mk) 1:=⟨⟨by decide,rfl⟩,by decide,rfl⟩
def w01:K9 [] ([.num 0,.num 1]:List Rw):=⟨⟨by decide,by decide⟩,⟨by decide,by decide⟩,trivial⟩
def d01{cs:List Int}:Dn cs [.num 0,.num 1] [.int 0,.int 1] cs:=⟨w01,rfl,(Ws.nil.snoc (b:=ba) λ_=>⟨0,⟨by decide,by decide⟩,rfl⟩).snoc (b:=ba) λ_=>⟨1,⟨by decide,by decide⟩,rfl⟩⟩
section
variable{ns:List Int}{t:Ts}{sure:Int}{cs:List Int}
def Uz(h:t.Wf []):K9 [] (Lf t):=by
 unfold Lf L0;cases hi:t.hasIf with
 |true=>exact JN h Nr.nil w01 (λ_ e=>nomatch e) λ_=>ab01
 |false=>exact JN h Nr.nil trivial (λ_ e=>nomatch e) λe=>by rw[hi]at e;cases e
structure Wm(o o':KL)(N:List cT):Prop where
 cs:o'.cs=o.cs
 er:o'.er=o.er
 at_:o.er≠b5->UR N (o.ws.length:Int)=b3 (.int o'.ws.length)
def FlR.al{ab:List Bool}{bw:List cT}{o:KL}{p:List Rw×List cT}(h:FlR cs o ab bw p):Wm o (go p.1 [] cs) p.2:=by
 cases h with
 |ok a es D V=>exact⟨by rw[D.go],by rw[D.go];exact a.symm,λz=>absurd a z⟩
 |bad B=>exact⟨B.3,B.2,λ_=>B.4⟩
def eF(h:t.Wf [])(b:∀c∈cs,Wd c):Wm (t.run [] cs) (go (Lf t) [] cs) (Nf t):=by
 unfold Lf Nf L0;have d:∀bw:List cT,Vl [] [] [] bw:=λ_ a h=>by have:=h.2;simp at this
 cases hi:t.hasIf with
 |true=>exact(LH b (m:=b5) h Ws.nil Nr.nil d01 b (d _) (λ_ e=>nomatch e) (λ_ e=>nomatch e) λ_=>⟨ab01,rfl,rfl⟩).al
 |false=>exact(LH b (m:=b5) (L:=[]) (bw:=[]) h Ws.nil Nr.nil ⟨trivial,rfl,Ws.nil⟩ b (d _) (λ_ e=>nomatch e) (λ_ e=>nomatch e) λe=>by rw[hi]at e;cases e).al
def lW{rs:List Rw}(h:K9 [] rs)(c:0<=sure)(s1:sure<=64)(d:rs.length<=40):YH [.tup [.int sure,.tup (rs.map Rw.dat)]]=b3 (.bl ba,[]):=by
 obtain⟨s',b⟩:=LA (.tup [.int sure,.tup (rs.map Rw.dat)]) (.tup (rs.map Rw.dat)) sure h (by simp;lia) .no;simp only[Cf]at b;have a:¬(40:Int)<(rs.length:Int):=by lia
 unfold YH;rw[cA,T9.eq_1];simp[b7,W4,Z6,c,s1,a,b]
@[simp] theorem sY{i:Nat}{F:cB}{ds:List cT}:insE i F ds=(F (ds.take i++ .dct [] []::ds.drop i)).map λq=>(q.1,q.2.drop 1):=(rfl)
def nj{k:Nat}(cs:List Int):QR (k+1) (.lst (cs.map .int)):=M6 λd hd=>by obtain⟨c,_,rfl⟩:=Ek.mp hd;exact aC
def gL(o:KL):QR 2 (.tup [.lst (o.cs.map .int),o.fd]):=by
 refine XD (bG (nj _) (bG ?_ YM));unfold KL.fd;split
 ·exact PP
 ·exact XD (bG aC (bG Y4 YM))
def nh(hl:ns.length<=63)(h1:t.Wf [])(h2:t.size<=20)(q:t.dep<=3)(l:0<=sure)(s1:sure<=64)(j:(Lf t).length<=40){n:Nat}(E:n<9000)(x a b c d:Sl):∃n' y w v,n'<=n+67/\O5 [.va (T4 ns),.ow (V7 n),.va (.tup [.int sure,.tup t.dats]),d,.va (.tup [.int sure,.tup ((Lf t).map Rw.dat)]),.va (.lst (Nf t)),x,a,b,c]=b3 (.nx [.va (T4 ns),.ow (V7 n'),.va (.tup [.int sure,.tup t.dats]),d,.va (.tup [.int sure,.tup ((Lf t).map Rw.dat)]),.va (.lst (Nf t)),x,y,w,v]):=by
 obtain⟨cs,n',f,u,r,p,m⟩:=jN ns n sure hl (by lia) l s1;obtain⟨dd,h⟩:=iQ q h1 h2 f;have g:=jb (cs:=cs) (sure:=sure) (Uz h1) l s1 j f u r;obtain⟨q1,q2,q3⟩:=eF h1 f;have k:=gL (go (Lf t) [] cs);have e:=Vw k k;rw[jS k]at e;unfold KL.fd at h g e;rw[q1,q2]at g e;generalize (Lf t).map Rw.dat=A at*;generalize Nf t=B at*;generalize t.dats=T at*;generalize t.run [] cs=o at*;generalize (go (Lf t) [] cs).ws.length=F at*;generalize o.cs.map cT.int=C at*;generalize cs.map cT.int=D at*;cases i:o.er with
 |none=>
  rw[i]at h g e;refine⟨n',.va (.lst D),.ow (.lst C),.va .non,p,?_⟩;unfold O5;simp at e;simp[m,h,g,e]
 |some s=>
  have q3:=q3 (by rw[i];exact λz=>nomatch z);rw[i]at h g e;refine⟨n',.va (.lst D),.ow (.lst C),.va (.tup [.int o.ws.length,.str s]),p,?_⟩;unfold O5;simp at e;simp[m,h,g,q3,e]
theorem JV(hl:ns.length<=63)(h1:t.Wf [])(h2:t.size<=20)(g:t.dep<=3)(f:0<=sure)(s1:sure<=64)(e:(Lf t).length<=40)(d:Sl):∀(ds:List cT) {n:Nat},n+67*ds.length<9000->∀x a b c:Sl,∃n' i A w s,YC (gN 6) O5 ds [.va (T4 ns),.ow (V7 n),.va (.tup [.int sure,.tup t.dats]),d,.va (.tup [.int sure,.tup ((Lf t).map Rw.dat)]),.va (.lst (Nf t)),x,a,b,c]=b3 (.nx [.va (T4 ns),.ow (V7 n'),.va (.tup [.int sure,.tup t.dats]),d,.va (.tup [.int sure,.tup ((Lf t).map Rw.dat)]),.va (.lst (Nf t)),i,A,w,s])
 |[],n,_,x,a,b,c=>⟨n,x,a,b,c,by rw[Ww]⟩
 |q::ds,n,l,x,a,b,c=>by simp only[Cg]at l;obtain⟨k,z,v,r,k1,o⟩:=nh (n:=n) hl h1 h2 g f s1 e (by lia) (.va q) a b c d;obtain⟨j,h,y,u,p,m⟩:=JV hl h1 h2 g f s1 e d ds (n:=k) (by lia) (.va q) z v r;refine⟨j,h,y,u,p,?_⟩;rw[U4,LI,Q5];simp only[Nw,Nx];rw[o,NU,m]
theorem OV:∀{N acc:List cT},(∀d∈N,ioN d=ba)->acc.length+N.length<1000->ZJ 0 1 (gN 0) (fB (f2 VQ (fV 0) (fC .non))) (fV 0) N acc []=b3 (acc++N.filter (λd=> !NH d),[])
 |[],acc,_,_=>by simp
 | d :: N,acc,h,hk => by
  simp only[Cg]at hk;have hd:=h d Bj;have b:acc.length<16777216:=by lia
  cases d with
  |int i=>
   have a:=OV (N:=N) (acc:=acc++[.int i]) (λd hd=>h d (At _ hd)) (by simp;lia);simp[b,K2,a,NH]
  |non=>
   have a:=OV (N:=N) (acc:=acc) (λd hd=>h d (At _ hd)) (by lia);simp[K2,a,NH]
  |_=>cases hd
theorem AW:∀N:List cT,((N.countP NH:Nat):Int)=(N.length:Int)-(N.filter (λd=> !NH d)).length
 |[]=>rfl
 |d::N=>by have a:=AW N;cases h:NH d<;>simp[h,Hc]<;>lia
def k7{ds:List cT}(h:ds.all ioN=ba):HW (.lst ds) .non=b3 (.int (ds.countP NH:Nat)):=by show(if ds.all ioN=ba then _ else _)=_;rw[if_pos h]
def fH{r:Rw}:QR 1 r.dat:=by
 cases r<;>first|exact XD (bG Y4 (bG aC (bG aC (bG aC YM))))|exact XD (bG Y4 (bG aC (bG aC YM)))|exact XD (bG Y4 (bG aC YM))
def gB{N:List cT}(h:∀d∈N,ioN d=ba):QR 3 (.lst N):=M6 λd hd=>by
 have:=h d hd
 cases d with
 |int i=>exact aC
 |non=>exact PP
 |_=>cases this
def mL:∀rs:List Rw,∀d∈rs.map Rw.dat,QR 1 d:=λrs d hd=>by obtain⟨r,_,rfl⟩:=Ek.mp hd;exact fH
def gU{rs:List Rw}{N:List cT}(h:∀d∈N,ioN d=ba):YK (.tup [.tup [.int sure,.tup (rs.map Rw.dat)],.lst N]) (.tup [.str "refused",.int 11])=b3 (.bl bb):=by rw[Vi (XD (bG (XD (bG (k:=2) aC (bG (XD (mL rs)) YM))) (bG (gB h) YM))) (XD (bG Y4 (bG (aC (k:=0)) YM)))];rfl
def iX:VM [C8 (("TooLong":Sb),b5)]=b3 (.tup [.str "refused",.int 11],[]):=by kernel_rfl
def iF:qRet b5=b5:=(rfl)
def Yw{δ:Ev}:BZ δ b5=b5:=(rfl)
def pl1{a:cT}:UI [.d a]=b3 [a]:=(rfl)
def eG{d r:cT}(h:ZG [d]=b3 (r,[])):WN [d]=b3 (r,[]):=by unfold WN;rw[cA];unfold RI;simp[b7,sTry,F4,h]
def lK{d:cT}(h:ZG [d]=b5)(h2:YF [d]=b3 ((("TooLong":Sb),b5):Xw)):WN [d]=b3 (.tup [.str "refused",.int 11],[]):=by unfold WN;rw[cA];unfold RI;simp[b7,sTry,F4,GH,h,h2,iX,Yw,iF,pl1]
def nb_t:BP (.bl ba) (.bl ba)=b3 (.bl bb):=(rfl)
def lb:YK (.tup [.str "refused",.int 11]) (.tup [.str "refused",.int 11])=b3 (.bl ba):=by kernel_rfl
end
end L2
namespace RR
open PySem L2
def kg(ns:List Int)(hl:ns.length<=63):K8 [.lst (ns.map .int)]=b3 (.bl ba,[]):=by
 obtain⟨sure,t,q,h1,h2,f,c,s1,k1,l⟩:=cY (n:=0) hl (by lia);have k:=RL (n:=7) (t:=t) (YG (by lia) h1) (by lia);have i:cT.lst []=V7 0:=rfl;have j:cT.lst (ns.map .int)=T4 ns:=rfl;by_cases a:(Lf t).length<=40
 ·have g:=eG (cW f h1 h2 c s1 a)
  obtain⟨_,_,_,b⟩:=Q8 (t:=t) (m:=b5) (nr0 (t:=t));have b:=b λ_ h=>nomatch h;have e:=gU (sure:=sure) (rs:=Lf t) b;have v:=lW (sure:=sure) (Uz h1) c s1 a;obtain⟨y,x,E,D,C,w⟩:=JV (ns:=ns) (sure:=sure) hl h1 h2 f c s1 a (.va (.tup [.tup [.int sure,.tup ((Lf t).map Rw.dat)],.lst (Nf t)])) [.int 0,.int 1,.int 2,.int 3] (n:=q) (by simp;lia) .no .no .no .no;have s:(Nf t).length=t.size:=Wn.2;have o:=OV (N:=Nf t) (acc:=[]) b (by simp;lia);have ct:=k7 (ds:=Nf t) (Fe.mpr b);have cl:=AW (Nf t);have u:¬(40:Int)<(((Lf t).map Rw.dat).length:Int):=by rw[Ba];lia
  rw[cl,s]at ct;generalize (Lf t).map Rw.dat=A at*;have e:YK (.tup [.tup [.int sure,.tup A],.lst (Nf t)]) (.tup [.str "refused",.int 11])=b3 (.bl bb):=e;generalize Nf t=B at*;generalize t.dats=T at*;generalize (t.size:Int)=z at*;simp only[Cv]at o;generalize B.filter (λd=> !NH d)=F at*;unfold K8;rw[cA,A9.eq_1];have p:TQ 0 4=[.int 0,.int 1,.int 2,.int 3]:=rfl;rw[j];simp -implicitDefEqProofs [b7,i,l,g,e,v,u,p,w,ct,k,o,Z8,nb_t]
 ·obtain ⟨f1,f2⟩ := gK (sure := sure) f h1 h2 c s1 (by lia)
  have g:=lK f1 f2;have r:(8:Int)<t.size:=by
   have:=(Wn (t:=t)).1
   lia
  generalize t.dats=T at*;unfold K8;rw[cA,A9.eq_1];rw[j];simp -implicitDefEqProofs [b7,i,l,g,lb,k,r]
end RR
namespace KK
open PySem PySem.W
noncomputable abbrev g(a i:Nat)(n:Sb)(d m:Rz):Sk:=⟨.type "function",b5,.func (fnOf n n (L2.aB (RR.top i)) (L2.bH (RR.top i)) (L2.cJ (RR.top i)) d .none .none m b5 (.ref (a-1)) .none),#[]⟩
def p(P:Mj)(a i:Nat)(n:Sb)(m:Rz)(h1:nsIn (K P) Sc n=b3 (b3 (.ref a)):=by kernel_rfl)(h2:(K P).lookup a=b3 (g a i n .none m):=by kernel_rfl)(b:codeIn (K P) (.ref (a-1)) n=ba:=by kernel_rfl):L2.A4 (K P) n (RR.top i) a:=L2.a4 h1 h2 b (by unfold keepIn;simp only[h2])
noncomputable abbrev gm(a i j:Nat)(n q:Sb)(m:Rz):Sk:=⟨.type "function",b5,.func (fnOf n q (L2.aB (RR.mem i j)) (L2.bH (RR.mem i j)) (L2.cJ (RR.mem i j)) .none .none .none m b5 (.ref (a-1)) .none),#[]⟩
def MZ(P:Mj):L2.Cls (K P) 481:=⟨by kernel_rfl,by kernel_rfl,by kernel_rfl,by kernel_rfl⟩
def RS(P:Mj)(a i j:Nat)(n q:Sb)(m:Rz)(d:nsIn (K P) Sc "Flat"=b3 (b3 (.ref 481)):=by kernel_rfl)(h1:findIn (K P) (.ref 481) n=b3 (b3 (.ref a)):=by kernel_rfl)(h2:isFn (K P) (.ref a)=ba:=by kernel_rfl)(b:(K P).lookup a=b3 (gm a i j n q m):=by kernel_rfl)(c:codeIn (K P) (.ref (a-1)) q=ba:=by kernel_rfl):L2.A4m (K P) "Flat" n q (RR.mem i j) a:=⟨481,_,_,_,_,_,_,_,_,_,d,MZ P,h1,h2,b,c,by unfold keepIn;simp only[b]⟩
end KK
namespace RR
open PySem L2
def zLU{l:Ro}{w:Sg}{K:Ag}{mg:Sb->Option Rz}{fa:Sa}(T:Txt w K mg)(e:mg "law"=b3 (.ref fa)):∃fd:Ch,(∀(s:Ad) (v:Rz),Ob s fd ⟨[v],[]⟩ [("_law_script",v)])/\∀base:Si,K.In base->base.Ns Sc mg->YV l.prog w K mg base CX0 24 fa fd ["_law_script"] (spV K [] 1 K8):=by obtain⟨i,od,kV,doc,h,j,g,ct,f,a,b,c,d⟩:=T.p_x47;cases e.symm.trans (T.fnm _ _ a);exact⟨_,λs v=>.of_eq rfl,λbase _ _=>ji T (OD (st:=top 84) b c d)⟩
def zCH(K:Ag)(H:Hp)(a:Sa)(ns:List Int)(hl:ns.length<=63)(f:Only H)(h:XV K H a (ns.map V.int)):spV K [] 1 K8 [.ref a] H (λv _=>v=.bl ba) λ_ _ _=>False:=by
 have c:b6 K (Zp (λ_=>False) [] [.ref a]) H (ns.map V.int) (ns.map cT.int):=by
  clear h hl;induction ns with
  |nil=>exact .nil
  |cons n ns g=>exact .cons (.int n) g
 have hz:∀b,¬Zp (λ_=>False) [] [V.ref a] b:=λb h=>by
  rcases h with h|⟨i,h,_⟩
  ·exact h
  ·cases h
 refine⟨λ_=>False,[.lst (ns.map .int)],.bl ba,[],rfl,⟨rfl,(λi h=>nomatch h),λi d hi e=>?_,(λi d h=>nomatch h),(λi j b h=>nomatch h),λa h=>h.elim⟩,kg ns hl,λv H' _ _ r=>by cases r;rfl⟩;cases i with
 |zero=>
  cases e;refine⟨_,rfl,?_⟩;rcases h with((h|⟨_,_,_,_,(⟨_,h,_⟩|⟨h,_⟩)⟩|⟨_,_,_,_,_,_,_,_,_,h,_⟩)|⟨o,h⟩)|h
  ·exact .lst h (hz a) c
  ·rcases f a with z|⟨_,_,z⟩<;>rw[h]at z<;>cases z
  ·rcases f a with z|⟨_,_,z⟩<;>rw[h]at z<;>cases z
  ·rcases f a with z|⟨_,_,z⟩<;>rw[h]at z<;>cases z
  ·exact .fzl (.inl ⟨o,h⟩) c
  ·exact .fzl (.inr h) c
 |succ i=>cases i<;>cases e
end RR
open PySem PySem.W PyProof.Rows
set_option maxRecDepth 100000 in
set_option maxHeartbeats 0 in
theorem PySem.Challenge.cw_lanepacks_k31_whole_long_trees_holds : PySem.Challenge.rw_lanepacks_k31_whole_long_trees.Holds := by
 w_on;refine holds_law KK.said λsaid=>?_
 refine holds_open (q:=KK.view) (loose:=KK.lo) (Xt:=KK.X) (XP:=XL KK.view []) (Yf:=KK.H.obs) (Ya:=KK.H.val) (YP:=KK.H.says) (N:=11180) KK.hl (Hook.of _) (Hook.keeps _) (λs e=>xl_of s (Dm.mp e).1) XL.keeps (by rfl) (by rfl) (by rfl) (λs e=>recFacts_of (Dm.mp e).2) (by rfl) (by first|assumption|decide+kernel) (by decide+kernel) ⟨rfl,rfl,rfl,rfl,rfl,by decide+kernel⟩ ?hw ?hc
 case hw=>w_witness2
 refine L2.zBM (l:=Js) (n:=63) (k:=24) (x:= "_law_script") (CX:=L2.CX0) (sp:=λK=>L2.spV K [] 1 L2.K8) rfl (by decide) rfl ⟨rfl,by decide,by decide⟩ (λw h Y=>W.kIn_of (K:=KK.K) (as:=KK.A) (e:=KK.kA) Y) ?F (λK H a ns hl ho hS=>RR.zCH K H a ns hl ho hS) λ_ _ _ _ z=>z
 case F=>
  intro w mg fa h KX G hmg;have N:∀{x},Ds (KK.K w.params) Sc x=some none->mg x=none:=λh=>W.mg_none_of KX G h;refine RR.zLU (K:=KK.K w.params) ?_ hmg;constructor;exact λ_ _ h=>W.mg_of KX G h;exact λ_ _ _ h=>W.mg_of KX G h;kernel_rfl;exact KK.MZ _;iterate 2 unfold L2.ZD;kernel_rfl
  iterate 2 kernel_rfl
  exact KK.RS _ 445 65 0 "__init__" "Flat.__init__" KK.m2;iterate 10 exact KK.p _ _ _ _ KK.m3
  iterate 9 exact KK.p _ _ _ _ KK.m0
  iterate 3 exact KK.p _ _ _ _ KK.m1
  iterate 5 kernel_rfl
  iterate 3 exact KK.p _ _ _ _ KK.m1
  iterate 4 exact KK.p _ _ _ _ KK.m2
  exact KK.RS _ 452 65 1 "lay" "Flat.lay" KK.m2;exact KK.RS _ 459 65 2 "both" "Flat.both" KK.m2;exact KK.RS _ 471 65 4 "lay_if" "Flat.lay_if" KK.m2;exact KK.RS _ 478 65 5 "masked" "Flat.masked" KK.m2;exact KK.RS _ 464 65 3 "lay_rows" "Flat.lay_rows" KK.m2;exact KK.p _ _ _ _ KK.m2;iterate 16 exact KK.p _ _ _ _ KK.m
  iterate 17 exact N (by kernel_rfl)
  iterate 41 kernel_rfl
  iterate 2 exact⟨⟨by kernel_rfl,⟨by kernel_rfl,by kernel_rfl,by kernel_rfl,by kernel_rfl,by kernel_rfl,by kernel_rfl,by kernel_rfl⟩,by kernel_rfl,24,⟨by kernel_rfl,by kernel_rfl,by kernel_rfl,by kernel_rfl,by kernel_rfl⟩⟩,by kernel_rfl⟩
  kernel_rfl;exact KK.p _ _ _ _ KK.m4
end
