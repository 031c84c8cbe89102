import PyProof.Rows.All
import KE.KFromBytes
import KE.KTab
import KE.KIsAll
import KE.KDictOf
import KE.KEqDeep
import KE.KItem
import KE.KUnpackStar
import Wide.FinOn
import Wide.Line
import KE.KSortTup
import PyProof.AttrMissSeq
import OpenK.KOwn
import Open.TreeImp
import OpenK.KMore
import PyProof.InstStoreFacts
import PyProof.DictCompW
import KE.KDictList
import PyProof.DictTruth
import KE.KDictSum
import PyProof.DictUpdate
import KE.KIntText
import PyProof.Rows.StrNews
import PyProof.Rows.SetFrom
import PyProof.StrWalks
import PySem.Challenge.RW_lanepacks_k41_shops_refused
set_option Elab.async false
set_option linter.all false
set_option maxRecDepth 100000
set_option maxHeartbeats 4000000
set_option bootstrap.genMatcherCode false
set_option compiler.extract_closed false
open Option renaming some->ba,none->bb
open Bool renaming true->bc,false->be
open PySem renaming Value->Uo,Addr->Up,Str->Uq,mainGlobals->Ur,starEach->Us,wpAny->Ut,model->Uu,Expr->Uv,World->Uw,foldedSetIterable->Ux,Heap->Uy,assignEach->Uz,swapsWith->Va,Stmt->Vb,Obj->Vc,Scope->Vd,cellsFrom->Ve,NameKind->Vf,Sem->Vg,Tok->Vi,Model->Vj
open PySem.W renaming Frag->Vh
open Option renaming bind_eq_some_iff->Aa,map_eq_some_iff->Ah,bind_some->Ar,isSome_map->Ld,isSome_some->Pc,getD_none->Qz,map->Um
open PySem renaming wpAny_bind->Ab,Shared->Ad,wpAny_pure->Af,Program->Ao,wpAny_mono->Aw,wpAny_holding->Bf,sizeLine_eq->Bg,bootBuiltins->Bm,Around->Bp,FuncData->Bq,wpAny_newObj_type->Bv,attributeBase->Ca,compareOp->Cd,wpAny_call_entry->Cf,wpAny_callSpecial?_slot->Ci,keywordEach->Ck,backTo->Co,mem_of_lookup->Cr,wpAny_truthy_bool->Cu,wpAny_standAt->Ds,sysModules->Dv,wpAny_Call_Name_kw->Dz,wpAny_field->Ea,backToKw->Ej,recursionLimit->Eu,Spec->Ex,Builtin->Ey,DictEntry->Ff,binaryOp->Fg,codeAny_mono->Fi,wpAny_setField_rec->Fk,wpAny_seqItems->Fo,codeAny_call_builtin->Fp,wpAny_passesOwn->Fq,wpAny_pyIter_list->Fs,wpAny_call->Ft,wpAny_comprehension_free->Fw,plainObj_wpAny_Assign_Attribute->Fx,wpAny_typeNameOfWhole_keyiter->Ge,call_meets->Gf,codeAny->Gg,tupleKind_room_in1->Gj,standAt->Gk,wpAny_execs_nil->Gm,letOwnedTupleGo->Go,Keyword->Gr,excClassObj->Gx,wpAny_loadPart_at->Hf,assign->Hh,wpAny_newFunctionEnv_cells->Hj,wpAny_loadName_local->Hl,getMethod->Hm,holding->Ia,swapsWithSole->Ib,swappedStores->Ic,behindInMarks->Ih,wpAny_pyNext_list_item->Ir,wpAny_assign_Name->Iw,sliceBounds->Iy,wpAny_dictEntries->Iz,wpAny_pyNext_list_end->Jf,codeAny_call_function->Jg,wpAny_execs_cons->Jk,wpAny_updateSeq_pair->Jn,callWith->Jp,importedModules->Js,pushCells_keeps->Kb,getAttrByItsOwn->Kc,wpAny_loadPart->Kq,wpAny_setField->Kt,firstArgMember->Ku,wpAny_binaryOp_repeat_ref->Kv,wpAny_Name->Kz,wpAny_rule->Lb,wpAny_sequenceKey->Lc,pushCells->Lh,isInstance->Li,unpackItems->Lp,getItem->Lr,wpAny_onRaise->Lu,wpAny_attempt->Lv,Comprehension->Lw,wpAny_newList->Lz,noFill_tuple_add->Mb,checkBuiltinCall->Md,wpAny_Call_method_late->Mh,Within->Mm,PassesOwn->Mn,wpAny_pyIter_listiter->Mo,concat_meets->Mq,wpAny_typeOf->Mr,wpAny_specialOf->Ms,exec_Assign_Name_used->Mx,codeAny_builtin->Mz,wpAny_isOneOf_keyiter->Nc,typeIs_int->Nf,ZipApart->Ng,wpAny_pyIter_keyiter->Nl,Params->Nq,typeOf->Nt,PyData->Nv,newFunctionEnv->Ny,BindsTo->Oa,callerA->Oe,wpAny_of_eq->Of,wpAny_letGo->Og,OwnTail->Oj,wpAny_isSubtype_exc->Ol,wpAny_pyIter_tuple->Ow,seq_tuple_add->Pa,seqItems?->Pf,Fin->Pg,comprehension->Ph,frameOf->Pk,ExceptHandler->Pq,IsL->Pt,list_append->Py,valueAt->Pz,codeAny_func->Qs,entryPlaceOf->Qv,wpAny_mkText->Qw,seqSlot_of->Rm,bindName->Rp,compPost->Rr,interactive->Ry,pyIter->Rz,lastMarks->Sa,noteFrame->Sh,setField->Su,Thread->Sw,call->Sy,newObjAsIs->Sz,getAttr->Th,setAttr->Ti,dictGet->Tn,Builtin->Tp,Result->Tx,again->Ui
open PySem.Heap renaming get?_push_of_some->Ac,lt_size->Aj,get?_push_size->Al,size_push->Cb,get?_update_other->Cz,SameBut->Ek,get?_update_self->Gv,ExtBut->Ja,get?_none_of_le->Jm,FlyingW->Ko,get?_push_ne->Lg,get?_update_ne->Om,get?_some_iff->Pj,size_update->Rg
open Bool renaming and_eq_true->Ae,false_ne_true->Bw,and_eq_true_iff->Dn,false_eq_true->Eo,or_eq_true->Jy,and_assoc->Nw,false_or->Pd,not_eq_true'->Qj,or_false->Tl,or_true->Ub
open PySem.W renaming Frag->Ag,mg_of->Cm,nsIn->Cq,mg_none_of->Dh,kia_one->Er,keepIn->Fh,emptyDict->Gp,findIn->Ha,kitOne->Hb,fnOf->Hi,callWith_K->Ht,looks_findIn->Hw,methodCall_KW->Iq,instObj->Jd,codeIn->Kn,SharedT->Ll,hideAll_get->Lm,kitx_list->Lq,cellsFrom_some->Ma,hideAll_none->Nr,plainGet_of->Oy,makesIn->Oz,kia_tup->Pu,plainGet->Pw,subIn->Qg,of_hideAll->Qo,kitx_tuple->Qp,funFrames_hide->Rl,methodObj->Rv,hideAll->Rw,hasDictIn->Sb,kitx_dict->Sc,clsIn->Sk,handedIn->Sx,absHeap->Ta,openEnds->Tb,lookIn->Tg,typeIn->Tj,kas_sort->Tr,Frag->Tv,takerIn->Tw,OpenLaw->Tz
open List renaming getElem?_eq_some_iff->Ai,size_toArray->Ak,mem_append_left->Aq,getElem?_append_left->As,range->At,mem_singleton->Au,replicate->Av,mem_append_right->Ax,mem_cons_of_mem->Ay,getElem?_set_ne->Az,length_map->Bb,length_append->Be,append_nil->Bi,mem_cons->Bj,lookup_cons->Bl,getElem?_map->Bo,mem_cons_self->Bu,getElem?_set_self->Bx,length_take->Cc,map_cons->Ch,getElem?_eq_none->Cj,mem_of_getElem?->Cn,length_cons->Cs,length_set->Ct,drop_eq_getElem_cons->Cv,append_assoc->Cw,getElem?_take_of_lt->Db,getElem?_eq_getElem->De,map_append->Dg,getElem?_replicate->Dj,getElem?_append_right->Dk,replicate_succ->Du,lookup_cons_self->Dw,mem_range->Dx,lookup->Dy,forall_mem_cons->Ee,nodup_cons->El,length_singleton->Em,mem_append->Ez,take_of_length_le->Fc,all_eq_true->Fe,flatten_cons->Gb,drop_length->Gd,find?_cons->Gs,any_cons->Hd,ext_getElem?->He,not_mem_nil->Hr,mem_map->Hv,mem_filterMap->Ie,of_mem_zip->Ii,mem_iff_getElem?->Jh,getElem_inj->Jj,cons_append->Jl,filterMap_cons->Jw,forIn_cons->Jx,length_range->Le,take_add_one->Lk,length_eq_zero_iff->Ls,getElem_mem->Me,range_succ_eq_map->Mi,length_replicate->Mp,zip_append->Mv,getElem?_mapIdx->Nj,dropLast_concat->No,nodup_nil->Nu,forIn_nil->Nx,drop_left->Nz,map_eq_nil_iff->Oo,zip_cons_cons->Pl,zip_nil_right->Pm,getElem?_take->Po,map_inj_right->Pp,zip_nil_left->Qc,nodup_append->Qi,map_nil->Qt,any_map->Qu,length_drop->Qy,isEmpty_iff->Ra,zipIdx_cons->Rb,map_snd_zip->Rh,any_eq_true->Ri,map_fst_zip->Rj,mem_filter->Rx,zipIdx_nil->Se,nil_append->Sm,drop_zero->Sr,mapM_cons->Ss,take_left->Sv,set_comm->Te,all_cons->To,toArray->Uc,map_map->Ud
open Nat renaming le_refl->Am,ne_of_lt->Ap,lt_of_lt_of_le->Ba,zero_le->Bz,lt_irrefl->Di,le_trans->Dq,lt_succ_self->Gc,le_succ->Gq,le_of_succ_le->Jb,ne_of_gt->Je,le_of_lt->Km,lt_of_succ_lt->Lj,min_eq_left->Na,lt_of_le_of_lt->Pe,zero_add->Qn,succ_le_succ->Rf,not_lt_zero->Sf,min_le_left->Sg
open PySem.Value renaming ref->An,bool->Gy,type->Gz,int->Op,str->Oq,float->Ru,isStrOf->Tc,builtin->Tq,isInt->Ue,bytes->Uf
open PySem.NameKind renaming free->Bk,cell->Ce
open Prod renaming fst->Br,snd->By
open PySem.Builtin.SmallTypes renaming nextOf->Bt,ownedTupleIsFree->Dt,ownedTupleHandOut->Ho
open Option.some renaming inj->Cg
open Array renaming length_toList->Df,toList_eq_nil_iff->Ip,getElem?_toList->Ji,getElem?_eq_some_iff->Kk,find?_toList->Ox,size_append->Qh,toList->Tu
open Ne renaming symm->Dm
open False renaming elim->Dr
open PyProof.Rows.KTD renaming datumAt->Eb
open PySem.PassesOwn renaming never->Ec
open PySem.Calls renaming evalArgs_plain->Ed,callWith_builtin->Eh,spliced_cons->Gi,Name_function_global->Hg,call_function_entry->Hq,spliced_nil->Ix,loadGlobal_global->Lo,call_len_list->Ob,Constant_str->Ot
open PySem.Str renaming ofString->Ef,ofString_eq_toList->Mj
open Or renaming inr->Eg,inl->Fj
open PyProof.Rows renaming slot_tuple_getitem->Ei,callWith_type1->Fa,seqObj->Fy,assignInOrder_cons->Gh,IntsAre->Ik,assignInOrder_nil->La,AllBare->Ln,listUpdate_at->Ly,subscriptTail_builtinR->Mg,firstMet->Ps,listItems_at->Qx,seqEpoch_at->Si,tail_any->Tk,SortKind->Ts
open PySem.AutoSeq1 renaming wpAny_loadPart'->Ep,idx_int->Mf
open PySem.PyData renaming keyHash->Es,depthAll->Gw,eqv->Jr,canLay0->Ks,depth->Mt,int->Qb,canLayAll0->Qf
open PySem.F renaming plainAttrs_list->Et,slot_tuple_iterator_next->Fd,slot_list_append->Fz,type_list_append->Ga,slot_dict_get->Gu,excBase_ValueError->Hk,args_tuple_add_2->Hu,slot_list_extend->Hx,type_list_extend->Hy,entry_tuple_add->Ij,args_dict_get_2->Il,slot_tuple_add->Iu,entry_dict_get->Iv,args_tuple_iterator_next_1->Jo,slot_dict_keyiterator_next->Jq,entry_tuple_iterator_next->Jz,slot_zip_next->Ka,slot_int_rmul->Ke,slot_dict_getitem->Kr,entry_bexc_ga->My,args_list_append_2->Ni,args_bexc_ga->Nk,slot_dict_contains->Np,entry_list_append->Od,slot_list_append->Pb,args_tuple_mul_2->Pr,args_zip_next_1->Qe,args_int_rmul_2->Qk,entry_tuple_mul->Ql,entry_zip_next->Rc,slot_dict_iter->Rk,entry_int_rmul->Rn,slot_tuple_mul->Ro,slot_dict_len->Sj,fills_int_mul->Sn
open PySem.SeqAt renaming shaped->Ew
open ForInStep renaming yield->Fb
open Sum renaming inl->Fl,inr->Ml
open PySem.Builtin.Slice renaming slicePlaces->Fm,sliceAdjust->Hn,sliceApplied->Ki,slicePartIndex->Rq,sliceFields->Sq
open PySem.Builtin.Tuple renaming tupleExact->Fu,tupleItemsOf->Kj,tupleTooMany->Kl,tupleIsExact->So
open PySem.Builtin.List renaming listTooLong->Fv,listExtendWith->Kd
open PySem.Obj renaming mapSeq->Hc,data_mapFields->Im,mapFields->Lx,isFreed_of_fields->Mw,cls_mapFields->Qd
open PySem.Heap.SameBut renaming update->Hs
open PySem.Paired renaming length->Hz,snoc->Ug
open PySem.Builtin.Str renaming occurrences->Ig
open PySem.Code renaming quiet_builtin->Io,isFrame->Qr,builtin->Ua
open PySem.W.Fast renaming tw10156331382660048174->Jt,tw11892475500146522536->Ju,tw14364793385576792824->Jv,tw1435165496053646825->Kf,tw4187177175401517315->Kg,te4187177175401517315->Kh
open Int renaming emod_lt_of_pos->Kp,toNat_natCast->Lf,emod_nonneg->Nd
open PySem.Challenge renaming pw_lanepacks_k41_shops_refused->Kw,rw_lanepacks_k41_shops_refused->Kx
open PySem.IsL renaming update->Mc
open Classical renaming choose_spec->Mu
open PySem.Builtin.Dict renaming showsAll->Nb,missed->Oh
open PySem.W.Looks renaming ld->Nh
open PySem.SeqAt.EqAt renaming bool_bool->Nm
open PySem.EntryCells renaming newEntry->Oi
open PyProof.Rows.IsTup renaming new->Ov
open PySem.Heap.Ns1 renaming of_empty->Px
open List.Pairwise renaming nil->Qa
open Char renaming toNat->Qm
open PySem.Around renaming under->Qq
open PySem.Builtin.Dict_items renaming ownsTuple->Rs
open Sum.inl renaming inj->Rt
open PySem.Heap.DictOf renaming new->Sd
open PySem.Builtin.Range renaming rangeSize->Tf
open PySem.Heap.UpToSlots renaming of_keeps->Tt
open PySem.Shared renaming heap->Uh
open PySem.Heap.Ns renaming new->Uj
open PySem.Heap.IsSliceOf renaming new->Uk
open PySem.W.WShape renaming has->Ul
noncomputable section
namespace KK
open PySem PySem.W
noncomputable def FH:List Vc->Nat->BT->Option BT
 |[],_,t=>ba t
 |o::l,n,t=>match((t.ins n o).get n).isSome with
  |true=>FH l (n+1) (t.ins n o)
  |false=>bb
theorem JK{life:Life}:∀{l:List Vc}{n:Nat}{t t':BT},FH l n t=ba t'->Ta t' (n+l.length) life=⟨(Ta t n life).objs++l.toArray,life⟩
 |[],n,t,t',h=>by cases h;simp[Ta]
 | o :: l,n,t,t',h => by
  unfold FH at h;split at h;rename_i g;have a:=JK (life:=life) h;rw[show n+(o::l).length=n+1+l.length by simp;lia,a,absHeap_ins g];simp[Heap.push];cases h
def toT(s:Ad):Option Ll:=(FH s.heap.objs.toList 0 .nil).map λt=>⟨t,s.heap.objs.size,s.heap.life,s.gens,s.drawn,s.toks,s.os⟩
def CV{s:Ad}{u:Ll}(h:toT s=ba u):u.abs=s:=by
 unfold toT at h;cases e:FH s.heap.objs.toList 0 .nil with
 |none=>rw[e]at h;cases h
 |some t=>
  rw[e]at h;cases h;have:=JK (life:=s.heap.life) e;simp only[Qn,Df]at this;obtain⟨⟨c,a⟩,d,drawn,b,os⟩:=s;show(⟨Ta t c.size a,d,drawn,b,os⟩:Ad)=_;rw[this];simp[Ta,BT.list]
abbrev StT:=Ll->Sw->Option (Ll×Sw)
noncomputable def topG(st:StT)(ok:Sw->Bool):Nat->Ll->Sw->Option Ll
 |0,_,_=>bb
 | n + 1,s,t => match through t with
  |true=>ba s
  | false => match ok t with
   |false=>bb
   |true=>match st s t with
    |some (b,a)=>topG st ok n b a
    |none=>bb
theorem CW{c:String->Option Ey}{p:Ao}{w:Uw}{a:Nat}{b:Option Uo}:∀{n:Nat}{s s':Ll}{t:Sw},topG (stepT (denote c) p w) (stepOk a b) n s t=ba s'->topRun c p w a b n s.abs t=ba s'.abs
 |0,_,_,_,h=>by cases h
 | n + 1,s,s',t,h => by
  unfold topG at h;unfold topRun;cases g:through t with
  |true=>rw[g]at h;cases h;rfl
  |false=>
   rw[g]at h;cases i:stepOk a b t with
   |false=>rw[i]at h;cases h
   |true=>
    rw[i]at h;cases d:stepT (denote c) p w s t with
    |none=>rw[d]at h;cases h
    |some r=>obtain⟨f,e⟩:=r;rw[d]at h;rw[stepT_spec d];exact CW h
noncomputable def impG(st:StT):Nat->Ll->Sw->Option Ll
 |0,_,_=>bb
 | n + 1,s,t => match t.atExitBegin with
  |some []=>ba s
  |some (_::_)=>bb
  |none=>match st s t with
   |some (b,a)=>impG st n b a
   |none=>bb
theorem BS{a:String->Option Ey}{p:Ao}{w:Uw}:∀{n:Nat}{s s':Ll}{t:Sw},impG (stepT (denote a) p w) n s t=ba s'->importEnds a p w n s.abs t=ba s'.abs
 |0,_,_,_,h=>by cases h
 | n + 1,s,s',t,h => by
  unfold impG at h;unfold importEnds;cases e:t.atExitBegin with
  |some x=>
   rw[e]at h;cases x with
   |nil=>cases h;rfl
   |cons=>cases h
  |none=>
   rw[e]at h;cases b:stepT (denote a) p w s t with
   |none=>rw[b]at h;cases h
   |some r=>obtain⟨d,c⟩:=r;rw[b]at h;dsimp only;rw[stepT_spec b];exact BS h
def chkU(p:Ao)(s₀ s:Ad):Bool:=staticsOk (Js p.main.body) s₀.heap s.heap&&namesBound p s.heap&&gensDone s&&laidKept s₀.heap s.heap
noncomputable def PJ(p:Ao)(w:Uw)(N:Nat):Option (Ad×Ad):=
 (toT (Kf (opening p)).1).bind λu=>(impG (Jt (Ju Jv) (opening p) w) N u (Kf (opening p)).2).bind λc=>(Fast.tw14289696077712309145 p c.abs).bind λa=>
 match a.heap.isNs Ur&&a.gens.size==0 with
 |true=>(toT a).bind λv=>(topG (Jt (Ju Jv) p w) (Fast.tw6613529449190102663 a.heap.objs.size (a.heap.nsMap Ur "__annotations__")) N v (topStub p)).bind λb=>ba (a,b.abs)
 |false=>bb
def pR{p:Ao}{w:Uw}{N:Nat}{q:Ad×Ad}(h:PJ p w N=ba q)(hc:chkU p q.1 q.2=bc):Tb treeTable p w N=ba q.2:=by
 unfold PJ at h;rw[<-Fast.te1435165496053646825,<-Fast.te10156331382660048174,<-Fast.te11892475500146522536,<-Fast.te14364793385576792824,<-Fast.te14289696077712309145,<-Fast.te6613529449190102663]at h;unfold Tb fencedOpening;obtain⟨u,j,h⟩:=Aa.mp h;obtain⟨l,i,h⟩:=Aa.mp h;obtain⟨a,g,h⟩:=Aa.mp h;have d:=BS i;rw[CV j]at d;rw[d,Ar,g,Ar];unfold topFrom;cases c:(a.heap.isNs Ur&&a.gens.size==0)with
 |false=>rw[c]at h;cases h
 |true=>
  rw[c]at h;obtain⟨v,f,h⟩:=Aa.mp h;obtain⟨k,e,h⟩:=Aa.mp h;cases h;have b:=CW e;rw[CV f]at b;dsimp only;rw[b,Ar];unfold chkU at hc;rw[hc]
def mapQ{c b:Type}{p:Ao}{w:Uw}{N:Nat}{f:Ad->c}{g:Ad->b}{v:c}{u:b}(a:(PJ p w N).map (λq=>f q.2)=ba v)(d:(PJ p w N).map (λq=>(chkU p q.1 q.2,g q.2))=ba (bc,u)):(Tb treeTable p w N).map (λs=>(f s,g s))=ba (v,u):=by
 cases e:PJ p w N with
 |none=>rw[e]at a;cases a
 |some q=>
  rw[e]at a d;obtain⟨i,h⟩:=Prod.mk.inj (Cg d);rw[pR e i];exact congrArg ba (Prod.ext (Cg a) h)
end KK
namespace RR
open PySem
def top(i:Nat):Vb:=PySem.Challenge.pw_lanepacks_k41_shops_refused.main.body.getD i (.Pass ⟨0,0,0,0⟩)
def mem(i j:Nat):Vb:=match top i with
 |.ClassDef _ _ _ b _ _ _ _ _ _ _=>b.getD j (.Pass ⟨0,0,0,0⟩)
 |s=>s
end RR
namespace KK
open PySem PySem.W PySem.Calls PyProof.Rows
def dA(s:Vb):Arguments:=match s with
 |.FunctionDef _ a _ _ _ _ _ _ _ _=>a
 |_=>⟨[],[],bb,[],[],bb,[]⟩
def dB(s:Vb):List Vb:=match s with
 |.FunctionDef _ _ b _ _ _ _ _ _ _=>b
 |_=>[]
def dS(s:Vb):Vd:=match s with
 |.FunctionDef _ _ _ _ _ _ c _ _ _=>c
 |_=>{kind:=.function,names:=[],isGenerator:=be,isCoroutine:=be}
abbrev s(x:Uq)(t:Nat):Uo:=.str x t
abbrev e(P:Nq)(x:Uq)(t:Nat)(v:Uo):Ff:=⟨PyData.keyHash P x,s x t,v⟩
abbrev f(a i:Nat)(n:Uq)(d m:Uo):Nat×Vc:=(a,⟨.type "function",bb,.func (fnOf n n (dA (RR.top i)) (dB (RR.top i)) (dS (RR.top i)) d .none .none m bb (.ref (a-1)) .none),#[]⟩)
abbrev fm(a i j:Nat)(q:Uq)(m:Uo):Nat×Vc:=(a,⟨.type "function",bb,.func (fnOf "__init__" q (dA (RR.mem i j)) (dB (RR.mem i j)) (dS (RR.mem i j)) .none .none .none m bb (.ref (a-1)) .none),#[]⟩)
abbrev fs(a i j:Nat)(n q:Uq)(d k m:Uo):Nat×Vc:=(a,⟨.type "function",bb,.func (fnOf n q (dA (RR.mem i j)) (dB (RR.mem i j)) (dS (RR.mem i j)) d k .none m bb (.ref (a-1)) .none),#[]⟩)
abbrev fk(a i:Nat)(n:Uq)(d k m:Uo):Nat×Vc:=(a,⟨.type "function",bb,.func (fnOf n n (dA (RR.top i)) (dB (RR.top i)) (dS (RR.top i)) d k .none m bb (.ref (a-1)) .none),#[]⟩)
abbrev co(a:Nat)(n:Uq)(t:Nat)(l k:Int)(u:Nat)(x y z v:Uo):Nat×Vc:=(a,⟨.type "code",bb,.fields #[s n t,s n (t+1),s "/claim/cut.py" (t+2),.int l 0,.int k 0,.int 0 0,.int 0 0,.int 3 0,x,.bool bc,.int 181 0,y,.none,z,v,.ref (a-1),.int u 0,.int l 0,s "/claim/cut.py" (u+1)],#[]⟩)
abbrev c(a:Nat)(n:Uq)(t:Nat)(l k:Int)(u:Nat):Nat×Vc:=co a n t l k u (.ref (a-5)) (.ref (a-4)) (.ref (a-3)) (.ref (a-2))
abbrev b(a:Nat)(n:Uq)(t:Nat)(l k:Int)(u:Nat):Nat×Vc:=co a n t l k u (.ref (a-3)) (.ref (a-2)) .none .none
abbrev m:Uo:=s "lanepacks.shops" 1112
abbrev kc(a q:Nat)(n:Uq)(b t u:Nat):Nat×Vc:=(a,⟨.type "type",bb,.cls {name:=n,bases:=[.ref q],mro:=[.ref a,.ref q,.type "ValueError",.type "Exception",.type "BaseException",.type "object"],ns:=a-1,qualname:=n},#[ba (.ref b),bb,ba (s n t),ba (s n u),ba (.builtin "ValueError.__new__"),ba (.bool bc)]⟩)
abbrev kn(P:Nq)(a m w l r:Nat):Nat×Vc:=(a,⟨.type "dict",bb,.dict #[e P "__module__" m (s "lanepacks.errors" w),e P "__firstlineno__" (m+4) (.int l (m+3)),e P "__static_attributes__" (m+5) (.ref r),e P "__doc__" (m+6) .none] 2,#[]⟩)
noncomputable def K(P:Nq):Vh:=[(2,⟨.none,bb,.dict #[] 0,#[]⟩),(3,⟨.type "dict",bb,.dict #[e P "__name__" 165 (s "law_lanepacks_k41_shops_refused" 1350),e P "__doc__" 166 (.none),e P "__package__" 167 (.none),e P "__loader__" 168 (.builtin "__main__.__loader__#opaque"),e P "__spec__" 169 (.none),e P "__annotations__" 170 (.ref 6),e P "__builtins__" 171 (.ref 4),e P "__file__" 173 (s "/claim/cut.py" 172),e P "__cached__" 174 (.none),e P "_wall" 193 (.ref 21),e P "PackError" 213 (.ref 31),e P "NoBlock" 229 (.ref 44),e P "NoCells" 245 (.ref 56),e P "NoRow" 270 (.ref 75),e P "NoLanes" 286 (.ref 87),e P "NoPlan" 302 (.ref 99),e P "NoProgram" 318 (.ref 111),e P "NoTree" 334 (.ref 123),e P "NoLoop" 350 (.ref 135),e P "NoText" 366 (.ref 147),e P "NoName" 391 (.ref 166),e P "TooMany" 407 (.ref 178),e P "TooLong" 423 (.ref 190),e P "NotValid" 448 (.ref 209),e P "Nothing" 464 (.ref 221),e P "MOST_WORD" 468 (.int 999 467),e P "DEEDS" 476 (.ref 224),e P "is_whole" 485 (.ref 231),e P "plus" 493 (.ref 238),e P "minus" 501 (.ref 245),e P "times" 509 (.ref 252),e P "least" 517 (.ref 259),e P "most" 525 (.ref 266),e P "less" 533 (.ref 273),e P "over" 541 (.ref 280),e P "pick" 550 (.ref 287),e P "MADE" 565 (.ref 288),e P "done" 574 (.ref 295),e P "MOST_SURE" 578 (.int 64 577),e P "MOST_ROWS" 580 (.int 40 579),e P "MOST_PLACE" 582 (.int 63 581),e P "DEED_PARTS" 585 (.ref 296),e P "OTHER_PARTS" 611 (.ref 297),e P "READERS" 614 (.ref 304),e P "WRITERS" 617 (.ref 305),e P "parts_of" 624 (.ref 312),e P "makes_word" 631 (.ref 319),e P "place_of" 638 (.ref 326),e P "names_of" 644 (.ref 331),e P "with_names" 652 (.ref 338),e P "may_name" 660 (.ref 345),e P "fits" 669 (.ref 352),e P "is_row" 675 (.ref 357),e P "is_block" 686 (.ref 364),e P "writes" 695 (.ref 371),e P "is_safe_number" 702 (.ref 378),e P "can_fault" 714 (.ref 385),e P "share_written_cell" 722 (.ref 392),e P "must_stay" 734 (.ref 399),e P "must_pairs" 740 (.ref 404),e P "LEAST_LANES" 744 (.int 2 743),e P "MOST_LANES" 746 (.int 4 745),e P "is_lanes" 753 (.ref 411),e P "may_follow" 764 (.ref 418),e P "is_pack" 770 (.ref 423),e P "rows_within" 776 (.ref 428),e P "fits_plan" 782 (.ref 433),e P "check_lanes" 790 (.ref 440),e P "check_plan" 799 (.ref 447),e P "rows_alone" 805 (.ref 452),e P "nodes_of" 811 (.ref 457),e P "waits_of" 817 (.ref 462),e P "next_node" 823 (.ref 467),e P "ordered_by" 834 (.ref 474),e P "ordered" 842 (.ref 481),e P "supply" 848 (.ref 486),e P "Draft" 935 (.ref 544),e P "lowered" 947 (.ref 555),e P "MOST_CELLS" 951 (.int 64 950),e P "is_cells" 957 (.ref 560),e P "touches" 965 (.ref 567),e P "do_on_cell" 975 (.ref 574),e P "do_row" 989 (.ref 582),e P "do_rows" 995 (.ref 587),e P "MOST_PROGRAM_ROWS" 999 (.int 400 998),e P "is_for_lanes" 1007 (.ref 594),e P "is_wide" 1013 (.ref 599),e P "is_gather" 1019 (.ref 604),e P "is_shuffle" 1025 (.ref 609),e P "is_lane" 1034 (.ref 616),e P "is_program_row" 1046 (.ref 623),e P "kind_made" 1053 (.ref 630),e P "are_program_rows" 1065 (.ref 637),e P "is_program" 1075 (.ref 644),e P "do_wide" 1081 (.ref 649),e P "moved" 1087 (.ref 654),e P "do_program_row" 1093 (.ref 659),e P "run_program" 1111 (.ref 666),e P "LETTERS" 1115 (s "abcdefghijklmnopqrstuvwxyz" 1114),e P "MOST_LETTERS" 1117 (.int 8 1116),e P "is_name" 1123 (.ref 671),e P "with_entry" 1133 (.ref 678),e P "without_entry" 1139 (.ref 683),e P "Shop" 1349 (.ref 835),e P "_law_cell_at" 1361 (.ref 846),e P "_law_mixed" 1371 (.ref 853),e P "_law_draw" 1380 (.ref 860),e P "_law_pick" 1389 (.ref 867),e P "_law_which" 1397 (.ref 874),e P "_law_none" 1406 (.ref 881),e P "_law_ask" 1418 (.ref 888),e P "_law_at_first" 1428 (.ref 895),e P "law" 1434 (.ref 900)] 113,#[]⟩),(30,⟨.type "dict",bb,.dict #[e P "__module__" 203 (s "lanepacks.errors" 194),e P "__firstlineno__" 207 (.int 5 206),e P "__static_attributes__" 208 (.ref 29),e P "__weakref__" 210 (.ref 32),e P "__doc__" 211 (.none)] 3,#[]⟩),(31,⟨.type "type",bb,.cls {name:= "PackError",bases:=[.type "ValueError"],mro:=[.ref 31,.type "ValueError",.type "Exception",.type "BaseException",.type "object"],ns:=30,qualname:= "PackError",subclasses:=[.ref 44,.ref 56,.ref 75,.ref 87,.ref 99,.ref 111,.ref 123,.ref 135,.ref 147,.ref 166,.ref 178,.ref 190,.ref 209,.ref 221]},#[ba (.ref 22),bb,ba (s "PackError" 196),ba (s "PackError" 204),ba (.builtin "ValueError.__new__"),ba (.bool bc)]⟩),kn P 43 221 194 7 42,kc 44 31 "NoBlock" 35 214 222,kn P 55 237 194 9 54,kc 56 31 "NoCells" 47 230 238,(74,⟨.type "dict",bb,.dict #[e P "__module__" 253 (s "lanepacks.errors" 194),e P "__firstlineno__" 257 (.int 11 256),e P "__init__" 265 (.ref 72),e P "__static_attributes__" 267 (.ref 73),e P "__doc__" 268 (.none)] 2,#[]⟩),kc 75 31 "NoRow" 59 246 254,kn P 86 278 194 16 85,kc 87 31 "NoLanes" 78 271 279,kn P 98 294 194 18 97,kc 99 31 "NoPlan" 90 287 295,kn P 110 310 194 20 109,kc 111 31 "NoProgram" 102 303 311,kn P 122 326 194 22 121,kc 123 31 "NoTree" 114 319 327,kn P 134 342 194 24 133,kc 135 31 "NoLoop" 126 335 343,kn P 146 358 194 26 145,kc 147 31 "NoText" 138 351 359,fm 163 12 0 "NoName.__init__" (s "lanepacks.errors" 194),(162,⟨.type "code",bb,.fields #[s "__init__" 379,s "NoName.__init__" 380,s "/claim/cut.py" 381,.int 30 0,.int 2 0,.int 0 0,.int 0 0,.int 3 0,.ref 157,.bool bc,.int 181 0,.ref 158,.none,.ref 159,.ref 160,.ref 161,.int 384 0,.int 30 0,s "/claim/cut.py" 385],#[]⟩),(165,⟨.type "dict",bb,.dict #[e P "__module__" 374 (s "lanepacks.errors" 194),e P "__firstlineno__" 378 (.int 28 377),e P "__init__" 386 (.ref 163),e P "__static_attributes__" 388 (.ref 164),e P "__doc__" 389 (.none)] 2,#[]⟩),kc 166 31 "NoName" 150 367 375,kn P 177 399 194 33 176,kc 178 31 "TooMany" 169 392 400,kn P 189 415 194 35 188,kc 190 31 "TooLong" 181 408 416,fm 206 15 0 "NotValid.__init__" (s "lanepacks.errors" 194),(205,⟨.type "code",bb,.fields #[s "__init__" 436,s "NotValid.__init__" 437,s "/claim/cut.py" 438,.int 39 0,.int 2 0,.int 0 0,.int 0 0,.int 3 0,.ref 200,.bool bc,.int 181 0,.ref 201,.none,.ref 202,.ref 203,.ref 204,.int 441 0,.int 39 0,s "/claim/cut.py" 442],#[]⟩),(208,⟨.type "dict",bb,.dict #[e P "__module__" 431 (s "lanepacks.errors" 194),e P "__firstlineno__" 435 (.int 37 434),e P "__init__" 443 (.ref 206),e P "__static_attributes__" 445 (.ref 207),e P "__doc__" 446 (.none)] 2,#[]⟩),kc 209 31 "NotValid" 193 424 432,kn P 220 456 194 42 219,kc 221 31 "Nothing" 212 449 457,(224,⟨.type "tuple",bb,.seq #[s "plus" 469,s "minus" 470,s "times" 471,s "least" 472,s "most" 473,s "less" 474,s "over" 475] 0,#[]⟩),f 231 20 "is_whole" (.none) (s "lanepacks.words" 465),c 230 "is_whole" 477 47 3 483,(288,⟨.type "dict",bb,.dict #[e P "plus" 551 (.ref 238),e P "minus" 552 (.ref 245),e P "times" 553 (.ref 252),e P "least" 554 (.ref 259),e P "most" 555 (.ref 266),e P "less" 556 (.ref 273),e P "over" 557 (.ref 280)] 7,#[]⟩),(296,⟨.type "tuple",bb,.seq #[s "row" 583,s "row" 584] 0,#[]⟩),(297,⟨.type "dict",bb,.dict #[e P "number" 586 (.ref 298),e P "pick" 588 (.ref 299),e P "load" 592 (.ref 300),e P "take" 594 (.ref 301),e P "store" 598 (.ref 302),e P "put" 601 (.ref 303)] 6,#[]⟩),(298,⟨.type "tuple",bb,.seq #[s "word" 587] 0,#[]⟩),(299,⟨.type "tuple",bb,.seq #[s "row" 589,s "row" 590,s "row" 591] 0,#[]⟩),(300,⟨.type "tuple",bb,.seq #[s "place" 593] 0,#[]⟩),(301,⟨.type "tuple",bb,.seq #[s "place" 595,s "row" 596,s "row" 597] 0,#[]⟩),(302,⟨.type "tuple",bb,.seq #[s "place" 599,s "row" 600] 0,#[]⟩),(303,⟨.type "tuple",bb,.seq #[s "place" 602,s "row" 603,s "row" 604] 0,#[]⟩),(304,⟨.type "tuple",bb,.seq #[s "load" 612,s "take" 613] 0,#[]⟩),(305,⟨.type "tuple",bb,.seq #[s "store" 615,s "put" 616] 0,#[]⟩),f 312 39 "parts_of" (.none) (s "lanepacks.blocks" 575),c 311 "parts_of" 618 81 1 622,f 319 40 "makes_word" (.none) (s "lanepacks.blocks" 575),c 318 "makes_word" 625 85 1 629,f 326 41 "place_of" (.none) (s "lanepacks.blocks" 575),c 325 "place_of" 632 87 1 636,f 331 42 "names_of" (.none) (s "lanepacks.blocks" 575),b 330 "names_of" 639 89 1 642,f 345 44 "may_name" (.none) (s "lanepacks.blocks" 575),c 344 "may_name" 653 94 2 658,f 352 45 "fits" (.none) (s "lanepacks.blocks" 575),c 351 "fits" 661 96 3 667,f 357 46 "is_row" (.none) (s "lanepacks.blocks" 575),b 356 "is_row" 670 102 2 673,f 364 47 "is_block" (.none) (s "lanepacks.blocks" 575),c 363 "is_block" 676 110 1 684,f 371 49 "writes" (.none) (s "lanepacks.orders" 687),c 370 "writes" 689 125 1 693,f 378 50 "is_safe_number" (.none) (s "lanepacks.orders" 687),c 377 "is_safe_number" 696 127 1 700,f 385 51 "can_fault" (.none) (s "lanepacks.orders" 687),c 384 "can_fault" 703 129 2 712,f 392 52 "share_written_cell" (.none) (s "lanepacks.orders" 687),c 391 "share_written_cell" 715 136 2 720,f 399 53 "must_stay" (.none) (s "lanepacks.orders" 687),c 398 "must_stay" 723 138 3 732,f 404 54 "must_pairs" (.none) (s "lanepacks.orders" 687),b 403 "must_pairs" 735 146 1 738,f 411 58 "is_lanes" (.none) (s "lanepacks.plans" 741),c 410 "is_lanes" 747 153 1 751,f 418 59 "may_follow" (.none) (s "lanepacks.plans" 741),c 417 "may_follow" 754 155 3 762,f 423 60 "is_pack" (.none) (s "lanepacks.plans" 741),b 422 "is_pack" 765 161 3 768,f 428 61 "rows_within" (.none) (s "lanepacks.plans" 741),b 427 "rows_within" 771 170 1 774,f 433 62 "fits_plan" (.none) (s "lanepacks.plans" 741),b 432 "fits_plan" 777 172 3 780,f 440 63 "check_lanes" (.none) (s "lanepacks.plans" 741),c 439 "check_lanes" 783 177 2 788,f 447 64 "check_plan" (.none) (s "lanepacks.plans" 741),c 446 "check_plan" 791 182 3 797,f 452 65 "rows_alone" (.none) (s "lanepacks.plans" 741),b 451 "rows_alone" 800 186 2 803,f 457 66 "nodes_of" (.none) (s "lanepacks.plans" 741),b 456 "nodes_of" 806 189 2 809,f 462 67 "waits_of" (.none) (s "lanepacks.plans" 741),b 461 "waits_of" 812 191 2 815,f 467 68 "next_node" (.none) (s "lanepacks.plans" 741),b 466 "next_node" 818 198 3 821,f 474 69 "ordered_by" (.none) (s "lanepacks.plans" 741),c 473 "ordered_by" 824 203 2 832,f 481 70 "ordered" (.none) (s "lanepacks.plans" 741),c 480 "ordered" 835 212 2 840,(543,⟨.type "dict",bb,.dict #[e P "__module__" 858 (s "lanepacks.lowering" 849),e P "__firstlineno__" 862 (.int 225 861),e P "__init__" 871 (.ref 500),e P "write" 879 (.ref 507),e P "single" 889 (.ref 514),e P "group" 897 (.ref 521),e P "brought" 903 (.ref 526),e P "shuffled" 909 (.ref 531),e P "do_alone" 915 (.ref 536),e P "do_pack" 921 (.ref 541),e P "__static_attributes__" 928 (.ref 542),e P "__dict__" 930 (.ref 545),e P "__weakref__" 932 (.ref 546),e P "__doc__" 933 (.none)] 4,#[]⟩),(544,⟨.type "type",bb,.cls {name:= "Draft",bases:=[.type "object"],mro:=[.ref 544,.type "object"],ns:=543,qualname:= "Draft"},#[bb,bb,ba (s "Draft" 851),ba (s "Draft" 859),ba (.builtin "object.__new__"),ba (.bool bc)]⟩),f 560 77 "is_cells" (.none) (s "lanepacks.running" 948),b 559 "is_cells" 952 291 2 955,f 671 100 "is_name" (.none) m,b 670 "is_name" 1118 424 1 1121,f 678 101 "with_entry" (.none) m,c 677 "with_entry" 1124 428 3 1131,f 683 102 "without_entry" (.none) m,b 682 "without_entry" 1134 432 2 1137,(692,⟨.type "tuple",bb,.seq #[.ref 691] 0,#[]⟩),fs 699 103 0 "__init__" "Shop.__init__" (.ref 692) (.none) (s "lanepacks.shops" 1112),(698,⟨.type "code",bb,.fields #[s "__init__" 1152,s "Shop.__init__" 1153,s "/claim/cut.py" 1154,.int 436 0,.int 2 0,.int 0 0,.int 0 0,.int 3 0,.ref 693,.bool bc,.int 181 0,.ref 694,.none,.ref 695,.ref 696,.ref 697,.int 1157 0,.int 436 0,s "/claim/cut.py" 1158],#[]⟩),fs 706 103 1 "known" "Shop.known" (.none) (.none) (s "lanepacks.shops" 1112),(705,⟨.type "code",bb,.fields #[s "known" 1160,s "Shop.known" 1161,s "/claim/cut.py" 1162,.int 444 0,.int 2 0,.int 0 0,.int 0 0,.int 3 0,.ref 700,.bool bc,.int 181 0,.ref 701,.none,.ref 702,.ref 703,.ref 704,.int 1165 0,.int 444 0,s "/claim/cut.py" 1166],#[]⟩),fs 713 103 2 "settle" "Shop.settle" (.none) (.none) (s "lanepacks.shops" 1112),(712,⟨.type "code",bb,.fields #[s "settle" 1168,s "Shop.settle" 1169,s "/claim/cut.py" 1170,.int 449 0,.int 5 0,.int 0 0,.int 0 0,.int 3 0,.ref 707,.bool bc,.int 181 0,.ref 708,.none,.ref 709,.ref 710,.ref 711,.int 1176 0,.int 449 0,s "/claim/cut.py" 1177],#[]⟩),fs 720 103 3 "keep" "Shop.keep" (.none) (.none) (s "lanepacks.shops" 1112),(719,⟨.type "code",bb,.fields #[s "keep" 1179,s "Shop.keep" 1180,s "/claim/cut.py" 1181,.int 455 0,.int 3 0,.int 0 0,.int 0 0,.int 3 0,.ref 714,.bool bc,.int 181 0,.ref 715,.none,.ref 716,.ref 717,.ref 718,.int 1186 0,.int 455 0,s "/claim/cut.py" 1187],#[]⟩),fs 727 103 4 "pack" "Shop.pack" (.none) (.none) (s "lanepacks.shops" 1112),(726,⟨.type "code",bb,.fields #[s "pack" 1189,s "Shop.pack" 1190,s "/claim/cut.py" 1191,.int 463 0,.int 3 0,.int 0 0,.int 1 0,.int 3 0,.ref 721,.bool bc,.int 181 0,.ref 722,.none,.ref 723,.ref 724,.ref 725,.int 1197 0,.int 463 0,s "/claim/cut.py" 1198],#[]⟩),fs 734 103 5 "outcome" "Shop.outcome" (.none) (.none) (s "lanepacks.shops" 1112),(733,⟨.type "code",bb,.fields #[s "outcome" 1200,s "Shop.outcome" 1201,s "/claim/cut.py" 1202,.int 470 0,.int 4 0,.int 0 0,.int 0 0,.int 3 0,.ref 728,.bool bc,.int 181 0,.ref 729,.none,.ref 730,.ref 731,.ref 732,.int 1215 0,.int 470 0,s "/claim/cut.py" 1216],#[]⟩),fs 742 103 6 "run" "Shop.run" (.none) (.ref 735) (s "lanepacks.shops" 1112),(741,⟨.type "code",bb,.fields #[s "run" 1219,s "Shop.run" 1220,s "/claim/cut.py" 1221,.int 484 0,.int 2 0,.int 0 0,.int 1 0,.int 3 0,.ref 736,.bool bc,.int 181 0,.ref 737,.none,.ref 738,.ref 739,.ref 740,.int 1227 0,.int 484 0,s "/claim/cut.py" 1228],#[]⟩),fs 750 103 7 "together" "Shop.together" (.none) (.ref 743) (s "lanepacks.shops" 1112),(749,⟨.type "code",bb,.fields #[s "together" 1231,s "Shop.together" 1232,s "/claim/cut.py" 1233,.int 489 0,.int 2 0,.int 0 0,.int 1 0,.int 3 0,.ref 744,.bool bc,.int 181 0,.ref 745,.none,.ref 746,.ref 747,.ref 748,.int 1241 0,.int 489 0,s "/claim/cut.py" 1242],#[]⟩),fs 757 103 8 "drop" "Shop.drop" (.none) (.none) (s "lanepacks.shops" 1112),(756,⟨.type "code",bb,.fields #[s "drop" 1244,s "Shop.drop" 1245,s "/claim/cut.py" 1246,.int 500 0,.int 2 0,.int 0 0,.int 0 0,.int 3 0,.ref 751,.bool bc,.int 181 0,.ref 752,.none,.ref 753,.ref 754,.ref 755,.int 1250 0,.int 500 0,s "/claim/cut.py" 1251],#[]⟩),fs 764 103 9 "grow" "Shop.grow" (.none) (.none) (s "lanepacks.shops" 1112),(763,⟨.type "code",bb,.fields #[s "grow" 1253,s "Shop.grow" 1254,s "/claim/cut.py" 1255,.int 505 0,.int 2 0,.int 0 0,.int 0 0,.int 3 0,.ref 758,.bool bc,.int 181 0,.ref 759,.none,.ref 760,.ref 761,.ref 762,.int 1258 0,.int 505 0,s "/claim/cut.py" 1259],#[]⟩),fs 771 103 10 "back" "Shop.back" (.none) (.none) (s "lanepacks.shops" 1112),(770,⟨.type "code",bb,.fields #[s "back" 1261,s "Shop.back" 1262,s "/claim/cut.py" 1263,.int 511 0,.int 1 0,.int 0 0,.int 0 0,.int 3 0,.ref 765,.bool bc,.int 181 0,.ref 766,.none,.ref 767,.ref 768,.ref 769,.int 1269 0,.int 511 0,s "/claim/cut.py" 1270],#[]⟩),fs 778 103 11 "cells" "Shop.cells" (.none) (.none) (s "lanepacks.shops" 1112),(777,⟨.type "code",bb,.fields #[s "cells" 1272,s "Shop.cells" 1273,s "/claim/cut.py" 1274,.int 520 0,.int 1 0,.int 0 0,.int 0 0,.int 3 0,.ref 772,.bool bc,.int 181 0,.ref 773,.none,.ref 774,.ref 775,.ref 776,.int 1276 0,.int 520 0,s "/claim/cut.py" 1277],#[]⟩),fs 785 103 12 "names" "Shop.names" (.none) (.none) (s "lanepacks.shops" 1112),(784,⟨.type "code",bb,.fields #[s "names" 1279,s "Shop.names" 1280,s "/claim/cut.py" 1281,.int 523 0,.int 1 0,.int 0 0,.int 0 0,.int 3 0,.ref 779,.bool bc,.int 181 0,.ref 780,.none,.ref 781,.ref 782,.ref 783,.int 1283 0,.int 523 0,s "/claim/cut.py" 1284],#[]⟩),fs 792 103 13 "block" "Shop.block" (.none) (.none) (s "lanepacks.shops" 1112),(791,⟨.type "code",bb,.fields #[s "block" 1286,s "Shop.block" 1287,s "/claim/cut.py" 1288,.int 526 0,.int 2 0,.int 0 0,.int 0 0,.int 3 0,.ref 786,.bool bc,.int 181 0,.ref 787,.none,.ref 788,.ref 789,.ref 790,.int 1291 0,.int 526 0,s "/claim/cut.py" 1292],#[]⟩),fs 799 103 14 "plan" "Shop.plan" (.none) (.none) (s "lanepacks.shops" 1112),(798,⟨.type "code",bb,.fields #[s "plan" 1294,s "Shop.plan" 1295,s "/claim/cut.py" 1296,.int 529 0,.int 2 0,.int 0 0,.int 0 0,.int 3 0,.ref 793,.bool bc,.int 181 0,.ref 794,.none,.ref 795,.ref 796,.ref 797,.int 1299 0,.int 529 0,s "/claim/cut.py" 1300],#[]⟩),fs 804 103 15 "log" "Shop.log" (.none) (.none) (s "lanepacks.shops" 1112),(803,⟨.type "code",bb,.fields #[s "log" 1302,s "Shop.log" 1303,s "/claim/cut.py" 1304,.int 533 0,.int 1 0,.int 0 0,.int 0 0,.int 3 0,.ref 800,.bool bc,.int 181 0,.ref 801,.none,.none,.none,.ref 802,.int 1305 0,.int 533 0,s "/claim/cut.py" 1306],#[]⟩),(834,⟨.type "dict",bb,.dict #[e P "__module__" 1147 (s "lanepacks.shops" 1112),e P "__firstlineno__" 1151 (.int 434 1150),e P "__init__" 1159 (.ref 699),e P "known" 1167 (.ref 706),e P "settle" 1178 (.ref 713),e P "keep" 1188 (.ref 720),e P "pack" 1199 (.ref 727),e P "outcome" 1217 (.ref 734),e P "run" 1229 (.ref 742),e P "together" 1243 (.ref 750),e P "drop" 1252 (.ref 757),e P "grow" 1260 (.ref 764),e P "back" 1271 (.ref 771),e P "cells" 1278 (.ref 778),e P "names" 1285 (.ref 785),e P "block" 1293 (.ref 792),e P "plan" 1301 (.ref 799),e P "log" 1307 (.ref 804),e P "twin" 1314 (.ref 811),e P "__eq__" 1322 (.ref 818),e P "__len__" 1329 (.ref 825),e P "__str__" 1336 (.ref 832),e P "__static_attributes__" 1341 (.ref 833),e P "__dict__" 1343 (.ref 836),e P "__weakref__" 1345 (.ref 837),e P "__doc__" 1346 (.none),e P "__hash__" 1347 (.none)] 5,#[]⟩),(835,⟨.type "type",bb,.cls {name:= "Shop",bases:=[.type "object"],mro:=[.ref 835,.type "object"],ns:=834,qualname:= "Shop"},#[bb,bb,ba (s "Shop" 1140),ba (s "Shop" 1148),ba (.builtin "object.__new__"),ba (.bool bc)]⟩),f 846 105 "_law_cell_at" (.none) (s "law_lanepacks_k41_shops_refused" 1350),c 845 "_law_cell_at" 1352 550 2 1359,f 853 106 "_law_mixed" (.none) (s "law_lanepacks_k41_shops_refused" 1350),c 852 "_law_mixed" 1362 559 3 1369,f 860 107 "_law_draw" (.none) (s "law_lanepacks_k41_shops_refused" 1350),c 859 "_law_draw" 1372 562 3 1378,f 867 108 "_law_pick" (.none) (s "law_lanepacks_k41_shops_refused" 1350),c 866 "_law_pick" 1381 565 3 1387,f 874 109 "_law_which" (.none) (s "law_lanepacks_k41_shops_refused" 1350),c 873 "_law_which" 1390 567 1 1395,f 881 110 "_law_none" (.none) (s "law_lanepacks_k41_shops_refused" 1350),c 880 "_law_none" 1398 575 2 1404,f 888 111 "_law_ask" (.none) (s "law_lanepacks_k41_shops_refused" 1350),c 887 "_law_ask" 1407 582 5 1416,f 895 112 "_law_at_first" (.none) (s "law_lanepacks_k41_shops_refused" 1350),c 894 "_law_at_first" 1419 605 3 1426,f 900 113 "law" (.none) (s "law_lanepacks_k41_shops_refused" 1350),b 899 "law" 1429 617 1 1432]
noncomputable def A:List Nat:=[2,3,30,31,43,44,55,56,74,75,86,87,98,99,110,111,122,123,134,135,146,147,163,162,165,166,177,178,189,190,206,205,208,209,220,221,224,231,230,288,296,297,298,299,300,301,302,303,304,305,312,311,319,318,326,325,331,330,345,344,352,351,357,356,364,363,371,370,378,377,385,384,392,391,399,398,404,403,411,410,418,417,423,422,428,427,433,432,440,439,447,446,452,451,457,456,462,461,467,466,474,473,481,480,543,544,560,559,671,670,678,677,683,682,692,699,698,706,705,713,712,720,719,727,726,734,733,742,741,750,749,757,756,764,763,771,770,778,777,785,784,792,791,799,798,804,803,834,835,846,845,853,852,860,859,867,866,874,873,881,880,888,887,895,894,900,899]
noncomputable def view:Ao:={Kw with main:={PySem.Challenge.pw_lanepacks_k41_shops_refused.main with body:=[0,2,3,4,5,6,7,8,9,10,11,12,13,14,15,16,18,19,20,21,22,23,24,25,26,27,28,29,30,32,33,34,35,36,37,38,39,40,41,42,43,44,45,46,47,49,50,51,52,53,54,56,57,58,59,60,61,62,63,64,65,66,67,68,69,70,71,73,74,76,77,78,79,81,83,84,85,86,87,88,89,90,91,92,93,94,95,96,98,99,100,101,102,103,105,106,107,108,109,110,111,112,113].map RR.top}}
abbrev lo:List Uq:=["MADE","OTHER_PARTS","do_row","Shop"]
def kA(P:Nq):A=(K P).map (·.1):=by kernel_rfl
noncomputable def X(s:Ad):Bool:=xlAt view [] s&&recOk (RowW.records (OpenRow.toRowW PySem.Challenge.rw_lanepacks_k41_shops_refused.row)) s
noncomputable abbrev H:Hook:=kHook K A kA
abbrev pr:Ao:=PySem.Challenge.rw_lanepacks_k41_shops_refused.row.prog
theorem mapP{β α0 α1 α2 α3 α4 α5 α6 α7 α8:Type}{o:Option β}{f:β->α0×α1×α2×α3×α4×α5×α6×α7×α8}{a0:α0}{a1:α1}{a2:α2}{a3:α3}{a4:α4}{a5:α5}{a6:α6}{a7:α7}{a8:α8}(h0:o.map (λq=>((f q).1,(f q).2.1,(f q).2.2.1))=ba (a0,a1,a2))(h1:o.map (λq=>((f q).2.2.2.1,(f q).2.2.2.2.1,(f q).2.2.2.2.2.1,(f q).2.2.2.2.2.2.1,(f q).2.2.2.2.2.2.2.1,(f q).2.2.2.2.2.2.2.2))=ba (a3,a4,a5,a6,a7,a8)):o.map f=ba (a0,a1,a2,a3,a4,a5,a6,a7,a8):=by cases o with
 |none=>cases h0
 |some q=>cases h0;cases h1;rfl
theorem gqE:openGood view lo=((⟨(PySem.W.Fast.tw3399658132070893891 view).map λd=>Option.some d.shape,Bool.true,[],Bool.true,Bool.true,Bool.true,0⟩:PyProof.Rows.Seen),PySem.bltViewBooted,Bool.true,Bool.true,((PySem.W.Fast.tw3247288618530077131 view).map λd=>Option.some d.1.shape,Bool.true),((PySem.W.Fast.tw210736558901404530 view (PySem.W.Fast.tw821141287760084731 view lo)).map λc=>Option.some (PySem.W.Fast.tw12515865711710729776 c).plainShape),((PySem.W.Fast.tw4354255287344443571 view lo).map λc=>Option.some (c.plainShape,Bool.true)),((PySem.W.Fast.tw694669760492028198 view).map λd=>Option.some d.1.shape,Bool.true),((PySem.W.Fast.tw1571739515156823405 view lo).map λc=>(PySem.W.wclsGood c,Option.some (c.plainShape,Bool.true)))):=by rw[←PySem.W.Fast.te3399658132070893891,←PySem.W.Fast.te3247288618530077131,←PySem.W.Fast.te210736558901404530,←PySem.W.Fast.te821141287760084731,←PySem.W.Fast.te12515865711710729776,←PySem.W.Fast.te4354255287344443571,←PySem.W.Fast.te694669760492028198,←PySem.W.Fast.te1571739515156823405];rfl
set_option maxRecDepth 100000 in
set_option maxHeartbeats 0 in
theorem rAfp(w:Uw):(PJ pr (w.withFollow "special-get-raises" be) 14434).map (λq=>((Kg view lo (Js pr.main.body) X bc q.2).1,(Kg view lo (Js pr.main.body) X bc q.2).2.1,(Kg view lo (Js pr.main.body) X bc q.2).2.2.1))=ba ((⟨(PySem.W.Fast.tw3399658132070893891 view).map λd=>Option.some d.shape,Bool.true,[],Bool.true,Bool.true,Bool.true,0⟩:PyProof.Rows.Seen),PySem.bltViewBooted,Bool.true):=by kernel_rfl
set_option maxRecDepth 100000 in
set_option maxHeartbeats 0 in
theorem rCf(w:Uw):(PJ pr (w.withFollow "special-get-raises" be) 14434).map (λq=>((Kg view lo (Js pr.main.body) X bc q.2).2.2.2.1,(Kg view lo (Js pr.main.body) X bc q.2).2.2.2.2.1,(Kg view lo (Js pr.main.body) X bc q.2).2.2.2.2.2.1,(Kg view lo (Js pr.main.body) X bc q.2).2.2.2.2.2.2.1,(Kg view lo (Js pr.main.body) X bc q.2).2.2.2.2.2.2.2.1,(Kg view lo (Js pr.main.body) X bc q.2).2.2.2.2.2.2.2.2))=ba (Bool.true,((PySem.W.Fast.tw3247288618530077131 view).map λd=>Option.some d.1.shape,Bool.true),((PySem.W.Fast.tw210736558901404530 view (PySem.W.Fast.tw821141287760084731 view lo)).map λc=>Option.some (PySem.W.Fast.tw12515865711710729776 c).plainShape),((PySem.W.Fast.tw4354255287344443571 view lo).map λc=>Option.some (c.plainShape,Bool.true)),((PySem.W.Fast.tw694669760492028198 view).map λd=>Option.some d.1.shape,Bool.true),((PySem.W.Fast.tw1571739515156823405 view lo).map λc=>(PySem.W.wclsGood c,Option.some (c.plainShape,Bool.true)))):=by kernel_rfl
theorem rAf(w:Uw):(PJ pr (w.withFollow "special-get-raises" be) 14434).map (λq=>Kg view lo (Js pr.main.body) X bc q.2)=ba (openGood view lo):=by rw[gqE];exact mapP (rAfp w) (rCf w)
set_option maxRecDepth 100000 in
set_option maxHeartbeats 0 in
theorem rBf(w:Uw):(PJ pr (w.withFollow "special-get-raises" be) 14434).map (λq=>(chkU pr q.1 q.2,H.obs q.2))=ba ((bc,H.val (w.withFollow "special-get-raises" be))):=by kernel_rfl
set_option maxRecDepth 100000 in
set_option maxHeartbeats 0 in
theorem rAtp(w:Uw):(PJ pr (w.withFollow "special-get-raises" bc) 14434).map (λq=>((Kg view lo (Js pr.main.body) X bc q.2).1,(Kg view lo (Js pr.main.body) X bc q.2).2.1,(Kg view lo (Js pr.main.body) X bc q.2).2.2.1))=ba ((⟨(PySem.W.Fast.tw3399658132070893891 view).map λd=>Option.some d.shape,Bool.true,[],Bool.true,Bool.true,Bool.true,0⟩:PyProof.Rows.Seen),PySem.bltViewBooted,Bool.true):=by kernel_rfl
set_option maxRecDepth 100000 in
set_option maxHeartbeats 0 in
theorem rCt(w:Uw):(PJ pr (w.withFollow "special-get-raises" bc) 14434).map (λq=>((Kg view lo (Js pr.main.body) X bc q.2).2.2.2.1,(Kg view lo (Js pr.main.body) X bc q.2).2.2.2.2.1,(Kg view lo (Js pr.main.body) X bc q.2).2.2.2.2.2.1,(Kg view lo (Js pr.main.body) X bc q.2).2.2.2.2.2.2.1,(Kg view lo (Js pr.main.body) X bc q.2).2.2.2.2.2.2.2.1,(Kg view lo (Js pr.main.body) X bc q.2).2.2.2.2.2.2.2.2))=ba (Bool.true,((PySem.W.Fast.tw3247288618530077131 view).map λd=>Option.some d.1.shape,Bool.true),((PySem.W.Fast.tw210736558901404530 view (PySem.W.Fast.tw821141287760084731 view lo)).map λc=>Option.some (PySem.W.Fast.tw12515865711710729776 c).plainShape),((PySem.W.Fast.tw4354255287344443571 view lo).map λc=>Option.some (c.plainShape,Bool.true)),((PySem.W.Fast.tw694669760492028198 view).map λd=>Option.some d.1.shape,Bool.true),((PySem.W.Fast.tw1571739515156823405 view lo).map λc=>(PySem.W.wclsGood c,Option.some (c.plainShape,Bool.true)))):=by kernel_rfl
theorem rAt(w:Uw):(PJ pr (w.withFollow "special-get-raises" bc) 14434).map (λq=>Kg view lo (Js pr.main.body) X bc q.2)=ba (openGood view lo):=by rw[gqE];exact mapP (rAtp w) (rCt w)
set_option maxRecDepth 100000 in
set_option maxHeartbeats 0 in
theorem rBt(w:Uw):(PJ pr (w.withFollow "special-get-raises" bc) 14434).map (λq=>(chkU pr q.1 q.2,H.obs q.2))=ba ((bc,H.val (w.withFollow "special-get-raises" bc))):=by kernel_rfl
def hl:LeftO pr view lo X H.obs H.val 14434:=λw=>byRow2 "special-get-raises" (P:=λw=>(Tb treeTable pr w 14434).map (λs=>(openSeen view lo (Js pr.main.body) X bc s,H.obs s))=ba (openGood view lo,H.val w)) (λw=>mapQ (by rw[Kh];exact rAf w) (rBf w)) (λw=>mapQ (by rw[Kh];exact rAt w) (rBt w)) w
set_option maxRecDepth 100000 in
set_option maxHeartbeats 0 in
theorem said:PySem.Challenge.rw_lanepacks_k41_shops_refused.wellSaid=bc:=by rw[Fast.te9446332074065402090];kernel_rfl
end KK
namespace L2
open PySem PySem.Spec PyProof.Rows
abbrev Z2:=Sum Int Uq
def JX:Z2->Uo->Bool
 |.inl k,v=>Ue k v
 |.inr x,v=>Tc x v
def keyH(w:Uw):Z2->Int
 |.inl k=>hashInt k
 |.inr x=>hashStr w x
theorem Z8:∀{k:Z2}{v:Uo},JX k v=bc->(∃i t,k=Fl i/\v=Op i t)∨(∃x t,k=Ml x/\v=Oq x t)
 |.inl i,v,h=>by obtain⟨t,e⟩:=Value.isInt_shape (k:=i) (v:=v) h;exact .inl ⟨i,t,rfl,e⟩
 |.inr x,v,h=>by obtain⟨t,e⟩:=Value.isStrOf_shape (x:=x) (v:=v) h;exact .inr ⟨x,t,rfl,e⟩
def dJ(i:Int)(t:Vi):JX (.inl i) (.int i t)=bc:=by simp[JX,Ue]
def qU(x:Uq)(t:Vi):JX (.inr x) (.str x t)=bc:=by simp[JX,Tc]
def hV(a b:Int):decide ((Fl a:Z2)=Fl b)=(a==b):=by
 by_cases e:a=b;subst e;simp;have h : ¬ (Fl a : Z2) = Fl b := λq => e (Rt q);rw[decide_eq_false h];exact(beq_eq_false_iff_ne.mpr e).symm
def jJ(a b:Uq):decide ((Ml a:Z2)=Ml b)=decide (a=b):=by
 by_cases e:a=b;subst e;simp;have h : ¬ (Ml a : Z2) = Ml b := λq => e (Sum.inr.inj q);rw[decide_eq_false h,decide_eq_false e]
def sY(a:Int)(b:Uq):decide ((Fl a:Z2)=Ml b)=be:=decide_eq_false (λq=>nomatch q)
def sS(a:Uq)(b:Int):decide ((Ml a:Z2)=Fl b)=be:=decide_eq_false (λq=>nomatch q)
def aW(prog:Ao)(w:Uw):PySem.KeyKind prog w Z2 where
 is:=JX
 hash:=keyH w
 inj:=λv a b l f=>by
  rcases Z8 l with⟨i,t,rfl,rfl⟩|⟨x,t,rfl,rfl⟩;rcases Z8 f with⟨j,u,rfl,e⟩|⟨y,u,rfl,e⟩;injection e with c _;rw[c];exact nomatch e;rcases Z8 f with⟨j,u,rfl,e⟩|⟨y,u,rfl,e⟩;exact nomatch e;injection e with c _;rw[c]
 byValue:=λk v h=>by
  rcases Z8 h with⟨i,t,rfl,rfl⟩|⟨x,t,rfl,rfl⟩<;>rfl
 pyHash:=λd h=>by
  rcases Z8 d with⟨i,t,rfl,rfl⟩|⟨x,t,rfl,rfl⟩;exact wpAny_pyHash_int h;exact wpAny_pyHash_str h
 eqBool:=λg d h=>by
  rcases Z8 g with⟨i,t,rfl,rfl⟩|⟨x,t,rfl,rfl⟩;rcases Z8 d with⟨j,u,rfl,rfl⟩|⟨y,u,rfl,rfl⟩;rw[hV]at h;exact wpAny_eqBool_int h;rw[sY]at h;exact SeqAt.EqAt.int_str i t y u _ _ _ _ h;rcases Z8 d with⟨j,u,rfl,rfl⟩|⟨y,u,rfl,rfl⟩;rw[sS]at h;exact SeqAt.EqAt.str_int x t j u _ _ _ _ h;rw[jJ]at h;exact wpAny_eqBool_str h
 «strs» :=λk x t v h=>by
  rcases Z8 h with⟨i,u,rfl,e⟩|⟨y,u,rfl,e⟩;exact nomatch e
  ·injection e with c _
   subst c;cases v<;>rfl
def F1(prog:Ao)(w:Uw)(i:Int)(t:Vi):(aW prog w).is (.inl i) (.int i t)=bc:=dJ i t
def F2(prog:Ao)(w:Uw)(x:Uq)(t:Vi):(aW prog w).is (.inr x) (.str x t)=bc:=qU x t
inductive V where
 |non|bl (b:Bool)|int (i:Int)|str (x:Uq)|byt (b:Array UInt8)|flt (b:UInt64)|ref (a:Up)|ty (n:String)
 deriving DecidableEq
def b3:V->Uo->Prop
 |.non,u=>u=Value.none
 |.bl b,u=>u=Gy b
 |.int i,u=>∃t,u=Op i t
 |.str x,u=>∃t,u=Oq x t
 |.byt b,u=>∃t,u=Uf b t
 |.flt b,u=>∃t,u=Ru b t
 |.ref a,u=>u=An a
 |.ty n,u=>u=Gz n
abbrev bS:List V->List Uo->Prop:=Paired b3
def bS.length{xs:List V}{us:List Uo}(r:bS xs us):xs.length=us.length:=Hz r
theorem bS.get:∀{xs:List V}{us:List Uo}{i:Nat}{x:V},bS xs us->xs[i]?=ba x->∃u,us[i]?=ba u/\b3 x u
 |_,_,_,_,.nil,e=>by simp at e
 |_,_,0,_,.cons r _,e=>by simp at e;subst e;exact⟨_,rfl,r⟩
 |_,_,i+1,x,.cons _ t,e=>by obtain⟨u,b,a⟩:=bS.get (i:=i) (x:=x) t (by simpa using e);exact⟨u,by simpa using b,a⟩
theorem bS.append:∀{xs ys:List V}{us a:List Uo},bS xs us->bS ys a->bS (xs++ys) (us++a)
 |_,_,_,_,.nil,s=>s
 |_,_,_,_,.cons r t,s=>.cons r (bS.append t s)
theorem bS.take:∀{xs:List V}{us:List Uo}(n:Nat),bS xs us->bS (xs.take n) (us.take n)
 |_,_,0,_=>.nil
 |_,_,_+1,.nil=>.nil
 |_,_,n+1,.cons r t=>.cons r (bS.take n t)
theorem bS.drop:∀{xs:List V}{us:List Uo}(n:Nat),bS xs us->bS (xs.drop n) (us.drop n)
 |_,_,0,r=>r
 |_,_,_+1,.nil=>.nil
 |_,_,n+1,.cons _ t=>bS.drop n t
def WJ:Option V->Option Uo->Prop
 |some v,ba u=>b3 v u
 |none,bb=>True
 |_,_=>False
def KV{κ:Type}:List (κ×V)->List (κ×Uo)->Prop:=Paired λ(p:κ×V) (q:κ×Uo)=>p.1=q.1/\b3 p.2 q.2
def kV:Z2->V
 |.inl i=>.int i
 |.inr x=>.str x
inductive HO where
 |lst (xs:List V)
 |tup (xs:List V)
 |dK (kvs:List (Z2×V))|dT (kvs:List (List Z2×V))
 |set (S:Int->Bool) (n:Nat)
 |ins (C dx:Up) (fs:List (Uq×V))
 |own (x:Up)
 |xd (fs:List (Uq×V))
 |met (f x:Up)
 |shp (C dx:Up) (fs:List (Uq×V)) (g:Uq) (p:Up) (xs:List V)
 |rng (lo hi:Int)
 |frz (o:Vc) (u:HO)
 |tbl (ps:Array Uo)
 |ext (φ:Uy->Prop)
abbrev Hp:=Up->Option HO
def upd(H:Hp)(a:Up)(o:HO):Hp:=λb=>if b=a then ba o else H b
def cM{H:Hp}{a:Up}{o:HO}:upd H a o a=ba o:=by unfold upd;rw[if_pos rfl]
def cL{H:Hp}{a b:Up}{o:HO}(h:b≠a):upd H a o b=H b:=by unfold upd;rw[if_neg h]
def RI{H:Hp}{a b:Up}{o u:HO}(h:H a=ba o)(h':H b=ba u)(d:o≠u):a≠b:=by intro e;subst e;rw[h]at h';exact d (Cg h')
def aU{H:Hp}{a b:Up}{o:HO}(h:H a=ba o)(h':H b=bb):a≠b:=by intro e;subst e;rw[h]at h';cases h'
section
variable(P:Ao)(w:Uw)
def a5(H:Hp)(h:Uy)(a:Up):HO->Prop
 |.lst c=>c.length<=sizeLine/\∃(b:List Uo) (n:Nat),bS c b/\h.get? a=ba {cls:=.type "list",data:=.seq b.toArray n}
 |.tup c=>c.length<=sizeLine/\∃b:List Uo,bS c b/\IsTup h a b.toArray
 |.dK kvs=>kvs.length<=sizeLine/\(a==Dv)=be/\∃j,KV kvs j/\h.DictOf (aW P w) a j
 | .dT kvs => kvs.length <= sizeLine /\ (a == Dv) = be /\ ∃ c : List (List Z2 × Up × Uo),
   Paired (λ(p:List Z2×V) (q:List Z2×Up×Uo)=>p.1=q.1/\H q.2.1=ba (.tup (p.1.map kV))/\b3 p.2 q.2.2) kvs c∧
   ∃o m s,h.get? a=ba o/\o.ExactDict/\o.data=.dict m s/\m.toList=c.map (entryOfKey (tupleKind (aW P w)))/\(c.map (·.1)).Nodup
 |.set S n=>h.SetOf (intKind P w) a S n
 | .ins C e fs => H e = ba (.own a) /\ fs.length <= 1000 /\ e ≠ a /\ h.get? a = ba (Jd C e) ∧
   ∃d,h.Ns1 e d/\(∀f,WJ (fs.lookup f) (d f))/\Mm d (fs.map (·.1))
 |.own _=>∃o,h.get? a=ba o
 |.xd fs=>∃d,h.Ns1 a d/\∀f,WJ (fs.lookup f) (d f)
 |.rng lo r=>∃t u v,h.get? a=ba {cls:=.type "range",data:=.fields #[.int lo t,.int r u,.int 1 v]}
 |.frz o u=>h.get? a=ba o/\a5 H h a u
 |.tbl ps=>h.get? a=ba {cls:=.none,data:=.fields ps}
 |.met f x=>h.get? a=ba (Rv (.ref f) (.ref x))
 | .shp C e fs g p c => (H e = ba (.own a) /\ H p = ba (.own a)) /\ (e ≠ a /\ p ≠ e /\ p ≠ a /\ fs.length < 500) /\ h.get? a = ba (Jd C e) ∧
   (∃d,h.Ns1 e d/\(∀n,WJ ((fs++[(g,(.ref p:V))]).lookup n) (d n))/\Mm d ((fs++[(g,(.ref p:V))]).map (·.1)))∧
   (c.length<=sizeLine/\∃(b:List Uo) (n:Nat),bS c b/\h.get? p=ba {cls:=.type "list",data:=.seq b.toArray n})
 |.ext i=>i h/\(∃o,h.get? a=ba o)/\∀l k:Uy,i l->(∀o,l.get? a=ba o->k.get? a=ba o)->i k
def T6(H:Hp)(h:Uy):Prop:=∀a o,H a=ba o->a5 P w H h a o
end
section
variable{P:Ao}{w:Uw}{H H':Hp}{h h':Uy}{a:Up}{o:HO}
def a5.lt(x:a5 P w H h a o):a<h.objs.size:=by
 cases o with
 |lst c=>obtain⟨_,_,_,_,e⟩:=x;exact Aj e
 |tup c=>obtain⟨_,_,_,p⟩:=x;exact p.lt
 |dK b=>obtain⟨_,_,_,_,o,_,_,e,_⟩:=x;exact Aj e
 |dT b=>obtain⟨_,_,_,_,o,_,_,e,_⟩:=x;exact Aj e
 |set S n=>obtain⟨o,_,_,_,e,_⟩:=x;exact Aj e
 |ins C d fs=>obtain⟨_,_,_,e,_⟩:=x;exact Aj e
 |own y=>obtain⟨_,e⟩:=x;exact Aj e
 |xd fs=>obtain⟨_,⟨_,_,_,e,_⟩,_⟩:=x;exact Aj e
 |rng lo l=>obtain⟨_,_,_,e⟩:=x;exact Aj e
 |frz k u=>obtain⟨e,_⟩:=x;exact Aj e
 |tbl j=>exact Aj (show h.get? a=ba _ from x)
 |met f y=>exact Aj (show h.get? a=ba _ from x)
 |shp C d fs g p c=>obtain⟨_,_,e,_⟩:=x;exact Aj e
 |ext i=>obtain⟨_,⟨_,e⟩,_⟩:=x;exact Aj e
theorem Paired.mapP{g e:Type}{F G:g->e->Prop}:∀{d:List g}{c:List e},Paired F d c->(∀a b,F a b->G a b)->Paired G d c
 |_,_,.nil,_=>.nil
 |_,_,.cons r t,f=>.cons (f _ _ r) (Paired.mapP t f)
def a5.stay(x:a5 P w H h a o)(k:∀b u,(b=a∨H b=ba (.own a))->h.get? b=ba u->h'.get? b=ba u)(D:∀b,H b=ba (.own a)->H' b=ba (.own a))(Q:∀b xs,H b=ba (.tup xs)->H' b=ba (.tup xs)):a5 P w H' h' a o:=by
 induction o with
 |lst xs=>obtain⟨z,m,n,r,e⟩:=x;exact⟨z,m,n,r,k _ _ (.inl rfl) e⟩
 |tup xs=>obtain⟨z,m,r,l,e,c⟩:=x;exact⟨z,m,r,l,k _ _ (.inl rfl) e,c⟩
 |dK B=>obtain⟨z,y,K,r,l,i,j,e,c⟩:=x;exact⟨z,y,K,r,l,i,j,k _ _ (.inl rfl) e,c⟩
 |dT B=>
  obtain⟨z,y,xs,r,l,i,j,e,c⟩:=x;exact⟨z,y,xs,Paired.mapP r λp q z=>⟨z.1,Q _ _ z.2.1,z.2.2⟩,l,i,j,k _ _ (.inl rfl) e,c⟩
 |set S n=>obtain⟨l,i,j,t,e,c⟩:=x;exact⟨l,i,j,t,k _ _ (.inl rfl) e,c⟩
 |ins C T fs=>
  obtain⟨d,z,A,e,s,⟨od,i,j,E,c⟩,r⟩:=x;exact⟨D _ d,z,A,k _ _ (.inl rfl) e,s,⟨od,i,j,k _ _ (.inr d) E,c⟩,r⟩
 |own y=>obtain⟨l,e⟩:=x;exact⟨l,k _ _ (.inl rfl) e⟩
 |xd fs=>obtain⟨s,⟨od,i,j,e,c⟩,r⟩:=x;exact⟨s,⟨od,i,j,k _ _ (.inl rfl) e,c⟩,r⟩
 |rng lo V=>obtain⟨t,u,v,e⟩:=x;exact⟨t,u,v,k _ _ (.inl rfl) e⟩
 |frz l u N=>obtain⟨e,q⟩:=x;exact⟨k _ _ (.inl rfl) e,N q⟩
 |tbl F=>
  have e:h.get? a=ba {cls:=.none,data:=.fields F}:=x;show h'.get? a=ba {cls:=.none,data:=.fields F};exact k a _ (.inl rfl) e
 |met f y=>
  have e:h.get? a=ba (Rv (.ref f) (.ref y)):=x;show h'.get? a=ba (Rv (.ref f) (.ref y));exact k a _ (.inl rfl) e
 |shp C T fs g p xs=>
  obtain⟨⟨I,G⟩,A,e,⟨s,⟨od,i,j,E,c⟩,r⟩,J,O,M,L,R⟩:=x;exact⟨⟨D _ I,D _ G⟩,A,k _ _ (.inl rfl) e,⟨s,⟨od,i,j,k _ _ (.inr I) E,c⟩,r⟩,J,O,M,L,k _ _ (.inr G) R⟩
 |ext U=>obtain⟨p,⟨o,e⟩,st⟩:=x;exact⟨st _ _ p λo q=>k _ _ (.inl rfl) q,⟨o,k _ _ (.inl rfl) e⟩,st⟩
def T6.lt(x:T6 P w H h)(e:H a=ba o):a<h.objs.size:=(x a o e).lt
def T6.fresh(x:T6 P w H h)(e:h.objs.size<=a):H a=bb:=by
 cases q:H a with
 |none=>rfl
 |some u=>exact absurd (Ba (x.lt q) e) (Di _)
def T6.kept(x:T6 P w H h)(k:∀b u,h.get? b=ba u->h'.get? b=ba u):T6 P w H h':=λa o e=>
 (x a o e).stay (λb u _ q=>k b u q) (λ_ q=>q) λ_ _ q=>q
def T6.laid(x:T6 P w H h)(k:∀b u,h.get? b=ba u->h'.get? b=ba u)(g:h.objs.size<=a)(new:a5 P w (upd H a o) h' a o):T6 P w (upd H a o) h':=λb u e=>by
 have d:=x.fresh g;by_cases f:b=a;subst f;rw[cM]at e;cases e;exact new;rw[cL f]at e;exact(x b u e).stay (λc v _ q=>k c v q) (λc q=>by rw[cL (aU q d)];exact q) λc i q=>by rw[cL (aU q d)];exact q
end
def Rd(H:Hp)(a:Up)(u:HO):Prop:=H a=ba u∨∃o,H a=ba (.frz o u)
def Rd.ok{P:Ao}{w:Uw}{H:Hp}{h:Uy}{a:Up}{u:HO}(r:Rd H a u)(x:T6 P w H h):a5 P w H h a u:=by
 rcases r with r|⟨o,r⟩;exact x a u r;obtain⟨_,q⟩:=x a _ r;exact q
def Mut:Option HO->Prop
 |some (.lst _)=>True
 |some (.dK _)=>True
 |some (.dT _)=>True
 |some (.set _ _)=>True
 |some (.ins _ _ _)=>True
 |some (.shp _ _ _ _ _ _)=>True
 |some (.ext _)=>True
 |_=>False
section
variable{P:Ao}{w:Uw}{H:Hp}{h h':Uy}{x e:Up}{o':HO}
def T6.write(ok:T6 P w H h)(f:Mut (H x))(m:e=x∨H e=ba (.own x))(k:∀b u,b≠e->h.get? b=ba u->h'.get? b=ba u)(i:∃u,h'.get? e=ba u)
  (new:a5 P w (upd H x o') h' x o'):T6 P w (upd H x o') h':=λb u q=>by
 have j:∀c y,H c=ba (.own y)->c≠x:=λc y r z=>by subst z;rw[r]at f;exact f
 have n:∀c d,H c=ba (.tup d)->c≠x:=λc d r z=>by subst z;rw[r]at f;exact f
 by_cases g:b=x;subst g;rw[cM]at q;cases q;exact new;rw[cL g]at q;by_cases a:b=e;have l:H b=ba (.own x):=by
  rcases m with z|z;exact absurd (a.trans z) g;rw[a];exact z
 rw[q]at l;cases l;obtain⟨v,o⟩:=i;exact⟨v,by rw[a];exact o⟩;refine (ok b u q).stay (λc v hc r => k c v ?_ r) (λc r => by rw [cL (j c b r)];exact r) λc d r => by rw [cL (n c d r)];exact r
 rcases hc with rfl|hc;exact a;rintro rfl;rcases m with z|z;exact j c b hc z;rw[hc]at z;cases z;exact g rfl
end
structure Un(fs ex:List Up)(H H':Hp)(h h':Uy):Prop where
 keep:∀b o,h.get? b=ba o->H b=bb->b∉fs->b∉ex->h'.get? b=ba o
 slot:∀b o,h.get? b=ba o->H b=bb->b∈fs->b∉ex->∃sl,h'.get? b=ba {o with slots:=sl}
 free:∀b o,h.get? b=ba o->H b=bb->b∉ex->H' b=bb
 there:∀b o,h.get? b=ba o->b∉ex->∃o',h'.get? b=ba o'
 tups:∀b xs,H b=ba (.tup xs)->H' b=ba (.tup xs)
 frzs:∀b o u,H b=ba (.frz o u)->H' b=ba (.frz o u)
 tbls:∀b ps,H b=ba (.tbl ps)->∃iy,H' b=ba (.tbl (ps++iy))
section
variable{fs fs' ex ex':List Up}{H H1 H2:Hp}{h h1 h2 h':Uy}{a x e:Up}{o:HO}
def Un.any(u:Un fs ex H H1 h h1){b:Up}{ob:Vc}(q:h.get? b=ba ob)(n:H b=bb)(c:b∉ex):∃e,h1.get? b=ba {ob with slots:=e}:=by
 by_cases d:b∈fs;exact u.slot b ob q n d c;exact⟨ob.slots,u.keep b ob q n d c⟩
def Un.kept(k:∀b u,h.get? b=ba u->h'.get? b=ba u):Un fs ex H H h h':=
 ⟨λb a q _ _ _=>k b a q,λb a q _ _ _=>⟨a.slots,k b a q⟩,λ_ _ _ n _=>n,λb a q _=>⟨a,k b a q⟩,λ_ _ q=>q,λ_ _ _ q=>q,λ_ c q=>⟨#[],by rw[q];simp⟩⟩
def Un.refl:Un fs ex H H h h:=Un.kept λ_ _ q=>q
def Un.laid(k:∀b u,h.get? b=ba u->h'.get? b=ba u)(e:h.objs.size<=a)(c:H a=bb):Un fs ex H (upd H a o) h h' where
 keep:=λb u q _ _ _=>k b u q
 slot:=λb u q _ _ _=>⟨u.slots,k b u q⟩
 free:=λb u q n _=>by rw[cL (Ap (Ba (Aj q) e))];exact n
 there:=λb u q _=>⟨u,k b u q⟩
 tups:=λb d q=>by rw[cL (aU q c)];exact q
 frzs:=λb u d q=>by rw[cL (aU q c)];exact q
 tbls:=λb f q=>⟨#[],by rw[cL (aU q c),q];simp⟩
def Un.write(c:Mut (H x))(m:e=x∨H e=ba (.own x))(k:∀b u,b≠e->h.get? b=ba u->h'.get? b=ba u)(f:∃u,h'.get? e=ba u):Un fs ex H (upd H x o) h h':=by
 have g:∀b,H b=bb->b≠x:=λb n z=>by subst z;rw[n]at c;exact c
 have i:∀b,H b=bb->b≠e:=λb n z=>by
  subst z;rcases m with r|r;exact g b n r;rw[n]at r;cases r
 have d:∀b u,H b=ba u->¬Mut (ba u)->b≠x:=λb u q l z=>by subst z;rw[q]at c;exact l c
 refine⟨λb u q n _ _=>k b u (i b n) q,λb u q n _ _=>⟨u.slots,k b u (i b n) q⟩,λb u q n _=>by rw[cL (g b n)];exact n,λb u q _=>?_,λb j q=>by rw[cL (d b _ q λz=>z)];exact q,λb u j q=>by rw[cL (d b _ q λz=>z)];exact q,λb p q=>⟨#[],by rw[cL (d b _ q λz=>z),q];simp⟩⟩;by_cases a:b=e;subst a;exact f;exact⟨u,k b u a q⟩
end
def trk(h:Uy)(H:Hp):List Up:=(At h.objs.size).filter λa=>(H a).isSome
def HM(h:Uy)(H:Hp):Uy:=Rw h (trk h H)
def lK(h:Uy)(H:Hp):(HM h H).objs.size=h.objs.size:=W.hideAll_size _ _
def nG{h:Uy}{H:Hp}{b:Up}{o:Vc}(e:h.get? b=ba o)(n:H b=bb):(HM h H).get? b=ba o:=
 Lm _ e λa=>by have q:(H b).isSome=bc:=(Rx.mp a).2;rw[n]at q;simp at q
def tX{h:Uy}{H:Hp}{b:Up}{o:Vc}(e:(HM h H).get? b=ba o):h.get? b=ba o/\H b=bb:=by
 have a:h.get? b=ba o:=Qo (trk h H) e;refine⟨a,?_⟩;cases q:H b with
 |none=>rfl
 |some x=>
  have c:b∈trk h H:=Rx.mpr ⟨Dx.mpr (Aj a),by simp[q]⟩;have z:(HM h H).get? b=bb:=Nr (trk h H) c;rw[z]at e;cases e
structure Mod(K:Ag)(mg:Uq->Option Uo)(base:Uy):Prop where
 kin:K.In base
 glob:base.Ns Ur mg
 blt:∃mb,base.Ns builtinsNs mb/\∀x:Uq,x≠ "__name__" ->mb x=Bm x
 nolimit:base.NoLimit
structure Cx where
 prog:Ao
 w:Uw
 K:Ag
 mg:Uq->Option Uo
 base:Uy
 A:Bp
 N:List Uq
 s₀:Ad
 H₀:Hp
 env:Env
 outer:List Env
 stack:List Env
 ex:List Up
 fn:Uq->Bool
 calm:Bool
 pn:List (Up×Vc)
 xe:Uo->Ad->Prop
def TW(l:List Env):List Up:=l.filterMap (·.frame)
abbrev Cx.fs(X:Cx):List Up:=TW X.outer
def Vis(a:Vd)(x:Uq):Prop:=a.names.lookup x=ba .local∨a.names.lookup x=ba .cell∨a.names.lookup x=ba .free
def Loc(a:Vd)(x:Uq):Prop:=a.names.lookup x=ba .local∨a.names.lookup x=ba .cell
def Look(env:Env)(h:Uy)(m:Uq->Option Uo)(x:Uq)(u:Uo):Prop:=
 (env.kindOf x=ba .local/\m x=ba u)∨((env.kindOf x=ba .cell∨env.kindOf x=ba .free)/\∃c,env.cells.lookup x=ba c/\h.IsCell c (ba u))
structure Cx.Ok(X:Cx):Prop where
 mod:Mod X.K X.mg X.base
 kind:X.env.scope.kind=.function
 glob:X.env.globals=Ur
 blt:X.env.builtins=builtinsNs
 above:X.s₀.heap.objs.size<=X.env.locals
 inj:∀x y c,X.env.cells.lookup x=ba c->X.env.cells.lookup y=ba c->x=y
 has:∀x,(X.env.kindOf x=ba .cell∨X.env.kindOf x=ba .free)->∃c,X.env.cells.lookup x=ba c
 cab:∀x c,X.fn x=bc->X.env.cells.lookup x=ba c->X.s₀.heap.objs.size<=c
 hd:X.calm=bc->X.A.handled=bb
 frames:X.A.frames=ba X.stack
 stk:X.stack=X.outer∨(X.stack=X.env::X.outer/\X.env.frame=ba X.env.locals)
 exf:∀b∈X.ex,b≠X.env.locals/\∀x c,X.env.cells.lookup x=ba c->c≠b
 bs:∀b o,X.base.get? b=ba o->X.s₀.heap.get? b=ba o/\X.H₀ b=bb
 bsz:X.base.objs.size<=X.s₀.heap.objs.size
 noex:∀b o,X.base.get? b=ba o->b∉X.ex
 exfs:∀b∈X.ex,b∉X.fs
 funs:X.s₀.heap.FunFrames X.base X.outer
 frf:∀b∈X.fs,X.H₀ b=bb
structure cI(X:Cx)(aa:List (Up×Vc))(σ:List (Option V))(H:Hp)(s:Ad):Prop where
 ok:X.Ok
 os:s.os=X.s₀.os
 bare:Ln s.gens
 base:Un X.fs X.ex X.H₀ H X.s₀.heap s.heap
 loc:∃m,s.heap.Ns X.env.locals m/\∀(i:Nat) (x:Uq) (v:V),X.N[i]?=ba x->σ[i]?=ba (ba v)->Vis X.env.scope x->∃u,b3 v u/\Look X.env s.heap m x u
 cell:∀x c,X.env.cells.lookup x=ba c->∃v,s.heap.IsCell c v
 free:H X.env.locals=bb
 freeC:∀x c,X.env.cells.lookup x=ba c->H c=bb
 pin:∀p∈X.pn++aa,s.heap.get? p.1=ba p.2/\H p.1=bb/\p.1≠X.env.locals/\p.1∉X.fs/\∀v,p.2.data≠ .cell v
 hok:T6 X.prog X.w H s.heap
 len:σ.length=X.N.length
section
variable{X:Cx}{aa:List (Up×Vc)}{σ:List (Option V)}{H H':Hp}{s:Ad}{h':Uy}
section
variable{o:HO}{g':Array GenState}{t' i:Nat}{d':Drawn}{ch:List Up}{x:Uq}{M:Vj}{E:Uo->Ad->Prop}{v:V}{u:Uo}{Q:Unit->Ad->Prop}
def Cx.Ok.nofr(ok:X.Ok){b:Up}{o:Vc}(e:X.base.get? b=ba o):b∉X.fs:=λa=>by
 have:=(ok.funs.mem a).1
 rw[e]at this;cases this
def cI.bs(I:cI X aa σ H s):∀b o,X.base.get? b=ba o->s.heap.get? b=ba o/\H b=bb:=λb o e=>
 ⟨I.base.keep b o (I.ok.bs b o e).1 (I.ok.bs b o e).2 (I.ok.nofr e) (I.ok.noex b o e),I.base.free b o (I.ok.bs b o e).1 (I.ok.bs b o e).2 (I.ok.noex b o e)⟩
def cI.bk(I:cI X aa σ H s):∀b o,X.base.get? b=ba o->s.heap.get? b=ba o:=λb o e=>(I.bs b o e).1
def cI.mod(I:cI X aa σ H s):Mod X.K X.mg X.base:=I.ok.mod
def cI.kIn(I:cI X aa σ H s):X.K.In s.heap:=I.ok.mod.kin.keeps I.bk
def cI.nolimit(I:cI X aa σ H s):s.heap.NoLimit:=I.ok.mod.nolimit.keeps I.bk
def cI.lt(I:cI X aa σ H s):X.env.locals<s.heap.objs.size:=let ⟨_,a,_⟩:=I.loc;a.lt
def cI.sz(I:cI X aa σ H s):X.s₀.heap.objs.size<=s.heap.objs.size:=Dq I.ok.above (Km I.lt)
def cI.nofs(I:cI X aa σ H s){a:Up}(h:s.heap.objs.size<=a):a∉X.fs:=λc=>by obtain⟨_,o,b,_⟩:=I.ok.funs.mem c;exact absurd (Ba (Aj b) (Dq I.sz h)) (Di _)
def cI.cne(I:cI X aa σ H s):∀x c,X.env.cells.lookup x=ba c->c≠X.env.locals:=λx c e z=>by obtain⟨v,o,d,f⟩:=I.cell x c e;obtain⟨m,⟨g,h,i,a,b,_⟩,_⟩:=I.loc;rw[z,a]at d;cases d;rw[b]at f;cases f
def cI.funs(I:cI X aa σ H s):s.heap.FunFrames X.base X.outer:=by
 have all:∀(l:List Env),(∀b∈TW l,b∈X.fs)->X.s₀.heap.FunFrames X.base l->s.heap.FunFrames X.base l:=by
  intro l;induction l with
  |nil=>intro _ _;trivial
  |cons n r g=>
   intro f hl;obtain⟨k,⟨L,o,a,j,i,m⟩,h⟩:=hl;have d:L∈X.fs:=f L (by unfold TW;rw[Jw,a];exact Bu);obtain⟨p,e⟩:=I.base.slot L o i (I.ok.frf L d) d λz=>I.ok.exfs L z d;exact⟨k,⟨L,_,a,j,e,m⟩,g (λb c=>f b (by unfold TW;rw[Jw,a];exact Ay _ c)) h⟩
 exact all X.outer (λ_ c=>c) I.ok.funs
def cI.stack(I:cI X aa σ H s):s.heap.FunFrames X.base X.stack:=by
 rcases I.ok.stk with e|⟨e,b⟩;rw[e];exact I.funs;rw[e];obtain⟨m,a,_⟩:=I.loc;refine .cons (by rw[I.ok.kind];decide) b a ?_ I.funs;exact Jm (Dq I.ok.bsz I.ok.above)
def cI.stkSub(I:cI X aa σ H s):∀b∈TW X.stack,b∈X.env.locals::X.fs:=λb a=>by
 rcases I.ok.stk with e|⟨e,c⟩;rw[e]at a;exact Ay _ a;rw[e]at a;unfold TW at a;rw[Jw,c]at a;exact a
def cI.stkFree(I:cI X aa σ H s):∀b∈TW X.stack,H b=bb:=λb a=>by
 rcases Bj.mp (I.stkSub b a)with e|a;rw[e];exact I.free;obtain⟨_,o,c,_⟩:=I.ok.funs.mem a;exact I.base.free b o c (I.ok.frf b a) λz=>I.ok.exfs b z a
def cI.step(I:cI X aa σ H s)(g:∀b∈ch,(b∈X.ex∨X.s₀.heap.objs.size<=b)/\b≠X.env.locals/\(∀x c,X.env.cells.lookup x=ba c->c≠b)/\∀p∈X.pn++aa,p.1≠b)(keep:∀b o,b≠X.env.locals->b∉X.fs->b∉ch->s.heap.get? b=ba o->H b=bb->h'.get? b=ba o)(slot:∀b o,b≠X.env.locals->b∈X.fs->b∉ch->s.heap.get? b=ba o->H b=bb->∃F,h'.get? b=ba {o with slots:=F})(free:∀b o,b∉ch->s.heap.get? b=ba o->H b=bb->H' b=bb)(there:∀b o,b∉ch->s.heap.get? b=ba o->∃A,h'.get? b=ba A)(tups:∀b xs,H b=ba (.tup xs)->H' b=ba (.tup xs))(frzs:∀b o u,H b=ba (.frz o u)->H' b=ba (.frz o u))(tbls:∀b ps,H b=ba (.tbl ps)->∃Q,H' b=ba (.tbl (ps++Q)))(ns:∀m,s.heap.Ns X.env.locals m->h'.Ns X.env.locals m)(G:T6 X.prog X.w H' h')(S:Ln g'):cI X aa σ H' {s with heap:=h',gens:=g',drawn:=d',toks:=t'}:=by
 have B:∀b o,X.s₀.heap.get? b=ba o->b≠X.env.locals:=λb o e=>Ap (Ba (Aj e) I.ok.above);have h:∀b o,X.s₀.heap.get? b=ba o->b∉X.ex->b∉ch:=λb o e a t=>by
  rcases(g b t).1 with z|z;exact a z;exact absurd (Ba (Aj e) z) (Di _)
 have N:∀x c,X.env.cells.lookup x=ba c->∀v,s.heap.IsCell c v->h'.IsCell c v:=λx c e v q0=>by
  obtain⟨o,y,J⟩:=q0;have f:c∉ch:=λz=>(g c z).2.2.1 x c e rfl;by_cases hc:c∈X.fs;obtain⟨F,q⟩:=slot c o (I.cne x c e) hc f y (I.freeC x c e);exact⟨_,q,J⟩;exact⟨o,keep c o (I.cne x c e) hc f y (I.freeC x c e),J⟩
 refine⟨I.ok,I.os,S,⟨λb o e n t a=>?_,λb o e n t a=>?_,λb o e n a=>?_,λb o e a=>?_,λb xs e=>tups b xs (I.base.tups b xs e),λb o xs e=>frzs b o xs (I.base.frzs b o xs e),λb ps e=>?_⟩,?_,λx c e=>?_,?_,λx c e=>?_,λp M=>?_,G,I.len⟩;exact keep b o (B b o e) t (h b o e a) (I.base.keep b o e n t a) (I.base.free b o e n a);obtain⟨F,j⟩:=I.base.slot b o e n t a;obtain⟨E,C⟩:=slot b _ (B b o e) t (h b o e a) j (I.base.free b o e n a);exact⟨E,C⟩;obtain⟨A,j⟩:=I.base.there b o e a;exact free b A (h b o e a) j (I.base.free b o e n a);obtain⟨A,j⟩:=I.base.there b o e a;exact there b A (h b o e a) j;obtain⟨P,j⟩:=I.base.tbls b ps e;obtain⟨O,C⟩:=tbls b _ j;exact⟨P++O,by rw[C,Array.append_assoc]⟩;obtain⟨m,R,hl⟩:=I.loc;refine⟨m,ns m R,λi x v j C T=>?_⟩;obtain⟨u,r,l⟩:=hl i x v j C T;refine⟨u,r,?_⟩;rcases l with l|⟨k,c,e,z⟩;exact .inl l;exact .inr ⟨k,c,e,N x c e _ z⟩;obtain⟨v,z⟩:=I.cell x c e;exact⟨v,N x c e v z⟩;obtain⟨m,⟨o,_,_,y,_⟩,_⟩:=I.loc;exact free _ o (λz=>(g _ z).2.1 rfl) y I.free;obtain⟨v,o,y,J⟩:=I.cell x c e;exact free c o (λz=>(g c z).2.2.1 x c e rfl) y (I.freeC x c e);obtain⟨e,n,L,K,d⟩:=I.pin p M;have f:p.1∉ch:=λz=>(g p.1 z).2.2.2 p M rfl;exact⟨keep p.1 p.2 L K f e n,free p.1 p.2 f e n,L,K,d⟩
def cI.un(I:cI X aa σ H s)(u:Un X.fs [] H H' s.heap h')(c:T6 X.prog X.w H' h'):cI X aa σ H' {s with heap:=h',toks:=t'}:=by
 obtain⟨m,⟨o,v,x,h,r⟩,_⟩:=id I.loc;obtain⟨p,l⟩:=u.any h I.free (by simp);exact I.step (g':=s.gens) (d':=s.drawn) (ch:=[]) (λ_ z=>nomatch z) (λb o _ d _ e n=>u.keep b o e n d (by simp)) (λb o _ d _ e n=>u.slot b o e n d (by simp)) (λb o _ e n=>u.free b o e n (by simp)) (λb o _ e=>u.there b o e (by simp)) u.tups u.frzs u.tbls (λt k=>by obtain⟨q,f,g,a,j⟩:=k;rw[h]at a;cases a;exact⟨_,f,g,l,j⟩) c I.bare
def cI.call(I:cI X aa σ H s)(u:Un (TW X.stack) ch H H' s.heap h')(f:T6 X.prog X.w H' h')(t:Ln g')(d:∀b∈ch,(b∈X.ex∨X.s₀.heap.objs.size<=b)/\b≠X.env.locals/\(∀x c,X.env.cells.lookup x=ba c->c≠b)/\∀p∈X.pn++aa,p.1≠b):cI X aa σ H' {s with heap:=h',gens:=g',drawn:=d',toks:=t'}:=by
 obtain⟨m,⟨o,C,D,j,r⟩,_⟩:=id I.loc;obtain⟨y,g⟩:=u.any j I.free λz=>(d _ z).2.1 rfl;exact I.step (ch:=ch) d (λb o g v hc e n=>u.keep b o e n (λz=>(Bj.mp (I.stkSub b z)).elim g v) hc) (λb o _ _ hc e n=>u.any e n hc) (λb o hc e n=>u.free b o e n hc) (λb o hc e=>u.there b o e hc) u.tups u.frzs u.tbls (λB q=>by obtain⟨A,h,i,a,l⟩:=q;rw[j]at a;cases a;exact⟨_,h,i,g,l⟩) f t
def cI.turned{it:Up}(I:cI X aa σ H s)(k:∀b o,b≠it->s.heap.get? b=ba o->h'.get? b=ba o)(h:H it=bb)(f:it≠X.env.locals)(w:it∈X.ex∨X.s₀.heap.objs.size<=it)(t:∀x c,X.env.cells.lookup x=ba c->c≠it)(l:∀p∈X.pn++aa,p.1≠it):cI X aa σ H {s with heap:=h',toks:=t'}:=by
 have a:∀b u,H b=ba u->b≠it:=λb u e z=>by rw[z,h]at e;cases e
 refine I.step (g':=s.gens) (d':=s.drawn) (ch:=[it]) (λb j=>?_) (λb o _ _ hc e _=>k b o (λz=>hc (by simp[z])) e) (λb o _ _ hc e _=>⟨o.slots,k b o (λz=>hc (by simp[z])) e⟩) (λ_ _ _ _ n=>n)
  (λb o hc e=>⟨o,k b o (λz=>hc (by simp[z])) e⟩) (λ_ _ e=>e) (λ_ _ _ e=>e) (λb B e=>⟨#[],by rw[e];simp⟩) (λm i=>?_) (λb u e=>?_) I.bare
 have e : b = it := by simpa using j
 subst e;exact⟨w,f,t,l⟩;obtain⟨o,y,A,g,r⟩:=i;exact⟨o,y,A,k _ o (Dm f) g,r⟩;refine (I.hok b u e).stay (λc v hc q => k c v ?_ q) (λ_ q => q) λ_ _ q => q;rcases hc with z|z;rw[z];exact a b u e;exact a c _ z
def cI.tok(I:cI X aa σ H s)(t:Nat):cI X aa σ H {s with toks:=t}:=I.un (h':=s.heap) (t':=t) Un.refl I.hok
def cI.kept(I:cI X aa σ H s)(k:∀b u,s.heap.get? b=ba u->h'.get? b=ba u):cI X aa σ H {s with heap:=h',toks:=t'}:=I.un (Un.kept k) (I.hok.kept k)
def cI.laid{a:Up}(I:cI X aa σ H s)(k:∀b u,s.heap.get? b=ba u->h'.get? b=ba u)(c:s.heap.objs.size<=a)(new:a5 X.prog X.w (upd H a o) h' a o):cI X aa σ (upd H a o) {s with heap:=h',toks:=t'}:=I.un (Un.laid k c (I.hok.fresh c)) (I.hok.laid k c new)
def cI.write{x e:Up}(I:cI X aa σ H s)(c:Mut (H x))(f:e=x∨H e=ba (.own x))(k:∀b u,b≠e->s.heap.get? b=ba u->h'.get? b=ba u)(a:∃u,h'.get? e=ba u)(new:a5 X.prog X.w (upd H x o) h' x o):cI X aa σ (upd H x o) {s with heap:=h',toks:=t'}:=I.un (Un.write c f k a) (I.hok.write c f k a new)
def cI.weak{a:List (Option V)}(I:cI X aa σ H s)(hl:a.length=σ.length)(w:∀(i:Nat) v,a[i]?=ba (ba v)->σ[i]?=ba (ba v)):cI X aa a H s:=
 ⟨I.ok,I.os,I.bare,I.base,let ⟨m,c,b⟩:=I.loc;⟨m,c,λi x v f e d=>b i x v f (w i v e) d⟩,I.cell,I.free,I.freeC,I.pin,I.hok,hl.trans I.len⟩
def cI.pins_of{a:List (Up×Vc)}(I:cI X aa σ H s)(h:∀p∈a,s.heap.get? p.1=ba p.2/\H p.1=bb/\p.1≠X.env.locals/\p.1∉X.fs/\∀v,p.2.data≠ .cell v):cI X a σ H s:=
 ⟨I.ok,I.os,I.bare,I.base,I.loc,I.cell,I.free,I.freeC,λp b=>(Ez.mp b).elim (λz=>I.pin p (Aq _ z)) (h p),I.hok,I.len⟩
def F3{N:List Uq}(c:N.Nodup){j:Nat}(a:N[i]?=ba x)(b:N[j]?=ba x):i=j:=by obtain⟨g,e⟩:=Ai.mp a;obtain⟨f,d⟩:=Ai.mp b;exact(Jj c).mp (e.trans d.symm)
def KI{A:Bp}(I:cI X aa σ H s)(hN:X.N.Nodup)(K:X.N[i]?=ba x)(l:Loc X.env.scope x)(r:b3 v u)(h:∀s',cI X aa (σ.set i (ba v)) H s'->(∃a,Ek a s.heap s'.heap/\(a=X.env.locals∨X.env.cells.lookup x=ba a))->Q () s')(hf:X.fn x=bc∨X.env.scope.names.lookup x=ba .local:=by first|exact .inl rfl|exact .inr rfl|assumption):Ut M A (storeName X.env x u) Q E s:=by
 obtain⟨m,hn,hl⟩:=id I.loc;have uf:(X.env.scope.kind== .class || (X.env.scope.kind== .module&&X.env.locals !=X.env.globals))=be:=by rw[I.ok.kind];rfl
 have C:i<σ.length:=by rw[I.len];exact(Ai.mp K).1
 have cne:=I.cne;have h9:∀{a:Up}{h':Uy},(∃o,s.heap.get? a=ba o/\H a=bb)->Ek a s.heap h'->T6 X.prog X.w H h':=λ{a h'} ha f b ob e=>by
  obtain⟨_,_,cv⟩:=ha;refine(I.hok b ob e).stay (λc P hc q=>(f.2 c ?_).trans q) (λ_ q=>q) λ_ _ q=>q;rintro rfl;rcases hc with rfl|hc
  rw[cv]at e;cases e;rw[cv]at hc;cases hc
 rcases l with B|B;refine wpAny_storeName_local B hn (λh' hn' f => ?_) uf;obtain⟨oL,_,_,hoL,_⟩:=id hn;refine h _ ⟨I.ok,I.os,I.bare,⟨λb o e n G l=>?_,λb o e n G l=>?_,I.base.free,λb o e l=>?_,I.base.tups,I.base.frzs,I.base.tbls⟩,⟨_,hn',λj y T g t e3=>?_⟩,λy c e=>?_,I.free,I.freeC,λp hp=>?_,h9 ⟨oL,hoL,I.free⟩ f,by simpa using I.len⟩ ⟨_,f,.inl rfl⟩;exact(f.2 b (Ap (Ba (Aj e) I.ok.above))).trans (I.base.keep b o e n G l);obtain⟨W,g⟩:=I.base.slot b o e n G l;exact⟨W,(f.2 b (Ap (Ba (Aj e) I.ok.above))).trans g⟩;obtain⟨Z,g⟩:=I.base.there b o e l;exact⟨Z,(f.2 b (Ap (Ba (Aj e) I.ok.above))).trans g⟩;by_cases D:j=i;subst D;rw[K]at g;cases g;rw[Bx C]at t;cases t;exact⟨u,r,.inl ⟨B,by simp⟩⟩;rw[Az (Dm D)]at t;obtain⟨U,Y,q⟩:=hl j y T g t e3;refine⟨U,Y,?_⟩;rcases q with⟨k,e⟩|⟨k,c,e,z⟩;refine .inl ⟨k,?_⟩;have:y≠x:=λe=>D (F3 hN g (e▸K))
 simp[this,e];exact .inr ⟨k,c,e,z.sameBut f (cne y c e)⟩;obtain⟨P,z⟩:=I.cell y c e;exact⟨P,z.sameBut f (cne y c e)⟩;obtain⟨e,n,R,nf,d⟩:=I.pin p hp;exact⟨(f.2 p.1 R).trans e,n,R,nf,d⟩;have F:X.fn x=bc:=by
  rcases hf with z|z;exact z;rw[z]at B;cases B
 obtain⟨c,hc⟩:=I.ok.has x (.inl B);obtain⟨P,z⟩:=I.cell x c hc;refine wpAny_storeName_cell I.ok.kind B hc z (λh' O f=>?_);obtain⟨oc,J,tz⟩:=id z;refine h {s with heap:=h'} ⟨I.ok,I.os,I.bare,⟨λb o e n G l=>?_,λb o e n G l=>?_,I.base.free,λb o e l=>?_,I.base.tups,I.base.frzs,I.base.tbls⟩,⟨m,hn.sameBut f (Dm (cne x c hc)),λj y T g t e3=>?_⟩,λy S e=>?_,I.free,I.freeC,λp hp=>?_,h9 ⟨oc,J,I.freeC x c hc⟩ f,by simpa using I.len⟩ ⟨c,f,.inr hc⟩;exact(f.2 b (Ap (Ba (Aj e) (I.ok.cab x c F hc)))).trans (I.base.keep b o e n G l);obtain⟨W,g⟩:=I.base.slot b o e n G l;exact⟨W,(f.2 b (Ap (Ba (Aj e) (I.ok.cab x c F hc)))).trans g⟩;obtain⟨Z,g⟩:=I.base.there b o e l;exact⟨Z,(f.2 b (Ap (Ba (Aj e) (I.ok.cab x c F hc)))).trans g⟩;by_cases D:j=i;subst D;rw[K]at g;cases g;rw[Bx C]at t;cases t;exact⟨u,r,.inr ⟨.inl B,c,hc,O⟩⟩;rw[Az (Dm D)]at t;obtain⟨U,Y,q⟩:=hl j y T g t e3;refine⟨U,Y,?_⟩;rcases q with q|⟨k,S,e,z'⟩;exact .inl q;refine .inr ⟨k,S,e,z'.sameBut f ?_⟩;rintro rfl;exact D (F3 hN g (I.ok.inj _ _ _ e hc▸K));by_cases L:S=c;subst L;exact⟨_,O⟩;obtain⟨w2,z2⟩:=I.cell y S e;exact⟨w2,z2.sameBut f L⟩;obtain⟨e,n,R,nf,d⟩:=I.pin p hp;refine⟨(f.2 p.1 ?_).trans e,n,R,nf,d⟩;intro q;rw[q,J]at e;have q':oc=p.2:=Cg e;exact d P (by rw[<-q'];exact tz)
def V9{A:Bp}(I:cI X aa σ H s)(d:X.N.Nodup)(b:X.N[i]?=ba x)(a:Loc X.env.scope x)(r:b3 v u)(h:∀s',cI X aa (σ.set i (ba v)) H s'->Q () s')(c:X.fn x=bc∨X.env.scope.names.lookup x=ba .local:=by first|exact .inl rfl|exact .inr rfl|assumption):Ut M A (storeName X.env x u) Q E s:=
 KI I d b a r (λs' e _=>h s' e) c
def cI.call'{s':Ad}(I:cI X aa σ H s)(j:s'.os=s.os)(u:Un (TW X.stack) ch H H' s.heap s'.heap)(a:T6 X.prog X.w H' s'.heap)(k:Ln s'.gens)(d:∀b∈ch,(b∈X.ex∨X.s₀.heap.objs.size<=b)/\b≠X.env.locals/\(∀x c,X.env.cells.lookup x=ba c->c≠b)/\∀p∈X.pn++aa,p.1≠b):cI X aa σ H' s':=by obtain⟨h',g,h,f,i⟩:=s';have e:i=s.os:=j;subst e;exact I.call (g':=g) (t':=f) (d':=h) u a k d
end
end
abbrev XK:=Uo->Option Up->Hp->Prop
abbrev St:=List (Option V)
abbrev VK:=V->Hp->Prop
abbrev TE:=St->Hp->VK->Prop
abbrev TT:=St->Hp->(Bool->Hp->Prop)->Prop
abbrev TA:=St->Hp->(List V->Hp->Prop)->Prop
structure N5 where
 nx:St->Hp->Prop
 rt:VK
 bk:St->Hp->Prop:=λ_ _=>False
 ct:St->Hp->Prop:=λ_ _=>False
abbrev TS:=N5->St->Hp->Prop
inductive EPi(X:Cx)(aa:List (Up×Vc))(σ:St)(Q:VK)(u:Uo)(s':Ad):Prop
 |mk (v:_) (H':_) (h0:cI X aa σ H' s') (h1:b3 v u) (h2:Q v H'):EPi X aa σ Q u s'
def EP(X:Cx)(b:List (Up×Vc))(a:St)(Q:VK)(u:Uo)(s':Ad):Prop:=EPi X b a Q u s'
def TP(X:Cx)(d:List (Up×Vc))(c:St)(Q:Bool->Hp->Prop)(b:Bool)(s':Ad):Prop:=∃a,cI X d c a s'/\Q b a
inductive APi(X:Cx)(aa:List (Up×Vc))(σ:St)(Q:List V->Hp->Prop)(us:List Uo)(s':Ad):Prop
 |mk (vs:_) (H':_) (h0:cI X aa σ H' s') (h1:bS vs us) (h2:Q vs H'):APi X aa σ Q us s'
def AP(X:Cx)(b:List (Up×Vc))(a:St)(Q:List V->Hp->Prop)(us:List Uo)(s':Ad):Prop:=APi X b a Q us s'
def SP(X:Cx)(c:List (Up×Vc))(D:N5)(f:Flow)(s':Ad):Prop:=
 match f with
 |.next=>∃a b,cI X c a b s'/\D.nx a b
 |.brk=>∃a b,cI X c a b s'/\D.bk a b
 |.cont=>∃a b,cI X c a b s'/\D.ct a b
 |.ret u=>∃v a b,cI X c a b s'/\b3 v u/\D.rt v b
def PE(X:Cx)(e:Uv)(t:TE):Prop:=
 ∀(b:List (Up×Vc)) (s:Ad) (a:St) (H:Hp) (Q:VK),cI X b a H s->t a H Q->Ut (Uu X.prog X.w) X.A (eval e X.env) (EP X b a Q) X.xe s
def PT(X:Cx)(e:Uv)(t:TT):Prop:=
 ∀(b:List (Up×Vc)) (s:Ad) (a:St) (H:Hp) (Q:Bool->Hp->Prop),cI X b a H s->t a H Q->Ut (Uu X.prog X.w) X.A (isTrue e X.env (eval e X.env)) (TP X b a Q) X.xe s
def PW(X:Cx)(e:Uv)(t:TT):Prop:=
 ∀(c:Vg Uo) (b:List (Up×Vc)) (s:Ad) (a:St) (H:Hp) (Q:Bool->Hp->Prop),cI X b a H s->t a H Q->Ut (Uu X.prog X.w) X.A (isTrue e X.env c) (TP X b a Q) X.xe s
def PW.pt{X:Cx}{e:Uv}{t:TT}(h:PW X e t):PT X e t:=h _
def PA(X:Cx)(es:List Uv)(t:TA):Prop:=
 ∀(b:Pos) (c:List (Up×Vc)) (s:Ad) (a:St) (H:Hp) (Q:List V->Hp->Prop),cI X c a H s->t a H Q->Ut (Uu X.prog X.w) X.A (spliced (Co b (Us es X.env))) (AP X c a Q) X.xe s
def PS(X:Cx)(st:Vb)(t:TS):Prop:=
 ∀(b:List (Up×Vc)) (s:Ad) (a:St) (H:Hp) (D:N5),cI X b a H s->t D a H->Ut (Uu X.prog X.w) X.A (exec st X.env) (SP X b D) X.xe s
def X4(X:Cx)(st:List Vb)(t:TS):Prop:=
 ∀(b:List (Up×Vc)) (s:Ad) (a:St) (H:Hp) (D:N5),cI X b a H s->t D a H->Ut (Uu X.prog X.w) X.A (execs st X.env) (SP X b D) X.xe s
def aD{b:Type}{t:Vg b}{Q c:b->Ad->Prop}{M:Vj}{A:Bp}{E:Uo->Ad->Prop}{s:Ad}(h:Ut M A t Q E s)(d:∀a s,Q a s->c a s):Ut M A t c E s:=Aw h d λ_ _ x=>x
section
variable{X:Cx}
section
variable{E Q:Uo->Ad->Prop}{a:St}{u:Uo}{v:V}
def YV(i:Nat):TE:=λa H Q=>∃v,a[i]?=ba (ba v)/\Q v H
def tC(v:V):TE:=λ_ H Q=>Q v H
def D9{i:Nat}{x:Uq}{pos:Pos}(p:X.N[i]?=ba x)(k:Vis X.env.scope x)(d:(x==("__debug__":Uq))=be:=by decide)(f:(x==("__classdict__":Uq))=be:=by decide):PE X (.Name x pos) (YV i):=by
 intro q s j H Q I h;obtain⟨v,e,h⟩:=h;obtain⟨m,n,hl⟩:=I.loc;obtain⟨u,r,l⟩:=hl i x v p e k;have b:EP X q j Q u s:=⟨v,H,I,r,h⟩;rcases l with⟨a,o⟩|⟨a,c,hc,g⟩;exact Kz (Hl I.ok.kind a n o b) d;rcases a with a|a;exact Kz (wpAny_loadName_cell I.ok.kind a hc g b) d;exact Kz (wpAny_loadName_free I.ok.kind a hc g b f) d
def fW{i j pos}:PE X (.Constant (.int i) j pos) (tC (.int i)):=λ_ _ _ H _ I h=>wpAny_Constant_int ⟨.int i,H,I.tok _,⟨_,rfl⟩,h⟩
def uq{b j pos}:PE X (.Constant (.bool b) j pos) (tC (.bl b)):=λ_ _ _ H _ I h=>Constant_bool ⟨.bl b,H,I,rfl,h⟩
def iP{j pos}:PE X (.Constant .none j pos) (tC .non):=λ_ _ _ H _ I h=>Constant_none ⟨.non,H,I,rfl,h⟩
def Wu{x j pos}:PE X (.Constant (.str x) j pos) (tC (.str x)):=λ_ _ _ H _ I h=>Ot ⟨.str x,H,I.tok _,⟨_,rfl⟩,h⟩
def Gl(X:Cx)(x:Uq):Prop:=X.env.kindOf x=ba .globalImplicit
def WS{e:List (Up×Vc)}{s:Ad}{H:Hp}{x:Uq}{pos:Pos}(I:cI X e a H s)(c:Gl X x)(b:X.mg x=ba u)(h:Q u s)(d:(x==("__debug__":Uq))=be:=by decide):Ut (Uu X.prog X.w) X.A (eval (.Name x pos) X.env) Q E s:=
 Hg I.ok.kind c (Lo (by rw[I.ok.glob];exact I.mod.glob.keeps I.bk) b h) d
def OL{j:List (Up×Vc)}{s:Ad}{H:Hp}{x:Uq}{pos:Pos}(I:cI X j a H s)(e:Gl X x)(d:X.mg x=bb)(b:Bm x=ba u)(h:Q u s)(c:x≠ "__name__":=by decide)(f:(x==("__debug__":Uq))=be:=by decide):Ut (Uu X.prog X.w) X.A (eval (.Name x pos) X.env) Q E s:=by obtain⟨k,i,g⟩:=I.mod.blt;exact Hg I.ok.kind e (Calls.loadGlobal_builtin (by rw[I.ok.glob];exact I.mod.glob.keeps I.bk) d (by rw[I.ok.blt];exact i.keeps I.bk) ((g x c).trans b) h) f
def lB{x:Uq}{pos:Pos}(b:Gl X x)(a:X.mg x=ba u)(r:b3 v u)(c:(x==("__debug__":Uq))=be:=by decide):PE X (.Name x pos) (tC v):=
 λ_ _ _ H _ I h=>WS I b a ⟨v,H,I,r,h⟩ c
def iY{x:Uq}{pos:Pos}(d:Gl X x)(c:X.mg x=bb)(a:Bm x=ba u)(r:b3 v u)(b:x≠ "__name__":=by decide)(e:(x==("__debug__":Uq))=be:=by decide):PE X (.Name x pos) (tC v):=
 λ_ _ _ H _ I h=>OL I d c a ⟨v,H,I,r,h⟩ b e
end
variable{a b:Uv}{ta tb:TE}{pos:Pos}
def tB(t:TE):TT:=λa H Q=>t a H λx b=>∃c,x=.bl c/\Q c b
def uI{e:Uv}{t:TE}(h:PE X e t)(f:∀a,isTrue e X.env a=(do let v<-a;Gk e.pos;Ia [v] (truthy v)):=by intro _;rfl):PT X e (tB t):=by intro g s b H Q I hw;refine isTrue_plain (aD (h g s b H _ I hw) λv k ⟨x,j,i,c,q1⟩=>?_) (f _);obtain⟨d,rfl,q⟩:=q1;cases c;exact Cu ⟨j,i,q⟩
variable{tA tB':TT}{rest:List Uv}
def tAnd(t u:TT):TT:=λa H Q=>t a H λc b=>if c=bc then u a b Q else Q be b
def tOr(t u:TT):TT:=λa H Q=>t a H λc b=>if c=bc then Q bc b else u a b Q
def tNot(t:TT):TT:=λa H Q=>t a H λc b=>Q (!c) b
def gL(d:PT X a tA):PW X (.BoolOp .And [a] pos) tA:=by
 intro g f s b H Q I h;refine isTrue_and (aD (d f s b H Q I h) λc i e=>?_);cases c with
 |true=>exact isTrue_and_nil e
 |false=>exact e
def iO(d:PT X a tA):PW X (.BoolOp .Or [a] pos) tA:=by
 intro g f s b H Q I h;refine isTrue_or (aD (d f s b H Q I h) λc i e=>?_);cases c with
 |false=>exact isTrue_or_nil e
 |true=>exact e
def eJ(l:PT X a tA)(k:PW X (.BoolOp .And (b::rest) pos) tB'):PW X (.BoolOp .And (a::b::rest) pos) (tAnd tA tB'):=by
 intro i e s d H Q I h;refine isTrue_and (aD (l e s d H _ I h) λc j ⟨g,f,q1⟩=>?_);cases c with
 |true=>exact k i e j d g Q f q1
 |false=>exact⟨g,f,q1⟩
def nY(l:PT X a tA)(k:PW X (.BoolOp .Or (b::rest) pos) tB'):PW X (.BoolOp .Or (a::b::rest) pos) (tOr tA tB'):=by
 intro i e s d H Q I h;refine isTrue_or (aD (l e s d H _ I h) λc j ⟨g,f,q1⟩=>?_);cases c with
 |true=>exact⟨g,f,q1⟩
 |false=>exact k i e j d g Q f q1
def fJ(d:PT X a tA):PT X (.UnaryOp .Not a pos) (tNot tA):=by intro e s b H Q I h;exact isTrue_not (d e s b H (λc f=>Q (!c) f) I h)
def uR(ta tb:TE):TE:=λa H Q=>ta a H λx b=>∃c,x=.bl c/\if c=bc then tb a b Q else Q (.bl be) b
def tOrV(ta tb:TE):TE:=λa H Q=>ta a H λx b=>∃c,x=.bl c/\if c=bc then Q (.bl bc) b else tb a b Q
def uW(ta:TE):TE:=λa H Q=>ta a H λx b=>∃c,x=.bl c/\Q (.bl (!c)) b
def nB{op}{t:TE}(h:PE X a t):PE X (.BoolOp op [a] pos) t:=λc s b H Q I hw=>BoolOp_one (h c s b H Q I hw)
def uH(l:PE X a ta)(k:PE X (.BoolOp .And (b::rest) pos) tb):PE X (.BoolOp .And (a::b::rest) pos) (uR ta tb):=by
 intro e s d H Q I h;refine BoolOp_and (aD (l e s d H _ I h) λv i ⟨x,g,f,j,q1⟩=>?_);obtain⟨c,rfl,q1⟩:=q1;cases j;refine Cu ?_;cases c with
 |true=>exact k e i d g Q f q1
 |false=>exact⟨.bl be,g,f,rfl,q1⟩
def nR(l:PE X a ta)(k:PE X (.BoolOp .Or (b::rest) pos) tb):PE X (.BoolOp .Or (a::b::rest) pos) (tOrV ta tb):=by
 intro e s d H Q I h;refine BoolOp_or (aD (l e s d H _ I h) λv i ⟨x,g,f,j,q1⟩=>?_);obtain⟨c,rfl,q1⟩:=q1;cases j;refine Cu ?_;cases c with
 |false=>exact k e i d g Q f q1
 |true=>exact⟨.bl bc,g,f,rfl,q1⟩
def jH(e:PE X a ta):PE X (.UnaryOp .Not a pos) (uW ta):=by intro f s b H Q I h;refine UnaryOp_ (aD (e f s b H _ I h) λv j ⟨x,i,g,d,q1⟩=>?_);obtain⟨c,rfl,q1⟩:=q1;cases d;exact not_of (Cu ⟨.bl (!c),i,g,rfl,q1⟩)
def tIf(t:TT)(ta tb:TE):TE:=λa H Q=>t a H λc b=>if c=bc then ta a b Q else tb a b Q
def GA{c:Uv}(hc:PT X c tA)(l:PE X a ta)(k:PE X b tb):PE X (.IfExp c a b pos) (tIf tA ta tb):=by
 intro f s e H Q I h;refine wpAny_IfExp (aD (hc f s e H _ I h) λd g ⟨j,i,q1⟩=>?_);cases d with
 |true=>exact l f g e j Q i q1
 |false=>exact k f g e j Q i q1
end
def W8(K:Ag)(H:Hp)(a:Up)(xs:List V):Prop:=
 Rd H a (.lst xs)∨
  ∃(o:Vc) (b:Array Uo) (n:Nat),K.lookup a=ba o/\o.cls=.type "list" /\o.dict=bb/\o.data=.seq b n/\b.size<=sizeLine/\bS xs b.toList
def nI:List V->Bool
 |.int _::_=>be
 |_=>bc
def UN(K:Ag)(H:Hp)(a:Up)(xs:List V):Prop:=
 H a=ba (.tup xs)∨
  ∃(o:Vc) (b:Array Uo) (n:Nat),K.lookup a=ba o/\o.cls=.type "tuple" /\o.data=.seq b n/\b.size<=sizeLine/\bS xs b.toList/\nI xs=bc
noncomputable def absV:Uo->Option V
 |.none=>ba .non
 |.bool b=>ba (.bl b)
 |.int i _=>ba (.int i)
 |.str x _=>ba (.str x)
 |.bytes b _=>ba (.byt b)
 |.float b _=>ba (.flt b)
 |.ref a=>ba (.ref a)
 |.type n=>ba (.ty n)
 |_=>bb
def b3.abs{x:V}{u:Uo}(r:b3 x u):absV u=ba x:=by
 cases x with
 |non=>cases r;rfl
 |bl _=>cases r;rfl
 |int _=>obtain⟨t,rfl⟩:=r;rfl
 |str _=>obtain⟨t,rfl⟩:=r;rfl
 |byt _=>obtain⟨t,rfl⟩:=r;rfl
 |flt _=>obtain⟨t,rfl⟩:=r;rfl
 |ref _=>cases r;rfl
 |ty _=>cases r;rfl
def b3.inj{x y:V}{u:Uo}(r:b3 x u)(q:b3 y u):x=y:=Cg (r.abs.symm.trans q.abs)
theorem bS.inj:∀{xs ys:List V}{us:List Uo},bS xs us->bS ys us->xs=ys
 |_,_,_,.nil,.nil=>rfl
 |_,_,_,.cons r t,.cons b a=>by rw[r.inj b,bS.inj t a]
section
variable{X:Cx}{aa:List (Up×Vc)}{σ:St}{H:Hp}{s:Ad}{a:Up}{xs ys:List V}
def W8.of{K:Ag}(h:H a=ba (.lst xs)):W8 K H a xs:=.inl (.inl h)
def UN.of{K:Ag}(h:H a=ba (.tup xs)):UN K H a xs:=.inl h
def cI.list(I:cI X aa σ H s)(h:W8 X.K H a xs):∃b:List Uo,bS xs b/\PlainL s.heap a b.toArray/\xs.length<=sizeLine:=by
 rcases h with h|⟨o,b,n,d,hc,f,c,g,r⟩;obtain⟨z,b,n,r,e⟩:=h.ok I.hok;exact⟨b,r,⟨_,n,e,rfl,rfl,rfl⟩,z⟩;refine ⟨b.toList,r,⟨o,n,I.kIn a o d,hc,f,by simpa using c⟩,?_⟩;have e:=r.length;simp only[Df]at e;lia
def cI.tuple(I:cI X aa σ H s)(h:UN X.K H a xs):∃b:List Uo,bS xs b/\IsTup s.heap a b.toArray/\xs.length<=sizeLine:=by
 rcases h with h|⟨o,b,n,d,hc,c,f,r,_⟩;obtain⟨z,b,r,p⟩:=I.hok a _ h;exact⟨b,r,p,z⟩;refine ⟨b.toList,r,⟨o,I.kIn a o d,hc,n,by simpa using c⟩,?_⟩;have e:=r.length;simp only[Df]at e;lia
def cI.list_inj(I:cI X aa σ H s)(h:W8 X.K H a xs)(h':W8 X.K H a ys):xs=ys:=by
 obtain⟨c,r,⟨o,n,e,_,_,d⟩,_⟩:=I.list h;obtain⟨b,i,⟨k,l,f,_,_,g⟩,_⟩:=I.list h';rw[e]at f;cases f;rw[d]at g;injection g with j _;have:c=b:=by simpa using congrArg Tu j
 subst this;exact r.inj i
def cI.tuple_inj(I:cI X aa σ H s)(h:UN X.K H a xs)(h':UN X.K H a ys):xs=ys:=by
 obtain⟨c,r,⟨o,e,_,n,d⟩,_⟩:=I.tuple h;obtain⟨b,i,⟨k,f,_,l,g⟩,_⟩:=I.tuple h';rw[e]at f;cases f;rw[d]at g;injection g with j _;have:c=b:=by simpa using congrArg Tu j
 subst this;exact r.inj i
end
abbrev Cx.wish(X:Cx)(E:Uo->Ad->Prop):Cx:={X with xe:=E}
abbrev Cx.nox(X:Cx):Cx:=X.wish λ_ _=>False
def Cx.Ok.wish{X:Cx}(ok:X.Ok)(E:Uo->Ad->Prop):(X.wish E).Ok:=
 ⟨ok.mod,ok.kind,ok.glob,ok.blt,ok.above,ok.inj,ok.has,ok.cab,ok.hd,ok.frames,ok.stk,ok.exf,ok.bs,ok.bsz,ok.noex,ok.exfs,ok.funs,ok.frf⟩
def Cx.Ok.unwish{X:Cx}{E:Uo->Ad->Prop}(ok:(X.wish E).Ok):X.Ok:=
 ⟨ok.mod,ok.kind,ok.glob,ok.blt,ok.above,ok.inj,ok.has,ok.cab,ok.hd,ok.frames,ok.stk,ok.exf,ok.bs,ok.bsz,ok.noex,ok.exfs,ok.funs,ok.frf⟩
section
variable{X:Cx}{aa:List (Up×Vc)}{σ:St}{H:Hp}{s:Ad}{E:Uo->Ad->Prop}
def cI.wish(I:cI X aa σ H s)(E:Uo->Ad->Prop):cI (X.wish E) aa σ H s:=⟨I.ok.wish E,I.os,I.bare,I.base,I.loc,I.cell,I.free,I.freeC,I.pin,I.hok,I.len⟩
def cI.unwish(I:cI (X.wish E) aa σ H s):cI X aa σ H s:=⟨I.ok.unwish,I.os,I.bare,I.base,I.loc,I.cell,I.free,I.freeC,I.pin,I.hok,I.len⟩
def SP.unwish{D:N5}{f:Flow}{s':Ad}(h:SP (X.wish E) aa D f s'):SP X aa D f s':=by
 cases f with
 |next=>obtain⟨a,b,I,q⟩:=h;exact⟨a,b,I.unwish,q⟩
 |brk=>obtain⟨a,b,I,q⟩:=h;exact⟨a,b,I.unwish,q⟩
 |cont=>obtain⟨a,b,I,q⟩:=h;exact⟨a,b,I.unwish,q⟩
 |ret u=>obtain⟨v,a,b,I,r,q⟩:=h;exact⟨v,a,b,I.unwish,r,q⟩
def X4.nox{st:List Vb}{t:TS}(h:X4 X.nox st t):X4 X st t:=λaa s σ H D I hw=>
 Aw (h aa s σ H D (I.wish _) hw) (λ_ _ q=>q.unwish) λ_ _ z=>Dr z
end
section
variable{X:Cx}{st:Vb}{rest:List Vb}{t u:TS}{e:Uv}{te:TE}{pos:Pos}
def Vq:TS:=λD a H=>D.nx a H
def tSeq(t u:TS):TS:=λD a H=>t {D with nx:=u D} a H
def IE:X4 X [] Vq:=λ_ _ a H _ I h=>Gm ⟨a,H,I,h⟩
def UV(g:PS X st t)(e:X4 X rest u):X4 X (st::rest) (tSeq t u):=by
 intro b s c H D I h;refine Jk (aD (g b s c H {D with nx:=u D} I h) λf d q=>?_);cases f with
 |next=>
  obtain⟨a,j,i,q⟩:=q;exact e b d a j D i q
 |ret v=>exact q
 |brk=>exact q
 |cont=>exact q
def CJ(b:PS X st t):X4 X [st] t:=by
 intro c s a H D I h;refine Jk (aD (b c s a H D I h) λf d q=>?_);cases f with
 |next=>exact Gm q
 |ret v=>exact q
 |brk=>exact q
 |cont=>exact q
def cI.quiet{b:List (Up×Vc)}{a:St}{H:Hp}{s:Ad}(I:cI X b a H s):Ry X.env=be:=by simp[Ry,I.ok.kind]
def Vp(te:TE):TS:=λD a H=>te a H λ_ b=>D.nx a b
def QD(b:PE X e te)(hs:Va e bb pos.line X.env=pure be:=by rfl):PS X (.Expr e pos) (Vp te):=by intro c s a H D I h;exact wpAny_Expr_any (aD (b c s a H _ I h) λv g ⟨x,f,d,i,q1⟩=>⟨a,f,d,q1⟩) I.quiet hs
def tRet(te:TE):TS:=λD a H=>te a H D.rt
def EE(c:PE X e te):PS X (.Return (ba e) pos) (tRet te):=by intro d s a H D I h;exact wpAny_Return_some (aD (c d s a H _ I h) λv i ⟨x,g,f,b,q1⟩=>⟨x,a,g,f,b,q1⟩)
def tIfS(c:TT)(t u:TS):TS:=λD a H=>c a H λb d=>if b=bc then t D a d else u D a d
def Vx{c:Uv}{a b:List Vb}{g:TT}(hc:PT X c g)(m:X4 X a t)(l:X4 X b u):PS X (.If c a b pos) (tIfS g t u):=by
 intro f s e H D I h;refine wpAny_If (aD (hc f s e H _ I h) λd i ⟨k,j,q1⟩=>?_);cases d with
 |true=>exact m f i e k D j q1
 |false=>exact l f i e k D j q1
def eA:TS:=λ_ _ _=>False
def AH{a:List Vb}:X4 X a eA:=λ_ _ _ _ _ _ h=>h.elim
end
abbrev TG:=V->St->Hp->(St->Hp->Prop)->Prop
abbrev TGs:=List V->St->Hp->(St->Hp->Prop)->Prop
def PG(X:Cx)(f:Uv)(t:TG):Prop:=
 ∀(c:List (Up×Vc)) (s:Ad) (b:St) (H:Hp) (v:V) (u:Uo) (Q:St->Hp->Prop),cI X c b H s->b3 v u->t v b H Q->
  Ut (Uu X.prog X.w) X.A (Hh f X.env u) (λ_ e=>∃a d,cI X c a d e/\Q a d) X.xe s
def BA(X:Cx)(g:List Uv)(t:TGs):Prop:=
 ∀(e:List (Up×Vc)) (s:Ad) (b:St) (H:Hp) (c:List V) (d:List Uo) (Q:St->Hp->Prop),cI X e b H s->bS c d->t c b H Q->
  Ut (Uu X.prog X.w) X.A (assignInOrder ((Uz g X.env).map (·.2)) d) (λ_ h=>∃a f,cI X e a f h/\Q a f) X.xe s
section
variable{X:Cx}{pos:Pos}
def W0(i:Nat):TG:=λv a H Q=>Q (a.set i (ba v)) H
def RZ{i:Nat}{x:Uq}(d:X.N.Nodup)(b:X.N[i]?=ba x)(a:Loc X.env.scope x)(c:X.fn x=bc∨X.env.scope.names.lookup x=ba .local:=by first|exact .inl rfl|exact .inr rfl|assumption):PG X (.Name x pos) (W0 i):=by intro j s f H v u Q I r h;exact Iw (V9 I d b a r (λg e=>⟨_,H,e,h⟩) c)
def gNil:TGs:=λb a H Q=>b=[]/\Q a H
def Wj(t:TG)(u:TGs):TGs:=λc b H Q=>∃v r,c=v::r/\t v b H λa d=>u r a d Q
def CD:BA X [] gNil:=by intro d s a H b c Q I r h;obtain⟨e,h⟩:=h;subst e;cases r;exact La ⟨a,H,I,h⟩
def MF{e:Uv}{es:List Uv}{t:TG}{u:TGs}(i:PG X e t)(g:BA X es u)(hs:(Uz (e::es) X.env).map (·.2)=Hh e X.env::(Uz es X.env).map (·.2):=by rfl):BA X (e::es) (Wj t u):=by
 intro b s c H m o Q I r h;obtain⟨v,n,j,h⟩:=h;subst j;cases r with
 |cons r f=>
  rw[hs];refine Gh (aD (i b s c H _ _ _ I r h) λ_ d ⟨a,l,k,q1⟩=>?_);exact g b d a l _ _ Q k f q1
def gTup(K:Ag)(n:Nat)(t:TGs):TG:=λv c H Q=>∃a b,v=.ref a/\UN K H a b/\b.length=n/\t b c H Q
def Yd{es:List Uv}{k:Nat}{t:TGs}{n:Nat}(hc:X.calm=bc)(h:BA X es t)(w:(Uz es X.env).length=n:=by rfl)(c:(Uz es X.env).findIdx? (·.1)=bb:=by rfl):PG X (.Tuple es k pos) (gTup X.K n t):=by intro i s d H v u Q I r hw;obtain⟨a,j,y,q,hl,hw⟩:=hw;subst y;cases r;obtain⟨l,f,p,A⟩:=I.tuple q;refine assign_Tuple_tuple (I.ok.hd hc) p (by simp[w,<-hl,f.length]) c λx m=>?_;have z:cI X i d H {s with heap:=x}:=I.kept (t':=s.toks) λb o e=>m b o (Ap (Aj e)) e;exact h i _ d H j _ Q z (by simpa using f) hw
def tAsg(b:TE)(g:TG):TS:=λD a H=>b a H λx c=>g x a c D.nx
def EC{tg e:Uv}{b:TE}{g:TG}(j:PE X e b)(i:PG X tg g)(hs:Ib [tg] e pos.line X.env=pure be:=by rfl)(hw:Ic [tg] e X.env=pure bb:=by rfl)(k:(Uz [tg] X.env).map (·.2)=[Hh tg X.env]:=by rfl):PS X (.Assign [tg] e pos) (tAsg b g):=by intro c s a H D I h;refine wpAny_Assign_stores (aD (j c s a H _ I h) λv d ⟨x,m,l,f,q1⟩=>?_) hs hw;rw[k];exact aD (i c d a m x v _ l f q1) λ_ n q=>q
def nP{i:Nat}{x:Uq}{e:Uv}{a:TE}{b:Pos}(l:X.N.Nodup)(g:X.N[i]?=ba x)(f:Loc X.env.scope x)(k:PE X e a)(hs:Va e (ba (.Name x b)) pos.line X.env=pure be:=by rfl)(j:X.fn x=bc∨X.env.scope.names.lookup x=ba .local:=by first|exact .inl rfl|exact .inr rfl|assumption):PS X (.Assign [.Name x b] e pos) (tAsg a (W0 i)):=by intro m s c H D I h;refine wpAny_Assign_Name (aD (k m s c H _ I h) λv r ⟨y,p,o,d,q1⟩=>?_) hs;exact V9 o l g f d (λq n=>⟨_,p,n,q1⟩) j
def tPar(i j:Nat)(c:TA):TS:=λD a H=>c a H λb d=>∃v w,b=[v,w]/\D.nx ((a.set i (ba v)).set j (ba w)) d
def gC{i j:Nat}{x y:Uq}{a b:Uv}{u:TA}{m l pt:Pos}{kt k2 pt2}(hc:X.calm=bc)(E:X.N.Nodup)(S:X.N[i]?=ba x)(R:X.N[j]?=ba y)(r:i≠j)(B:X.env.scope.names.lookup x=ba .local)(z:X.env.scope.names.lookup y=ba .local)(T:PA X [a,b] u)(hw:Ic [.Tuple [.Name x m,.Name y l] kt pt] (.Tuple [a,b] k2 pt2) X.env=pure (ba [x,y]))(hs:Ib [.Tuple [.Name x m,.Name y l] kt pt] (.Tuple [a,b] k2 pt2) pos.line X.env=pure be:=by rfl):PS X (.Assign [.Tuple [.Name x m,.Name y l] kt pt] (.Tuple [a,b] k2 pt2) pos) (tPar i j u):=by
 intro G s t H D I h;rw[exec_Assign_arm];refine Ab (Ds ?_);rw[hs];refine Ab (Af ?_);rw[if_neg (by decide)];refine Ab (Tuple_ (aD (T _ G s t H _ I h) λL g ⟨vs,K,Z,O,q1⟩=>?_));obtain⟨v,w,U,q1⟩:=q1;subst U;obtain⟨f,d,rfl,M,k⟩:∃f d,L=[f,d]/\b3 v f/\b3 w d:=by
  cases O with
  |cons p q=>
   cases q with
   |cons Q P=>
    cases P;exact⟨_,_,rfl,p,Q⟩
 refine Bv ?_ (by show 2<=sizeLine;decide);have Y:cI X G t K {g with heap:=g.heap.push {cls:=.type "tuple",data:=.seq [f,d].toArray}}:=Z.kept (t':=g.toks) λb o e=>Ac _ e;rw[hw];refine Ab (Af ?_);show Ut (Uu X.prog X.w) X.A (do rule "assign.swapped-stores";let c<-Lp (.ref g.heap.objs.size) 2 bb;assignInOrder [λv=>Rp X.env y v,λv=>Rp X.env x v] c.reverse;pure Flow.next) _ _ _;refine Ab (Lb (Ab (unpackItems_tuple (items:= #[f,d]) (I.ok.hd hc) (Ov g.heap _) λF n=>?_)));have W:=Y.kept (h':=F) (t':=g.toks) λb o e=>n b o (Ap (Aj e)) e;show Ut _ _ (assignInOrder [λv=>Rp X.env y v,λv=>Rp X.env x v] [d,f]>>=λ_=>pure Flow.next) _ _ _;refine Ab (Gh (wpAny_bindName (V9 W E R (.inl z) k (λs2 V=>?_) (.inr z))));refine Gh (wpAny_bindName (V9 V E S (.inl B) M (λs3 J=>La (Af ?_)) (.inr B)));rw[Te _ _ (Dm r)]at J;exact⟨_,K,J,q1⟩
end
section
variable{X:Cx}{pos:Pos}
def gE(c:TT)(h:TS):TS:=λD a H=>∃W:Nat->St->Hp->Prop,(∃m,W m a H)/\∀m a H,W m a H->
 c a H λb f=>if b=bc then∃N:St->Hp->Prop,(∀d g,N d g->∃e,e<m/\W e d g)/\h {D with nx:=N,ct:=N,bk:=D.nx} a f else D.nx a f
def gO{c:Uv}{body:List Vb}{p:TT}{q:TS}(r:Mn (Uu X.prog X.w) X.A X.env X.xe)(hc:PT X c p)(L:X4 X body q):PS X (.While c body [] pos) (gE p q):=by
 intro m s B H D I h;obtain⟨W,⟨K,E⟩,turn⟩:=h;refine wpAny_While (codeAny_whileLoop (λn J=>∃e z,cI X m e z J/\W n e z) ?_ K ⟨B,H,I,E⟩);rintro n G ⟨d,y,M,C⟩;refine Fq r (aD (hc m G d y _ M (turn n d y C)) λb F ⟨x,u,q2⟩=>?_);cases b with
 |true=>
  obtain⟨N,t,q2⟩:=q2;rw[if_pos rfl];refine Fq r (aD (L m F d x _ u q2) λf O q3=>?_);cases f with
  |next=>
   obtain⟨a,g,o,j⟩:=q3;obtain⟨k,l,i⟩:=t a g j;exact⟨k,l,a,g,o,i⟩
  |cont=>
   obtain⟨a,g,o,j⟩:=q3;obtain⟨k,l,i⟩:=t a g j;exact⟨k,l,a,g,o,i⟩
  |brk=>exact q3
  |ret v=>exact q3
 |false=>
  rw[if_neg Bw];exact Gm ⟨d,x,u,q2⟩
end
structure It where
 go:Nat->Hp->Prop
 yld:Nat->Hp->V->Hp->Prop
 stop:Nat->Hp->Prop
def K9(X:Cx)(a:List (Up×Vc))(H:Hp)(b:Up):Prop:=
 H b=bb/\b≠X.env.locals/\b∉X.fs/\(b∈X.ex∨X.s₀.heap.objs.size<=b)/\(∀x c,X.env.cells.lookup x=ba c->c≠b)/\∀p∈X.pn++a,p.1≠b
def cI.fpOk{X:Cx}{d:List (Up×Vc)}{g:St}{H f:Hp}{s:Ad}{b:Up}(I:cI X d g H s)(a:s.heap.objs.size<=b)(i:f b=bb):K9 X d f b:=by
 refine⟨i,Je (Ba I.lt a),I.nofs a,.inr (Dq I.sz a),λx c e z=>?_,λp h z=>?_⟩;obtain⟨v,q⟩:=I.cell x c e;exact absurd (Ba q.lt (by rw[z];exact a)) (Di _);exact absurd (Ba (Aj (I.pin p h).1) (by rw[z];exact a)) (Di _)
structure FD(P:Ao)(w:Uw)(K:Ag)(tg:Uv)(J:It)(fp:List Up)(it:Up)(tn:Nat->Uy->Prop):Prop where
 mem:it∈fp
 obj:∀i h,tn i h->∀b∈fp,∃o,h.get? b=ba o/\∀v,o.data≠ .cell v
 keep:∀i h h',tn i h->(∀b∈fp,∀o,h.get? b=ba o->h'.get? b=ba o)->tn i h'
 item:∀(X:Cx),X.prog=P->X.w=w->X.K=K->X.calm=bc->∀(i:Nat) (aa:List (Up×Vc)) (s:Ad) (σ:St) (H:Hp) (E:Uo->Ad->Prop),cI X aa σ H s->(∀b∈fp,K9 X aa H b)->tn i s.heap->J.go i H->
  Ut (Uu P w) X.A (pyNext (.ref it)) (λr s1=>∃u,r=ba u∧
   Ut (Uu P w) X.A (Go tg (.ref it) u) (λ_ s2=>∃x H',cI X aa σ H' s2/\b3 x u/\J.yld i H x H'/\tn (i+1) s2.heap/\∀b∈fp,H' b=bb) E s1) E s
 done:∀(X:Cx),X.prog=P->X.w=w->X.K=K->X.calm=bc->∀(i:Nat) (aa:List (Up×Vc)) (s:Ad) (σ:St) (H:Hp) (E:Uo->Ad->Prop),cI X aa σ H s->(∀b∈fp,K9 X aa H b)->tn i s.heap->J.stop i H->
  Ut (Uu P w) X.A (pyNext (.ref it)) (λr s1=>r=bb/\cI X aa σ H s1) E s
 self:∀(A:Bp) (i:Nat) (s:Ad) (Q:Uo->Ad->Prop) (E:Uo->Ad->Prop),tn i s.heap->Q (.ref it) s->Ut (Uu P w) A (Rz (.ref it)) Q E s
abbrev TI:=St->Hp->(It->Hp->Prop)->Prop
def PIE(X:Cx)(h:List (Up×Vc))(i:St)(tg:Uv)(R:It->Hp->Prop)(a:Uo)(e:Ad):Prop:=
 ∃(f:Up) (g:List Up) (d:Nat->Uy->Prop) (J:It) (c:Hp),a=.ref f/\cI X h i c e/\FD X.prog X.w X.K tg J g f d/\d 0 e.heap/\(∀b∈g,K9 X h c b)/\R J c
def PI(X:Cx)(tg iter:Uv)(c:TI):Prop:=
 ∀(b:List (Up×Vc)) (s:Ad) (a:St) (H:Hp) (R:It->Hp->Prop),cI X b a H s->c a H R->
  Ut (Uu X.prog X.w) X.A (eval iter X.env) (λv d=>Ut (Uu X.prog X.w) X.A (Rz v) (PIE X b a tg R) X.xe d) X.xe s
def FS{M:Vj}{A:Bp}{E:Uo->Ad->Prop}{s:Ad}{tg:Uv}{it:Up}{u:Uo}{o:Vc}{n:String}{vs:Array Uo}{Q:Unit->Ad->Prop}(b:s.heap.get? it=ba o)(hc:o.cls= .type n)(d:o.data= .fields vs)(c:["enumerate","zip","dict_itemiterator","dict_reverseitemiterator","odict_iterator","itertools.zip_longest","itertools.pairwise"].contains n=be)(a:Q () s):Ut M A (Go tg (.ref it) u) Q E s:=by
  unfold Go;cases tg<;>first
    |exact Af a
    |(cases u<;>first
        |exact Af a
        | (refine Ab (wpAny_load b ?_)
           rw[hc,d];show Ut M A (if(["enumerate","zip","dict_itemiterator","dict_reverseitemiterator","odict_iterator","itertools.zip_longest","itertools.pairwise"].contains n&&vs[0]? ==ba (rawInt _))=bc then _ else _) Q E s;rw[if_neg (by intro h;rw[c,Bool.false_and]at h;cases h)];exact Af a))
def Itl(K:Ag)(a:Up):It:=
 ⟨λi H=>∃b x,W8 K H a b/\b[i]?=ba x,λi H x c=>c=H/\∀b,W8 K H a b->b[i]?=ba x,λi H=>∃b,W8 K H a b/\b.length<=i⟩
def Itt(K:Ag)(a:Up):It:=
 ⟨λi H=>∃b x,UN K H a b/\b[i]?=ba x,λi H x c=>c=H/\∀b,UN K H a b->b[i]?=ba x,λi H=>∃b,UN K H a b/\b.length<=i⟩
def Itr(lo:Int)(n:Nat):It:=⟨λi _=>i<n,λi H x a=>a=H/\x=.int (lo+i),λi _=>n<=i⟩
def AY{P:Ao}{w:Uw}{K:Ag}{tg:Uv}(a it:Up):FD P w K tg (Itl K a) [it] it (λi h=>h.IsListIter it a i) where
 mem:=by simp
 obj:=λi h st b f=>by
  have e:b=it:=by simpa using f
  subst e;obtain⟨o,e,c,d⟩:=st;exact⟨o,e,λv z=>by rw[d]at z;cases z⟩
 keep:=λi h n st k=>st.at λo e=>k it (by simp) o e
 item:=by intro X A hw B hc i J s G H E I m st y;subst A hw B;obtain⟨L,x,l,t⟩:=y;obtain⟨r,q,p,O⟩:=I.list l;obtain⟨u,R,N⟩:=q.get t;obtain⟨F,f1,f2,f3,D,C⟩:=m it (by simp);refine Ir st p.isList (x:=u) (by simpa using R) λn g M=>?_;have T:cI X J G H {s with heap:=n}:=I.turned (t':=s.toks) (λb o f e=>(M.2 b f).trans e) F f1 f3 D C;obtain⟨o,e,c,d⟩:=id g;exact⟨u,rfl,FS (s:={s with heap:=n}) e c d (by decide) ⟨x,H,T,N,⟨rfl,λU Q=>by rw[I.list_inj Q l];exact t⟩,g,λb f=>(m b f).1⟩⟩
 done:=by intro X A hw B hc i J s G H E I m st y;subst A hw B;obtain⟨L,l,t⟩:=y;obtain⟨r,q,p,O⟩:=I.list l;obtain⟨F,f1,f2,f3,D,C⟩:=m it (by simp);have hl:=q.length;exact Jf (I.ok.hd hc) st p.isList (by simp;lia) λn S=>⟨rfl,I.turned (t':=s.toks) (λb o f e=>S b o f e) F f1 f3 D C⟩
 self:=λ_ _ _ _ _ st h=>Mo st h
def EY{P:Ao}{w:Uw}{K:Ag}{tg:Uv}(a it:Up):FD P w K tg (Itt K a) [it] it (λi h=>h.IsTupleIter it a i) where
 mem:=by simp
 obj:=λi h st b g=>by
  have e:b=it:=by simpa using g
  subst e;obtain⟨o,e,c,d⟩:=st;exact⟨o,e,λv z=>by rw[d]at z;cases z⟩
 keep:=λi h q st k=>st.at λo e=>k it (by simp) o e
 item:=by intro X A hw B hc i J s G H E I n st y;subst A hw B;obtain⟨L,x,m,t⟩:=y;obtain⟨f,r,p,O⟩:=I.tuple m;obtain⟨u,R,N⟩:=r.get t;obtain⟨F,f1,f2,f3,D,C⟩:=n it (by simp);refine wpAny_pyNext_tuple_item st (show s.heap.IsTuple a f.toArray from p) (x:=u) (by simpa using R) λq j M=>?_;have T:cI X J G H {s with heap:=q}:=I.turned (t':=s.toks) (λb o g e=>(M.2 b g).trans e) F f1 f3 D C;obtain⟨o,e,c,d⟩:=id j;exact⟨u,rfl,FS (s:={s with heap:=q}) e c d (by decide) ⟨x,H,T,N,⟨rfl,λU Q=>by rw[I.tuple_inj Q m];exact t⟩,j,λb g=>(n b g).1⟩⟩
 done:=by intro X A hw B hc i J s G H E I n st y;subst A hw B;obtain⟨L,m,t⟩:=y;obtain⟨f,r,p,O⟩:=I.tuple m;obtain⟨F,f1,f2,f3,D,C⟩:=n it (by simp);have hl:=r.length;exact wpAny_pyNext_tuple_end (I.ok.hd hc) st (show s.heap.IsTuple a f.toArray from p) (by simp;lia) λq S=>⟨rfl,I.turned (t':=s.toks) (λb o g e=>S b o g e) F f1 f3 D C⟩
 self:=λ_ _ _ _ _ st h=>wpAny_pyIter_tupleiter st h
def EX{P:Ao}{w:Uw}{K:Tv}{tg:Uv}(it:Up)(lo:Int)(n:Nat):FD P w K tg (Itr lo n) [it] it (λi h=>IsRangeIter h it (lo+(i:Nat)*1) ((n:Int)-(i:Nat)) 1) where
 mem:=by simp
 obj:=λi h st b a=>by
  have e:b=it:=by simpa using a
  subst e;exact⟨_,st,λv z=>by have A:Data.fields _=Data.cell v:=z;cases A⟩
 keep:=λi h g st k=>k it (by simp) _ st
 item:=by intro X l hw m hc i y s u H E I f st j;subst l hw m;obtain⟨r,f1,f2,f3,q,p⟩:=f it (by simp);have W:=Walks.range (prog:=X.prog) (w:=X.w) (I.ok.hd hc) it lo 1 n;refine W.item i s _ _ j st λv g x C c B=>?_;obtain⟨t,rfl⟩:=C;have F:cI X y u H {s with heap:=g,toks:=x}:=I.turned (λb o a e=>B b o (by simpa using a) e) r f1 f3 q p;refine⟨_,rfl,FS (s:={s with heap:=g,toks:=x}) (n:= "range_iterator") c rfl rfl (by decide) ⟨.int (lo+i),H,F,⟨t,?_⟩,⟨rfl,rfl⟩,c,λb a=>(f b a).1⟩⟩;rw[Int.mul_one]
 done:=by intro X l hw m hc i y s u H E I f st j;subst l hw m;obtain⟨r,f1,f2,f3,q,p⟩:=f it (by simp);exact wpAny_pyNext_range_end (I.ok.hd hc) st (by have:n<=i:=j;lia) λg D=>⟨rfl,I.turned (t':=s.toks) (λb o a e=>D b o a e) r f1 f3 q p⟩
 self:=λ_ _ _ _ _ st h=>wpAny_pyIter_rangeiter st h
section
variable{X:Cx}{tg:Uv}
def Zr(K:Ag)(e:TE):TI:=λc H R=>e c H λx b=>∃a,x=.ref a/\(∃d,W8 K b a d)/\R (Itl K a) b
def iTup(K:Ag)(e:TE):TI:=λc H R=>e c H λx b=>∃a,x=.ref a/\(∃d,UN K b a d)/\R (Itt K a) b
def pD{l:Uv}{f:TE}(hl:PE X l f):PI X tg l (Zr X.K f):=by
 intro n s g H R I h;refine aD (hl n s g H _ I h) λv c ⟨x,r,d,i,q1⟩=>?_;obtain⟨a,e,⟨t,k⟩,q⟩:=q1;subst e;cases i;obtain⟨j,u,p,w⟩:=d.list k;refine Fs p.isList ?_;refine⟨c.heap.objs.size,[c.heap.objs.size],_,_,r,rfl,d.kept (t':=c.toks) λb o e=>Ac _ e,AY a _,⟨_,Al _ rfl,rfl,rfl⟩,λb m=>?_,q⟩;have e:b=c.heap.objs.size:=by simpa using m
 subst e;exact d.fpOk (Am _) (d.hok.fresh (Am _))
def Wr{l:Uv}{g:TE}(hl:PE X l g):PI X tg l (iTup X.K g):=by
 intro n s i H R I h;refine aD (hl n s i H _ I h) λv c ⟨x,r,d,j,q1⟩=>?_;obtain⟨a,e,⟨t,k⟩,q⟩:=q1;subst e;cases j;obtain⟨f,u,p,w⟩:=d.tuple k;refine Ow (show c.heap.IsTuple a f.toArray from p) ?_;refine⟨c.heap.objs.size,[c.heap.objs.size],_,_,r,rfl,d.kept (t':=c.toks) λb o e=>Ac _ e,EY a _,⟨_,Al _ rfl,rfl,rfl⟩,λb m=>?_,q⟩;have e:b=c.heap.objs.size:=by simpa using m
 subst e;exact d.fpOk (Am _) (d.hok.fresh (Am _))
def GC{f:List (Up×Vc)}{d:St}{H:Hp}{s:Ad}{R:It->Hp->Prop}{E:Uo->Ad->Prop}{lo a:Int}{t u v:Vi}{tk:Nat}(I:cI X f d H s)(l: -(2 ^ 62)<=lo)(k:lo<2 ^ 62)(j: -(2 ^ 62)<=a)(i:a<2 ^ 62)(q:R (Itr lo (a-lo).toNat) H):Ut (Uu X.prog X.w) X.A (Rz (.ref s.heap.objs.size)) (PIE X f d tg R) E {s with heap:=s.heap.push {cls:=.type "range",data:=.fields #[.int lo t,.int a u,.int 1 v]},toks:=tk}:=by
 refine wpAny_pyIter_range (IsRange.new ..) (small_one l k j i) ?_;have g:cI X f d H {s with heap:=s.heap.push {cls:=.type "range",data:=.fields #[.int lo t,.int a u,.int 1 v]},toks:=tk}:=I.kept λb o e=>Ac _ e;refine⟨(s.heap.push {cls:=.type "range",data:=.fields #[.int lo t,.int a u,.int 1 v]}).objs.size,[(s.heap.push {cls:=.type "range",data:=.fields #[.int lo t,.int a u,.int 1 v]}).objs.size],_,_,H,rfl,g.kept (t':=tk) λb o e=>Ac _ e,EX _ lo (a-lo).toNat,?_,λb h=>?_,q⟩
 ·have n : lo + ((0 : Nat) : Int) * 1 = lo := by simp
  have m:(((a-lo).toNat:Nat):Int)-((0:Nat):Int)=Tf lo a 1:=by rw[rangeSize_one];split<;>lia
  show IsRangeIter _ _ (lo+((0:Nat):Int)*1) ((((a-lo).toNat:Nat):Int)-((0:Nat):Int)) 1;rw[n,m];exact Al _ rfl
 have e : b = (s.heap.push { cls := .type "range",data := .fields #[.int lo t,.int a u,.int 1 v] }).objs.size := by simpa using h
 subst e;exact g.fpOk (Am _) (g.hok.fresh (Am _))
def sD(c:TA):TI:=λa H R=>c a H λb d=>∃j:Int,b=[.int j]/\ -(2 ^ 62)<=j/\j<2 ^ 62/\R (Itr 0 j.toNat) d
def tZ(c:TA):TI:=λa H R=>c a H λb d=>∃i j:Int,b=[.int i,.int j]/\(-(2 ^ 62)<=i/\i<2 ^ 62/\ -(2 ^ 62)<=j/\j<2 ^ 62)/\R (Itr i (j-i).toNat) d
def AE{a:Uv}{b:TA}{p pos:Pos}(i:Gl X "range")(g:X.mg "range"=bb)(k:PA X [a] b)(hs:Us [a] X.env=[(be,eval a X.env)]:=by rfl):PI X tg (.Call (.Name "range" p) [a] [] pos) (sD b):=by
 intro l s c H R I h;refine Call_ (OL I i g boot_range (Fa (aD (k pos l s c H _ I h) λo u ⟨n,v,m,f,q1⟩=>?_) hs rfl));obtain⟨j,e,q1,q2,q⟩:=q1;subst e;cases f with
 |cons r d=>
  cases d;obtain⟨t,rfl⟩:=r;exact call_range_1 (GC m (by lia) (by lia) q1 q2 (by simpa using q))
def AF{a b:Uv}{f:TA}{p pos:Pos}(o:Gl X "range")(n:X.mg "range"=bb)(u:PA X [a,b] f)(hs:Us [a,b] X.env=[(be,eval a X.env),(be,eval b X.env)]:=by rfl)(c:Us [b] X.env=[(be,eval b X.env)]:=by rfl):PI X tg (.Call (.Name "range" p) [a,b] [] pos) (tZ f):=by
 intro v s g H R I h;refine Call_ (OL I o n boot_range (Fa (aD (u pos v s g H _ I h) λy A ⟨x,B,w,k,q1⟩=>?_) (by rw[hs,c]) (by rw[c];rfl)));obtain⟨i,j,e,⟨q1,q2,q3,m⟩,q⟩:=q1;subst e;cases k with
 |cons r d=>
  cases d with
  |cons l d=>
   cases d;obtain⟨t,rfl⟩:=r;obtain⟨z,rfl⟩:=l;exact call_range_2 (GC w q1 q2 q3 m q)
def tFor(f:TI)(g:TG)(h:TS):TS:=λD a H=>f a H λJ k=>∃W:Nat->Nat->St->Hp->Prop,(∃m,W 0 m a k)/\∀i m a H,W i m a H->
 (J.stop i H/\D.nx a H)∨(J.go i H/\∃N:St->Hp->Prop,(∀b c,N b c->∃e,e<m/\W (i+1) e b c)/\∀x c,J.yld i H x c->g x a c λd j=>h {D with nx:=N,ct:=N,bk:=D.nx} d j)
def OT(fp:List Up)(h:Uy):List (Up×Vc):=fp.filterMap λb=>(h.get? b).map λo=>(b,o)
def X3{fp:List Up}{h:Uy}{b:Up}{o:Vc}(a:b∈fp)(e:h.get? b=ba o):(b,o)∈OT fp h:=Ie.mpr ⟨b,a,by rw[e];rfl⟩
def jL{fp:List Up}{h:Uy}{p:Up×Vc}(a:p∈OT fp h):p.1∈fp/\h.get? p.1=ba p.2:=by
 obtain⟨b,c,e⟩:=Ie.mp a;cases q:h.get? b with
 |none=>rw[q]at e;cases e
 |some o=>
  rw[q]at e;have d:(b,o)=p:=Cg e;subst d;exact⟨c,q⟩
def cI.pinned{a:List (Up×Vc)}{c:St}{H:Hp}{s:Ad}{fp:List Up}(I:cI X a c H s)(j:∀b∈fp,K9 X a H b)(i:∀b∈fp,∃o,s.heap.get? b=ba o/\∀v,o.data≠ .cell v):cI X (a++OT fp s.heap) c H s:=
 I.pins_of λp h=>(Ez.mp h).elim (λz=>I.pin p (Ax _ z)) λz=>by obtain⟨f,e⟩:=jL z;obtain⟨k,f1,f2,_⟩:=j p.1 f;obtain⟨o,g,d⟩:=i p.1 f;rw[e]at g;cases g;exact⟨e,k,f1,f2,d⟩
def cI.unpinned{b pl:List (Up×Vc)}{a:St}{H:Hp}{s:Ad}(I:cI X (b++pl) a H s):cI X b a H s:=I.pins_of λp c=>I.pin p (Ax _ (Aq _ c))
def ED{iter:Uv}{body:List Vb}{V:TI}{g:TG}{Z:TS}{pos:Pos}(F:Mn (Uu X.prog X.w) X.A X.env X.xe)(hc:X.calm=bc)(hi:PI X tg iter V)(hg:PG X tg g)(k:X4 X body Z)(hs:∀x,Ux iter X.env x=pure x:=by intro _;rfl):PS X (.For tg iter body [] pos) (tFor V g Z):=by
 intro z s U H D I h;refine wpAny_For (aD (hi z s U H _ I h) λv s1 h1=>aD h1 λitv s2 h2=>?_) hs;obtain⟨it,K,Y,J,H2,e,I2,T,O,f2,W,⟨m0,w0⟩,turn⟩:=h2;subst e;have stat:∀{q:Hp},(∀b∈K,q b=bb)->∀b∈K,K9 X z q b:=λhn b k=>⟨hn b k,(f2 b k).2⟩;refine codeAny_forLoop_any (λn s'=>∃i j q,cI X z j q s'/\Y i s'.heap/\(∀b∈K,q b=bb)/\W i n j q) ?_ m0 ⟨0,U,H2,I2,O,λb k=>(f2 b k).1,w0⟩;rintro n s3 ⟨i,c,L,I3,C,G,w3⟩;rcases turn i n c L w3 with⟨B,qn⟩|⟨go,N,hN,step⟩
 refine Fq F (aD (T.done X rfl rfl rfl hc i z s3 c L X.xe I3 (stat G) C B) λr s4 ⟨Q,I4⟩ => ?_);subst Q;exact Gm ⟨c,L,I4,qn⟩;refine Fq F (aD (T.item X rfl rfl rfl hc i z s3 c L X.xe I3 (stat G) C go) λr s4 ⟨u,Q,h4⟩ => ?_);subst Q;refine Fq F (aD h4 λ_ s5 ⟨x,H5,I5,r5,y5,y,R⟩=>?_);have S:=I5.pinned (stat R) (T.obj _ _ y);refine Fq F (aD (hg _ s5 c H5 x u _ S r5 (step x H5 y5)) λ_ s6 ⟨M,H6,I6,q6⟩=>?_);refine Fq F (aD (k _ s6 M H6 _ I6 q6) λf P t=>?_);have again:∀{a:St}{p:Hp},cI X (z++OT K s5.heap) a p P->N a p->∃m,m<n/\∃i j q,cI X z j q P/\Y i P.heap/\(∀b∈K,q b=bb)/\W i m j q:=λ{a p} l E=>by obtain⟨m',hm,w7⟩:=hN a p E;refine⟨m',hm,i+1,a,p,l.unpinned,T.keep _ _ _ y λb k o e=>(l.pin (b,o) (Ax _ (Ax _ (X3 k e)))).1,λb k=>?_,w7⟩;obtain⟨o,e,d⟩:=T.obj _ _ y b k;exact(l.pin (b,o) (Ax _ (Ax _ (X3 k e)))).2.1
 cases f with
 |next=>obtain⟨a,p,l,E⟩:=t;exact again l E
 |cont=>obtain⟨a,p,l,E⟩:=t;exact again l E
 |brk=>obtain⟨a,p,l,t⟩:=t;exact⟨a,p,l.unpinned,t⟩
 |ret v=>obtain⟨x7,a,p,l,r7,t⟩:=t;exact⟨x7,a,p,l.unpinned,r7,t⟩
end
abbrev R2:=V->V->Hp->VK->Prop
def XR(X:Cx)(f:Uo->Uo->Vg Uo)(r:R2):Prop:=
 ∀(b:List (Up×Vc)) (s:Ad) (a:St) (H:Hp) (x y:V) (v u:Uo) (Q:VK),cI X b a H s->b3 x v->b3 y u->r x y H Q->
  Ut (Uu X.prog X.w) X.A (f v u) (EP X b a Q) X.xe s
def UnR(X:Cx)(f:Uo->Vg Uo)(r:V->Hp->VK->Prop):Prop:=
 ∀(b:List (Up×Vc)) (s:Ad) (a:St) (H:Hp) (x:V) (v:Uo) (Q:VK),cI X b a H s->b3 x v->r x H Q->
  Ut (Uu X.prog X.w) X.A (f v) (EP X b a Q) X.xe s
def aV(X:Cx)(f:Uo)(r:List V->Hp->VK->Prop):Prop:=
 ∀(d:List (Up×Vc)) (s:Ad) (a:St) (H:Hp) (b:List V) (c:List Uo) (Q:VK),cI X d a H s->bS b c->r b H Q->
  Ut (Uu X.prog X.w) X.A (call f c) (EP X d a Q) X.xe s
def tOp(r:R2)(c b:TE):TE:=λa H Q=>c a H λx e=>b a e λy d=>r x y d Q
def tUn(r:V->Hp->VK->Prop)(b:TE):TE:=λa H Q=>b a H λx c=>r x c Q
def rI(C:Int->Int->Prop)(g:Int->Int->V):R2:=λx y H Q=>∃i j,x=.int i/\y=.int j/\C i j/\Q (g i j) H
def EF(g:Int->Int->V):R2:=λx y H Q=>∃i j,x=.int i/\y=.int j/\Q (g i j) H
def rU(g:Int->V):V->Hp->VK->Prop:=λx H Q=>∃i,x=.int i/\Q (g i) H
section
variable{X:Cx}{a b c:Uv}{ta tb tc:TE}{pos:Pos}
def binT(q:PE X a ta)(p:PE X b tb){j:List (Up×Vc)}{s:Ad}{c:St}{H:Hp}{R:V->V->Hp->Prop}(I:cI X j c H s)(h:ta c H λx k=>tb c k λy d=>R x y d){Q:Uo->Ad->Prop}{f:Uo->Uo->Vg Uo}(o:∀v u i x y d,cI X j c d i->b3 x v->b3 y u->R x y d->Ut (Uu X.prog X.w) X.A (f v u) Q X.xe i):Ut (Uu X.prog X.w) X.A (eval a X.env) (λv g=>Ut (Uu X.prog X.w) X.A (eval b X.env) (λu e=>Ut (Uu X.prog X.w) X.A (f v u) Q X.xe e) X.xe g) X.xe s:=by refine aD (q j s c H _ I h) λv l ⟨x,k,t,n,q1⟩=>?_;refine aD (p j l c k _ t q1) λu i ⟨y,d,r,m,q2⟩=>?_;exact o v u i x y d r n m q2
def Xv{op:Operator}{r:R2}(g:XR X (Fg op) r)(j:PE X a ta)(i:PE X b tb):PE X (.BinOp a op b pos) (tOp r ta tb):=by intro k s c H Q I h;exact wpAny_BinOp (binT j i I h λv u d x y m l f e q=>g k d c m x y v u Q l f e q)
def rF{op:UnaryOp}{r:V->Hp->VK->Prop}(f:UnR X (unaryOp op) r)(g:PE X a ta):PE X (.UnaryOp op a pos) (tUn r ta):=by intro c s b H Q I h;exact UnaryOp_ (aD (g c s b H _ I h) λv d ⟨x,j,i,e,q1⟩=>f c d b j x v Q i e q1)
def opI{f:Uo->Uo->Vg Uo}{C:Int->Int->Prop}{g:Int->Int->Int}(rule:∀(i j:Int) (t u:Vi) (s:Ad) (Q:Uo->Ad->Prop) (E:Uo->Ad->Prop),C i j->Q (.int (g i j) s.toks) {s with toks:=s.toks+1}->Ut (Uu X.prog X.w) X.A (f (.int i t) (.int j u)) Q E s):XR X f (rI C λi j=>.int (g i j)):=by intro k s e H x y v u Q I d c h;obtain⟨i,j,rfl,rfl,hc,q⟩:=h;obtain⟨t,rfl⟩:=d;obtain⟨b,rfl⟩:=c;exact rule i j t b s _ _ hc ⟨.int (g i j),H,I.tok _,⟨_,rfl⟩,q⟩
def opI0{f:Uo->Uo->Vg Uo}{g:Int->Int->Int}(rule:∀(i j:Int) (t u:Vi) (s:Ad) (Q:Uo->Ad->Prop) (E:Uo->Ad->Prop),Q (.int (g i j) s.toks) {s with toks:=s.toks+1}->Ut (Uu X.prog X.w) X.A (f (.int i t) (.int j u)) Q E s):XR X f (EF λi j=>.int (g i j)):=by intro k s e H x y v u Q I d c h;obtain⟨i,j,rfl,rfl,q⟩:=h;obtain⟨t,rfl⟩:=d;obtain⟨b,rfl⟩:=c;exact rule i j t b s _ _ ⟨.int (g i j),H,I.tok _,⟨_,rfl⟩,q⟩
def opB0{f:Uo->Uo->Vg Uo}{g:Int->Int->Bool}(rule:∀(i j:Int) (t u:Vi) (s:Ad) (Q:Uo->Ad->Prop) (E:Uo->Ad->Prop),Q (.bool (g i j)) s->Ut (Uu X.prog X.w) X.A (f (.int i t) (.int j u)) Q E s):XR X f (EF λi j=>.bl (g i j)):=by intro e s d H x y v u Q I c b h;obtain⟨i,j,rfl,rfl,q⟩:=h;obtain⟨t,rfl⟩:=c;obtain⟨a,rfl⟩:=b;exact rule i j t a s _ _ ⟨.bl (g i j),H,I,rfl,q⟩
def CDiv(i j:Int):Prop:=0<j/\j<1073741824
def CPow(i j:Int):Prop:=0<=j/\j<=1000000/\i.natAbs<2 ^ 64
def CMul(i j:Int):Prop:=(-(2 ^ 64)<i/\i<2 ^ 64)∨(-(2 ^ 64)<j/\j<2 ^ 64)
def CMul.ok{i j:Int}(h:CMul i j):IntMulOk i j:=by
 rcases h with⟨b,a⟩|⟨b,a⟩;exact .of_left (intBits_le_64 b a);exact .of_right (intBits_le_64 b a)
def zKF:XR X (Fg .Add) (EF λi j=>.int (i+j)):=opI0 λ_ _ _ _ _ _ _ q=>add_int q
def Yb:XR X (Fg .Sub) (EF λi j=>.int (i-j)):=opI0 λ_ _ _ _ _ _ _ q=>sub_int q
def oA:XR X (Fg .Mult) (rI CMul λi j=>.int (i*j)):=opI λ_ _ _ _ _ _ _ hc q=>mul_int q hc.ok
def B9:XR X (Fg .FloorDiv) (rI CDiv λi j=>.int (i/j)):=opI λi j _ _ _ _ _ hc q=>by have b:(0:Int)<j:=hc.1;have a:j<1073741824:=hc.2;exact floordiv_int (by lia) (by rw[Int.fdiv_eq_ediv_of_nonneg i (by lia)];exact q) (.inl (PyProof.noPylong_small (by lia)))
def OR:XR X (Fg .Mod) (rI (λ_ j=>0<j) λi j=>.int (i % j)):=opI λi j _ _ _ _ _ hc q=>by have a:(0:Int)<j:=hc;exact mod_int' (by lia) (by rw[Int.fmod_eq_emod_of_nonneg i (by lia)];exact q)
def kO:XR X (Fg .Pow) (rI CPow λi j=>.int (i ^ j.toNat)):=opI λ_ _ _ _ _ _ _ hc q=>pow_int_small hc.1 hc.2.1 hc.2.2 q
def unI{f:Uo->Vg Uo}{g:Int->Int}(rule:∀(i:Int) (t:Vi) (s:Ad) (Q:Uo->Ad->Prop) (E:Uo->Ad->Prop),Q (.int (g i) s.toks) {s with toks:=s.toks+1}->Ut (Uu X.prog X.w) X.A (f (.int i t)) Q E s):UnR X f (rU λi=>.int (g i)):=by intro d s c H x v Q I b h;obtain⟨i,rfl,q⟩:=h;obtain⟨t,rfl⟩:=b;exact rule i t s _ _ ⟨.int (g i),H,I.tok _,⟨_,rfl⟩,q⟩
def lZ:UnR X (unaryOp .USub) (rU λi=>.int (-i)):=unI λ_ _ _ _ _ q=>neg_int q
end
section
variable{X:Cx}{a b c:Uv}{ta tb tc:TE}{pos:Pos}
section
variable{r:R2}{op:CmpOp}{x:V}{us:List Uo}
def LL{c:List (Up×Vc)}{a:St}{H:Hp}{s:Ad}{Q:VK}{k b:Bool}(I:cI X c a H s)(q:Q (.bl k) H)(e:k=b):EP X c a Q (.bool b) s:=by subst e;exact⟨.bl k,H,I,rfl,q⟩
def NY:XR X (Cd .Lt) (EF λi j=>.bl (decide (i<j))):=opB0 λ_ _ _ _ _ _ _ q=>lt_int q
def J5:XR X (Cd .LtE) (EF λi j=>.bl (decide (i<=j))):=opB0 λ_ _ _ _ _ _ _ q=>le_int q
def Wl:XR X (Cd .Gt) (EF λi j=>.bl (decide (j<i))):=opB0 λ_ _ _ _ _ _ _ q=>gt_int q
def Yo:XR X (Cd .GtE) (EF λi j=>.bl (decide (j<=i))):=opB0 λ_ _ _ _ _ _ _ q=>ge_int q
def mS:XR X (Cd .In) (λx y H Q=>∃i j,x=.str i/\y=.str j/\Q (.bl (!(Ig j i 0 j.length 1).isEmpty)) H):=by intro e s c H x y v u Q I b a h;obtain⟨i,j,rfl,rfl,q⟩:=h;obtain⟨t,rfl⟩:=b;obtain⟨d,rfl⟩:=a;exact in_str (LL I q rfl)
def MC:XR X (Cd .Is) (λx y H Q=>y=.non/\Q (.bl (decide (x=.non))) H):=by
 intro d s c H x y v u Q I a b h;obtain⟨rfl,q⟩:=h;cases b;refine is_none_gen (LL I q ?_);cases x<;>first
  |(cases a;rfl)
  |(obtain⟨t,rfl⟩:=a;rfl)
def CA:XR X (Cd .IsNot) (λx y H Q=>y=.non/\Q (.bl (!decide (x=.non))) H):=by
 intro d s c H x y v u Q I a b h;obtain⟨rfl,q⟩:=h;cases b;refine isnot_none_gen (LL I q ?_);cases x<;>first
  |(cases a;rfl)
  |(obtain⟨t,rfl⟩:=a;rfl)
def XR.or{f:Uo->Uo->Vg Uo}{d:R2}(h:XR X f r)(h':XR X f d):XR X f (λx y H Q=>r x y H Q∨d x y H Q):=by
 intro e s a H x y v u Q I c b q;rcases q with q|q;exact h e s a H x y v u Q I c b q;exact h' e s a H x y v u Q I c b q
def V5(b:Uv)(h:op≠ .In:=by decide)(a:op≠ .NotIn:=by decide):Ih op b=be:=by
 have d:(op==CmpOp.In)=be:=by cases op<;>first|rfl|exact absurd rfl h
 have c:(op==CmpOp.NotIn)=be:=by cases op<;>first|rfl|exact absurd rfl a
 cases b<;>simp[Ih,d,c]
def dC(g:XR X (Cd op) r)(k:PE X a ta)(j:PE X b tb)(i:Ih op b=be):PE X (.Compare a [op] [b] pos) (tOp r ta tb):=by intro l s c H Q I h;exact wpAny_Compare1 (binT k j I h λv u d x y n m f e q=>g l d c n x y v u Q m f e q) i
def Yh(t:TE):TT:=λa H Q=>t a H λx b=>∃k,x=.bl k/\Q k b
def v5(n:XR X (Cd op) r)(q:PE X a ta)(p:PE X b tb)(o:Ih op b=be):PT X (.Compare a [op] [b] pos) (Yh (tOp r ta tb)):=by
 intro f s d H Q I h;refine wpAny_isTrue_Compare1 (aD (q f s d H _ I h) λv i ⟨x,D,A,m,q1⟩=>aD (p f i d D _ A q1) λu g ⟨y,C,w,l,q2⟩=>
  aD (n f g d C x y v u _ w m l q2) λc E ⟨z,B,t,j,k,e,q3⟩=>?_) o
 subst e;cases j;exact Cu ⟨B,t,q3⟩
def EV(r d:R2)(ta tb tc:TE):TE:=λa H Q=>ta a H λx g=>tb a g λy f=>r x y f λz b=>∃k,z=.bl k∧
 (if k=bc then tc a b λc e=>d y c e Q else Q (.bl be) b)
def pO{f:CmpOp}{m:R2}(G:XR X (Cd op) r)(j:XR X (Cd f) m)(L:PE X a ta)(K:PE X b tb)(hc:PE X c tc)(J:Sa [op,f] [b,c]=be:=by with_unfolding_all rfl):PE X (.Compare a [op,f] [b,c] pos) (EV r m ta tb tc):=by
 intro i s g H Q I h;refine Compare_chain (aD (L i s g H _ I h) λv B ⟨x,S,O,E,q1⟩=>chain_link (aD (K i B g S _ O q1) λu A ⟨y,R,N,l,q2⟩=>
  aD (G i A g R x y v u _ N E l q2) λd w ⟨z,o,n,D,k,e,q3⟩=>?_)) J
 subst e;cases D;refine Cu ?_;cases k with
 |false=>exact ite_ff ⟨.bl be,o,n,rfl,q3⟩
 |true=>exact ite_tt (chain_last (aD (hc i w g o _ n q3) λq t ⟨p,P,M,C,F⟩=>j i t g P y p u q Q M l C F))
def eF{f:CmpOp}{m:R2}(L:XR X (Cd op) r)(j:XR X (Cd f) m)(O:PE X a ta)(N:PE X b tb)(hc:PE X c tc)(M:Sa [op,f] [b,c]=be:=by with_unfolding_all rfl):PT X (.Compare a [op,f] [b,c] pos) (Yh (EV r m ta tb tc)):=by
 intro i s g H Q I h;refine isTrue_chain (aD (O i s g H _ I h) λv B ⟨x,H1,V,F,q1⟩=>test_link (aD (N i B g H1 _ V q1) λu A ⟨y,Z,U,l,q2⟩=>
  aD (L i A g Z x y v u _ U F l q2) λd w ⟨z,o,n,E,k,e,q3⟩=>?_)) M
 subst e;cases E;refine Cu ?_;cases k with
 |false=>
  obtain⟨k',R,K⟩:=q3;cases R;exact ite_ff ⟨o,n,K⟩
 |true=>
  refine ite_tt (test_last (aD (hc i w g o _ n q3) λq t ⟨p,Y,T,D,J⟩=>aD (j i t g Y y p u q _ T l D J) λd' s5 ⟨z2,W,S,C,k2,P,G⟩=>?_));subst P;cases C;exact Cu ⟨W,S,G⟩
def OM:(sizeLine:Nat)<2 ^ 63:=by rw[Bg];decide
def D6:XR X (Fg .Add) (λx y H Q=>∃i j,x=.str i/\y=.str j/\i.length+j.length<=sizeLine/\Q (.str (i++j)) H):=by intro g s e H x y v u Q I c b h;obtain⟨i,j,rfl,rfl,d,q⟩:=h;obtain⟨t,rfl⟩:=c;obtain⟨a,rfl⟩:=b;exact add_str (λa f=>⟨.str (i++j),H,I.tok _,⟨_,rfl⟩,q⟩) d
def U2(r:bS [x] us):∃u,us=[u]/\b3 x u:=by
 cases r with
 |cons b a=>cases a;exact⟨_,rfl,b⟩
def GY{y:V}(r:bS [x,y] us):∃u a,us=[u,a]/\b3 x u/\b3 y a:=by
 cases r with
 |cons e d=>
  cases d with
  |cons c b=>cases b;exact⟨_,_,rfl,e,c⟩
def nF(hc:X.calm=bc):aV X (.builtin "min") (λb H Q=>∃i j,b=[.int i,.int j]/\Q (.int (if j<i then j else i)) H):=by
 intro m s c H b e Q I r h;obtain⟨i,j,rfl,q⟩:=h;obtain⟨u,d,rfl,⟨t,rfl⟩,⟨g,rfl⟩⟩:=GY r;refine min_two_ints (I.ok.hd hc) λl f k=>⟨_,H,I.kept k,?_,q⟩;by_cases a:j<i;rw[if_pos a,if_pos a];exact⟨_,rfl⟩;rw[if_neg a,if_neg a];exact⟨_,rfl⟩
end
end
structure E9(h:Uy)(x dx C:Up)(mA:Uq->Option Uo):Prop where
 obj:h.get? x=ba (Jd C dx)
 ns:h.Ns1 dx mA
 ne:dx≠x
def JZ{h:Uy}{d:Up}{b:Uq->Option Uo}(n:h.Ns1 d b):∃od,h.get? d=ba od/\∀name,Tg name od=ba (b name):=by
 obtain⟨o,c,p,i,l,k,_,j⟩:=n;refine⟨o,i,λname=>?_⟩;have e:=j name;unfold nsFind findBy at e;rw[<-Ox]at e;unfold Tg;rw[l];dsimp only;split;rename_i y q;rw[q]at e;exact congrArg ba e;rename_i q;rw[q]at e;have a:c.toList.any (·.refKey)=be:=by rw[List.any_eq_false];intro y g;obtain⟨z,t,f⟩:=k y (Array.mem_toList_iff.mp g);simp[DictEntry.refKey,f]
 have m:¬c.toList.any (·.refKey)=bc:=by rw[a];exact Bw
 rw[if_neg m];exact congrArg ba e
def E9.look{h:Uy}{x b C:Up}{a:Uq->Option Uo}(I:E9 h x b C a):∃od,W.InstAt h x (Jd C b) C (ba od)/\∀name,Tg name od=ba (a name):=
 let ⟨od,c,hl⟩:=JZ I.ns
 ⟨od,⟨I.obj,rfl,rfl,c⟩,hl⟩
section
variable{prog:Ao}{w:Uw}{A:Bp}{E:Uo->Ad->Prop}{s:Ad}{K:Ag}{x dx C f:Up}{mA:Uq->Option Uo}{name:Uq}{v:Uo}
def oT{c:Bool}{Q:Uo->Ad->Prop}(X:K.In s.heap)(I:E9 s.heap x dx C mA)(f:Pw K C name=bc)(e:Sb K C=bc)(g:Ha K (.ref C) name=ba bb)(d:mA name=ba v)(a:Sx v=bc)(h:Q v {s with toks:=s.toks+1}):Ut (Uu prog w) A (Th (.ref x) name c) Q E s:=by obtain⟨od,J,hl⟩:=I.look;exact W.get_value X J (Oy f).1 (W.findObj_own e g rfl (by rw[hl,d])) a h
def iS{pl:Vg Bool}{Q:Uo×List Uo->Ad->Prop}(X:K.In s.heap)(I:E9 s.heap x dx C mA)(a:Pw K C name=bc)(d:Ha K (.ref C) name=ba (ba (.ref f)))(c:W.isFn K (.ref f)=bc)(b:mA name=bb)(h:Q (.ref f,[.ref x]) s):Ut (Uu prog w) A (Hm (.ref x) name pl) Q E s:=by obtain⟨od,J,hl⟩:=I.look;exact W.method_fn X J (Oy a).1 (Oy a).2 d (beq_iff_eq.mp c) (by show(Tg name od).map (·.isSome)=ba be;rw[hl,b];rfl) h
def CT{ns:List Uq}{Q:Unit->Ad->Prop}(X:K.In s.heap)(I:E9 s.heap x dx C mA)(hs:Ha K (.ref C) "__setattr__"=ba (ba (.builtin "object.__setattr__")))(n:W.plainOver K C=bc)(m:Tw K C name=ba bb)(o:Sb K C=bc)(hw:Mm mA ns)(hsz:ns.length<=sizeLine)(h:∀h',E9 h' x dx C (λy=>if y=name then ba v else mA y)->Ek dx s.heap h'->Q () {s with heap:=h',toks:=s.toks+2}):Ut (Uu prog w) A (Ti (.ref x) name v) Q E s:=by obtain⟨od,J,hl⟩:=I.look;refine W.set_plain X J hs (W.osa_open (s:={s with toks:=s.toks+1}) (r:=bb) X J n m λb=>?_);obtain⟨u,hc,i⟩:=W.any_some o;have l:s.heap.get? x=ba ⟨.ref C,ba dx,.plain,#[]⟩:=I.obj;refine Ab (Af (Ab (Ab (Kq l (Ab (W.Looks.here (s:={s with toks:=s.toks+1}) (W.looks_clsIn X hc) ?_))))));rw[i];refine Af (a:=ba dx) (Ab (Af (Ab ?_)));refine wpAny_nsSet1 (s:={s with toks:=s.toks+1}) I.ns λh' e d=>?_;obtain⟨t,p,q,f,g,j⟩:=e.count (PySem.Within.cons name v hw);refine Ab (wpAny_lookBehind f (by rw[g];exact pastItsLine_dict (Dq j (by rw[Cs];lia))) ?_);exact Af (h _ ⟨(d.2 _ (Dm I.ne)).trans I.obj,e,I.ne⟩ d)
def F0{R:Tx->Ad->Prop}{vs:List Uo}{b:List (Uq×Uo)}(X:K.In s.heap)(e:Oz K C=bc)(i:Ha K (.ref C) "__init__"=ba (ba (.ref f)))(j:Tj K (.ref f)=ba (.type "function"))(h:Gg (Uu prog w) (A.under (.builtin "type.__call__" ⟨.ref C::vs,b⟩)) (.call (.ref f) ⟨.ref (s.heap.objs.size+1)::vs,b⟩) (W.InitBack (s.heap.objs.size+1) R) {s with heap:=(s.heap.push Gp).push (Jd C s.heap.objs.size)}):Gg (Uu prog w) A (.call (.ref C) ⟨vs,b⟩) R s:=by obtain⟨k,g,d,t,os⟩:=s;exact W.make_core (W.makes_of X e) (W.looks_findIn X i) (λa=>W.bind_fn X a j) (.inl rfl) h
end
noncomputable def WT(f:Uq)(v:V):List (Uq×V)->List (Uq×V)
 |[]=>[(f,v)]
 |(g,x)::r=>if g=f then(g,v)::r else(g,x)::WT f v r
theorem SU(f g:Uq)(v:V):∀fs:List (Uq×V),(WT f v fs).lookup g=if g=f then ba v else fs.lookup g
 | [] => by
  show Dy g [(f,v)]=_;by_cases h:g=f;have a:(g==f)=bc:=beq_iff_eq.mpr h;simp only[Dy,a,if_pos h];have a:(g==f)=be:=beq_eq_false_iff_ne.mpr h;simp only[Dy,a,if_neg h]
 | (k,x) :: r => by
  have c:=SU f g v r;rw[show WT f v ((k,x)::r)=(if k=f then(k,v)::r else(k,x)::WT f v r) from rfl];by_cases b:k=f;rw[if_pos b];by_cases h:g=k;have a:(g==k)=bc:=beq_iff_eq.mpr h;simp only[Dy,a,if_pos (h.trans b)];have a:(g==k)=be:=beq_eq_false_iff_ne.mpr h;simp only[Dy,a,if_neg (λe:g=f=>h (e.trans b.symm))];rw[if_neg b];by_cases h:g=k;have a:(g==k)=bc:=beq_iff_eq.mpr h;simp only[Dy,a,if_neg (λe:g=f=>b (h.symm.trans e))];have a:(g==k)=be:=beq_eq_false_iff_ne.mpr h;simp only[Dy,a];exact c
theorem US(f:Uq)(v:V):∀fs:List (Uq×V),f∈(WT f v fs).map (·.1)/\∀g,g∈fs.map (·.1)->g∈(WT f v fs).map (·.1)
 |[]=>⟨by simp[WT],λg h=>by simp at h⟩
 | (k,x) :: r => by
  obtain⟨c,b⟩:=US f v r;rw[show WT f v ((k,x)::r)=(if k=f then(k,v)::r else(k,x)::WT f v r) from rfl];by_cases a:k=f;rw[if_pos a];subst a;exact⟨by simp,λg h=>by simpa using h⟩;rw[if_neg a];refine⟨?_,λg h=>?_⟩;rw[Ch];exact Ay _ c;rw[Ch]at h⊢;rcases Bj.mp h with e|e;exact Bj.mpr (.inl e);exact Ay _ (b g e)
theorem SR(f:Uq)(v:V):∀fs:List (Uq×V),(WT f v fs).length<=fs.length+1
 |[]=>by simp[WT]
 |(k,x)::r=>by
  have b:=SR f v r;rw[show WT f v ((k,x)::r)=(if k=f then(k,v)::r else(k,x)::WT f v r) from rfl];by_cases a:k=f;rw[if_pos a,Cs,Cs];lia;rw[if_neg a,Cs,Cs];lia
def WJ.some_of{v:V}{o:Option Uo}(r:WJ (ba v) o):∃u,o=ba u/\b3 v u:=by
 cases o with
 |none=>exact(show False from r).elim
 |some u=>exact⟨u,rfl,r⟩
def WJ.none_of{o:Option Uo}(r:WJ bb o):o=bb:=by
 cases o with
 |none=>rfl
 |some u=>exact(show False from r).elim
def nC{v:V}{u:Uo}(r:b3 v u):Sx u=bc:=by
 cases v with
 |non=>cases (show u=Value.none from r);rfl
 |bl b=>cases (show u=Gy b from r);rfl
 |int i=>obtain⟨t,e⟩:=(show∃t,u=Op i t from r);cases e;rfl
 |str x=>obtain⟨t,e⟩:=(show∃t,u=Oq x t from r);cases e;rfl
 |byt b=>obtain⟨t,e⟩:=(show∃t,u=Uf b t from r);cases e;rfl
 |flt b=>obtain⟨t,e⟩:=(show∃t,u=Ru b t from r);cases e;rfl
 |ref a=>cases (show u=An a from r);rfl
 |ty n=>cases (show u=Gz n from r);rfl
section
variable{P:Ao}{w:Uw}{H H':Hp}{h h':Uy}{a C dx:Up}{fs fs':List (Uq×V)}
def HP(c:T6 P w H h)(e:H a=ba (.ins C dx fs)):∃b,E9 h a dx C b/\(∀f,WJ (fs.lookup f) (b f))/\Mm b (fs.map (·.1))/\fs.length<=1000/\H dx=ba (.own a):=by obtain⟨d,z,i,g,b,n,r,q⟩:=(show a5 P w H h a (.ins C dx fs) from c a _ e);exact⟨b,⟨g,n,i⟩,r,q,z,d⟩
end
structure Cls(K:Ag)(C:Up):Prop where
 pg:Pw K C Str.empty=bc
 hd:Sb K C=bc
 po:W.plainOver K C=bc
 sa:Ha K (.ref C) "__setattr__"=ba (ba (.builtin "object.__setattr__"))
def Cls.get{K:Ag}{C:Up}(c:Cls K C)(f:Uq):Pw K C f=bc:=c.pg
def Z9(K:Ag)(C:Up)(f:Uq):Prop:=Ha K (.ref C) f=ba bb
def Z9.taker{K:Ag}{C:Up}{f:Uq}(n:Z9 K C f):Tw K C f=ba bb:=by unfold Tw;rw[show Ha K (.ref C) f=ba bb from n];rfl
structure Meth(K:Ag)(C:Up)(m:Uq)(f:Up):Prop where
 at_:Ha K (.ref C) m=ba (ba (.ref f))
 fn:W.isFn K (.ref f)=bc
 kp:Fh K (.ref f)=bc
section
variable{X:Cx}{aa:List (Up×Vc)}{σ:St}{H:Hp}{s:Ad}{a C dx:Up}{fs:List (Uq×V)}{f:Uq}{v:V}{A:Bp}{E:Uo->Ad->Prop}
def MP{y:V}{u:Uo}{Q:Unit->Ad->Prop}(I:cI X aa σ H s)(e:H a=ba (.ins C dx fs))(c:Cls X.K C)(n:Z9 X.K C f)(hl:fs.length<1000)(m:b3 y u)(h:∀s',cI X aa σ (upd H a (.ins C dx (WT f y fs))) s'->Q () s'):Ut (Uu X.prog X.w) A (Ti (.ref a) f u) Q E s:=by
 obtain⟨j,O,r,i,_,k⟩:=HP I.hok e;have p:(fs.map (·.1)).length<=sizeLine:=by rw[Bb,Bg];lia
 refine CT I.kIn O c.sa c.po n.taker c.hd i p λD d l=>h _ ?_;have v:∃o,D.get? dx=ba o:=let ⟨o,_,_,F,_⟩:=d.ns;⟨o,F⟩
 refine I.write (x:=a) (e:=dx) (by rw[e];exact True.intro) (.inr k) (λb q B z=>(l.2 b B).trans z) v ?_;refine⟨by rw[cL O.ne];exact k,?_,O.ne,d.obj,_,d.ns,λg=>?_,λg t=>?_⟩;have:=SR f y fs;lia
 show WJ ((WT f y fs).lookup g) (if g=f then ba u else j g);rw[SU];by_cases q:g=f;rw[if_pos q,if_pos q];exact m;rw[if_neg q,if_neg q];exact r g;by_cases q:g=f;rw[q];exact(US f y fs).1;refine (US f y fs).2 g (i g λz => t ?_);show(if g=f then ba u else j g)=bb;rw[if_neg q];exact z
def cI.made(I:cI X aa σ H s):cI X aa σ (upd (upd H s.heap.objs.size (.own (s.heap.objs.size+1))) (s.heap.objs.size+1) (.ins C s.heap.objs.size [])) {s with heap:=(s.heap.push Gp).push (Jd C s.heap.objs.size)}:=by
 have f:(s.heap.push Gp).get? s.heap.objs.size=ba Gp:=Al s.heap rfl;have j:((s.heap.push Gp).push (Jd C s.heap.objs.size)).get? (s.heap.objs.size+1)=ba (Jd C s.heap.objs.size):=by
  have:=Al (s.heap.push Gp) (o:=Jd C s.heap.objs.size) rfl
  rwa[Cb]at this
 have i:(s.heap.push Gp).Ns s.heap.objs.size (λ_=>bb):=⟨Gp,#[],_,f,rfl,(λe h=>absurd h (by simp)),λ_=>rfl⟩;have k:=I.laid (a:=s.heap.objs.size) (o:=.own (s.heap.objs.size+1)) (h':=s.heap.push Gp) (t':=s.toks) (λb u q=>Ac _ q) (Am _) ⟨_,f⟩;refine k.laid (a:=s.heap.objs.size+1) (o:=.ins C s.heap.objs.size []) (t':=s.toks) (λb u q=>Ac _ q) (Nat.le_of_eq (Cb _ _)) ?_;have c:s.heap.objs.size≠s.heap.objs.size+1:=Ap (Gc _);refine⟨by rw[cL c,cM],Bz _,c,j,λ_=>bb,(Px i).at λo q=>Ac _ q,λ_=>True.intro,λy g=>absurd rfl g⟩
def MY{prog:Ao}{w:Uw}{env:Env}{e:Uv}{f:Uq}{pos:Pos}{s:Ad}{Q:Uo->Ad->Prop}(b:Ca e f env (eval e env)=eval e env)(h:Ut (Uu prog w) A (eval e env) (λo a=>Ut (Uu prog w) A (Th o f bc) Q E a) E s):Ut (Uu prog w) A (eval (.Attribute e f pos) env) Q E s:=
 Attribute_any_ h (by rw[arm_eval_Attribute,b])
end
section
variable{X:Cx}{aa:List (Up×Vc)}{σ:St}{H:Hp}{s:Ad}{A:Bp}{E:Uo->Ad->Prop}{Q:Uo->Ad->Prop}{c:Uo}{b:Bool}
inductive NA(K:Ag)(H:Hp):V->Uo->Prop where
 |non:NA K H .non (.type "NoneType")
 |bl (x:Bool):NA K H (.bl x) (.type "bool")
 |int (i:Int):NA K H (.int i) (.type "int")
 |str (x:Uq):NA K H (.str x) (.type "str")
 |flt (x:UInt64):NA K H (.flt x) (.type "float")
 |lst {a:Up}{xs:List V}(e:H a=ba (.lst xs)):NA K H (.ref a) (.type "list")
 |frz {a:Up}{o:Vc}{xs:List V}(e:H a=ba (.frz o (.lst xs))):NA K H (.ref a) (.type "list")
 |tup {a:Up}{xs:List V}(e:H a=ba (.tup xs)):NA K H (.ref a) (.type "tuple")
 |dK {a:Up}{kvs:List (Z2×V)}(e:H a=ba (.dK kvs)):NA K H (.ref a) (.type "dict")
 |dT {a:Up}{kvs:List (List Z2×V)}(e:H a=ba (.dT kvs)):NA K H (.ref a) (.type "dict")
 |ins {a C dx:Up}{fs:List (Uq×V)}(e:H a=ba (.ins C dx fs)) (cl:Cls K C) (ha:Ha K (.ref C) "__class__"=ba (ba (.builtin "object.__class__")))
   (hn:W.specialIn K (.builtin "object.__class__") "__get__"=ba (ba (.builtin "getset_descriptor.__get__"))) (htk:W.takesIn K (.builtin "object.__class__")=ba bc)
   (hm:W.mroIn K C (.type "object")=ba bc):NA K H (.ref a) (.ref C)
def UR{x:V}{u t:Uo}(I:cI X aa σ H s)(d:b3 x u)(ty:NA X.K H x t)(e:Hb X.K t c=ba b)(h:∀tk,Q (.bool b) {s with toks:=tk}):Ut (Uu X.prog X.w) A (call (.builtin "isinstance") [u,c]) Q E s:=by
 cases ty with
 |non=>cases (show u=Value.none from d);exact Er W.kitx_none I.kIn True.intro e (λz=>nomatch z) h
 |bl y=>cases (show u=Gy y from d);exact Er W.kitx_bool I.kIn True.intro e (λz=>nomatch z) h
 |int i=>obtain⟨t,q⟩:=(show∃t,u=Op i t from d);cases q;exact Er W.kitx_int I.kIn True.intro e (λz=>nomatch z) h
 |str y=>obtain⟨t,q⟩:=(show∃t,u=Oq y t from d);cases q;exact Er W.kitx_str I.kIn True.intro e (λz=>nomatch z) h
 |flt y=>obtain⟨t,q⟩:=(show∃t,u=Ru y t from d);cases q;exact Er W.kitx_float I.kIn True.intro e (λz=>nomatch z) h
 | @lst a k f=>
  cases (show u=An a from d);obtain⟨_,_,n,_,g⟩:=(show a5 X.prog X.w H s.heap a (.lst k) from I.hok a _ f);exact Er Lq I.kIn ⟨_,g,rfl⟩ e (λz=>nomatch z) h
 | @frz a B k f=>
  cases (show u=An a from d);obtain⟨_,_,_,n,_,g⟩:=(show a5 X.prog X.w H s.heap a (.frz B (.lst k)) from I.hok a _ f);exact Er Lq I.kIn ⟨_,g,rfl⟩ e (λz=>nomatch z) h
 | @tup a k f=>
  cases (show u=An a from d);obtain⟨_,_,_,p⟩:=(show a5 X.prog X.w H s.heap a (.tup k) from I.hok a _ f);obtain⟨o,g,l,_⟩:=p;exact Er Qp I.kIn ⟨o,g,l⟩ e (λz=>nomatch z) h
 | @dK a j f=>
  cases (show u=An a from d);obtain⟨_,_,N,_,p⟩:=(show a5 X.prog X.w H s.heap a (.dK j) from I.hok a _ f);obtain⟨o,L,M,g,l,_⟩:=p;exact Er Sc I.kIn ⟨o,g,l.1⟩ e (λz=>nomatch z) h
 | @dT a j f=>
  cases (show u=An a from d);obtain⟨_,_,k,_,o,L,M,g,l,_⟩:=(show a5 X.prog X.w H s.heap a (.dT j) from I.hok a _ f);exact Er Sc I.kIn ⟨o,g,l.1⟩ e (λz=>nomatch z) h
 | @ins a C R fs f v G D m F=>
  cases (show u=An a from d);obtain⟨P,O,_⟩:=HP I.hok f;obtain⟨od,J,_⟩:=O.look;exact Er (W.kitx_own (v.get _) v.hd G D m F) I.kIn J e (λz=>nomatch z) h
end
structure aT(k:Nat)(A:Bp):Prop where
 hd:A.handled=bb
 dp:A.depth+3*k+5<Eu
 un:A.units+16*k+200<cLine
def aT.mono{j k:Nat}{A:Bp}(r:aT k A)(h:j<=k):aT j A:=⟨r.hd,by have:=r.dp;lia,by have:=r.un;lia⟩
def aT.deeper{k:Nat}{A:Bp}(r:aT (k+1) A)(env:Env):aT k (A.deeper env):=
 ⟨r.hd,by have:=r.dp;show A.depth+1+3*k+5<_;lia,by have:=r.un;show A.units+3+16*k+200<_;lia⟩
def DS{A:Bp}{C:Up}{us:List Uo}{a:List (Uq×Uo)}:(A.under (.builtin "type.__call__" ⟨.ref C::us,a⟩)).depth=A.depth+1:=by
 first|rfl|simp[Qq,Code.weight,Code.isCreation,Code.isGuard,Code.isCaller,Code.frames,Qr,guardIds]
def DT{A:Bp}{C:Up}{us:List Uo}{a:List (Uq×Uo)}:(A.under (.builtin "type.__call__" ⟨.ref C::us,a⟩)).units=A.units+1:=by
 first|rfl|simp[Qq,Code.cUnits,Code.frames,Qr]
def aT.make{k:Nat}{A:Bp}(r:aT (k+1) A)(C:Up)(us:List Uo)(a:List (Uq×Uo)):aT k (A.under (.builtin "type.__call__" ⟨.ref C::us,a⟩)):=
 ⟨r.hd,by have:=r.dp;rw[DS];lia,by have:=r.un;rw[DT];lia⟩
def aT.depth{k:Nat}{A:Bp}(r:aT k A):A.depth<Eu:=by have:=r.dp;lia
def aT.units{k:Nat}{A:Bp}(r:aT k A):A.units+64<cLine:=by have:=r.un;lia
def GQ:TA:=λ_ H Q=>Q [] H
def N0(d:TE)(c:TA):TA:=λa H Q=>d a H λx f=>c a f λb e=>Q (x::b) e
section
variable{X:Cx}{e:Uv}{es:List Uv}{te:TE}{t:TA}{pos:Pos}
def ZX:PA X [] GQ:=λ_ _ _ _ H Q I h=>Ix ⟨[],H,I,.nil,h⟩
def bA(j:PE X e te)(i:PA X es t)(hs:Us (e::es) X.env=(be,eval e X.env)::Us es X.env:=by rfl):PA X (e::es) (N0 te t):=by intro pos b s a H Q I h;rw[hs];show Ut _ _ (spliced ((be,eval e X.env)::Co pos (Us es X.env))) _ _ s;refine Gi (aD (j b s a H _ I h) λu d ⟨x,n,l,g,q1⟩=>?_);exact aD (i pos b d a n _ l q1) λo p ⟨c,m,k,f,q2⟩=>⟨x::c,m,k,.cons g f,q2⟩
def tTup(t:TA):TE:=λc H Q=>t c H λa b=>a.length<=sizeLine/\∀p,b p=bb->Q (.ref p) (upd b p (.tup a))
def tLst(t:TA):TE:=λc H Q=>t c H λa b=>a.length<=sizeLine/\∀p,b p=bb->Q (.ref p) (upd b p (.lst a))
def eC{x1}(h:PA X es t):PE X (.Tuple es x1 pos) (tTup t):=by intro l s f H Q I j;refine wpAny_Tuple_spliced (aD (h pos l s f H _ I j) λi a ⟨g,d,c,r,z,q⟩=>⟨by rw[<-r.length];exact z,?_⟩);have k:d a.heap.objs.size=bb:=c.hok.fresh (Am _);refine⟨.ref a.heap.objs.size,upd d a.heap.objs.size (.tup g),c.laid (t':=a.toks) (λb u e=>Ac _ e) (Am _) ?_,rfl,q _ k⟩;exact⟨z,i,r,⟨_,Al _ rfl,rfl,_,rfl⟩⟩
def ID(h:PA X es t):PE X (.List es pos) (tLst t):=by intro l s f H Q I j;refine wpAny_List_spliced (aD (h pos l s f H _ I j) λi a ⟨g,d,c,r,z,q⟩=>⟨by rw[<-r.length];exact z,?_⟩);have k:d a.heap.objs.size=bb:=c.hok.fresh (Am _);refine⟨.ref a.heap.objs.size,upd d a.heap.objs.size (.lst g),c.laid (t':=a.toks) (λb u e=>Ac _ e) (Am _) ?_,rfl,q _ k⟩;exact⟨z,i,0,r,Al _ rfl⟩
end
abbrev Sp:=List V->Hp->VK->XK->Prop
abbrev E8:=List Env->Hp->Ad->XK->Uo->Ad->Prop
structure HA(P:Ao)(w:Uw)(K:Ag)(mg:Uq->Option Uo)(base:Uy)(A:Bp)(outer:List Env)(s:Ad)(H:Hp):Prop where
 frames:A.frames=ba outer
 mod:Mod K mg base
 bs:∀b o,base.get? b=ba o->s.heap.get? b=ba o/\H b=bb
 bsz:base.objs.size<=s.heap.objs.size
 funs:s.heap.FunFrames base outer
 frf:∀b∈TW outer,H b=bb
 hok:T6 P w H s.heap
 bare:Ln s.gens
def CE(outer:List Env)(P:Ao)(w:Uw)(H:Hp)(s:Ad)(Q:VK)(u:Uo)(s':Ad):Prop:=
 ∃v a,s'.os=s.os/\Ln s'.gens/\Un (TW outer) [] H a s.heap s'.heap/\T6 P w a s'.heap/\b3 v u/\Q v a
def CR(CX:E8)(outer:List Env)(P:Ao)(w:Uw)(H:Hp)(s:Ad)(Q:VK)(E:XK)(r:Tx)(s':Ad):Prop:=
 match r with
 |.ok (.ret u)=>CE outer P w H s Q u s'
 |.ok _=>False
 |.error e=>CX outer H s E e s'
structure bZ(P:Ao)(w:Uw)(K:Ag)(mg:Uq->Option Uo)(base:Uy)(CX:E8)(k:Nat)(f:Up)(fd:Bq)(ps:List Uq)(sp:Sp):Prop where
 len:∀vs H Q E,sp vs H Q E->vs.length=ps.length
 run:∀(A:Bp) (outer:List Env) (s:Ad) (H:Hp) (args:Args) (us:List Uo) (vs:List V) (Q:VK) (E:XK),aT k A->HA P w K mg base A outer s H->Oa s fd args (ps.zip us)->bS vs us->sp vs H Q E->
  Gg (Uu P w) A (.call (.ref f) args) (CR CX outer P w H s Q E) s
def HA.make{P:Ao}{w:Uw}{K:Ag}{mg:Uq->Option Uo}{base:Uy}{A:Bp}{outer:List Env}{s:Ad}{H:Hp}(e:HA P w K mg base A outer s H)(C:Up)(us:List Uo)(a:List (Uq×Uo)):HA P w K mg base (A.under (.builtin "type.__call__" ⟨.ref C::us,a⟩)) outer s H:=⟨by first|exact e.frames|(simpa[Qq,Code.envs,Qr,pushEnvs]using e.frames),e.mod,e.bs,e.bsz,e.funs,e.frf,e.hok,e.bare⟩
section
variable{X:Cx}{aa:List (Up×Vc)}{σ:St}{H:Hp}{s s':Ad}
def cI.env0(I:cI X aa σ H s):HA X.prog X.w X.K X.mg X.base X.A X.stack s H:=
 ⟨I.ok.frames,I.ok.mod,I.bs,Dq I.ok.bsz I.sz,I.stack,I.stkFree,I.hok,I.bare⟩
def cI.after{Q:VK}{u:Uo}(I:cI X aa σ H s)(h:CE X.stack X.prog X.w H s Q u s'):EP X aa σ Q u s':=by obtain⟨v,i,os,a,un,e,r,q⟩:=h;obtain⟨f,g,d,t,c⟩:=s';obtain rfl:c=s.os:=os;exact⟨v,i,I.call (h':=f) (g':=g) (d':=d) (t':=t) (ch:=[]) un e a (λb z=>absurd z (by simp)),r,q⟩
end
def GP(sp:Sp)(dvs:List V)(E:XK)(t:TA):TE:=λa H Q=>t a H λb c=>sp (b++dvs) c Q E
def kQ(C:Up)(sp:Sp)(dvs:List V)(E:XK)(t:TA):TE:=λc H Q=>t c H λd b=>∀x a,b x=bb->b a=bb->a≠x->
 sp (.ref x::(d++dvs)) (upd (upd b a (.own x)) x (.ins C a [])) (λv e=>v=.non/\Q (.ref x) e) E
def YZ(K:Ag)(fd:Bq)(ps:List Uq)(ds:List Uo):Prop:=
 ∀(s:Ad) (a:List Uo),K.In s.heap->(a++ds).length=ps.length->Oa s fd ⟨a,[]⟩ (ps.zip (a++ds))
def YZ.all{K:Ag}{fd:Bq}{ps:List Uq}(h:∀us:List Uo,us.length=ps.length->bindArgs fd ⟨us,[]⟩=pure (ps.zip us)):YZ K fd ps []:=λs us _ hl=>by rw[Bi]at hl⊢;exact .of_eq (h us hl)
def LC(CX:E8)(X:Cx)(E:XK):Prop:=∀(c:List (Up×Vc)) (b:St) (H:Hp) (s:Ad) (e:Uo) (a:Ad),cI X c b H s->CX X.stack H s E e a->X.xe e a
section
variable{X:Cx}{CX:E8}{k:Nat}{f C:Up}{fd:Bq}{ps:List Uq}{sp:Sp}{dvs:List V}{ds:List Uo}{E:XK}{x m:Uq}{p pos af:Pos}{e o:Uv}{es:List Uv}{ta:TE}{t:TA}
def EH{c:List (Up×Vc)}{b:St}{H:Hp}{s:Ad}{Q:VK}{us:List Uo}{vs:List V}(F:bZ X.prog X.w X.K X.mg X.base CX k f fd ps sp)(j:aT k X.A)(m:YZ X.K fd ps ds)(l:bS dvs ds)(i:LC CX X E)(I:cI X c b H s)(r:bS vs us)(h:sp (vs++dvs) H Q E):Ut (Uu X.prog X.w) X.A (call (.ref f) us) (EP X c b Q) X.xe s:=by
 have d:bS (vs++dvs) (us++ds):=r.append l;have hl:(us++ds).length=ps.length:=by rw[<-d.length];exact F.len _ _ _ _ h
 refine Ft (Fi (F.run X.A X.stack s H ⟨us,[]⟩ (us++ds) (vs++dvs) Q E j I.env0 (m s us I.kIn hl) d h) λr g a=>?_);cases r with
 |error e=>exact i c b H s e g I a
 |ok n=>
  cases n with
  |ret u=>exact I.after a
  |next=>exact Dr a
  |brk=>exact Dr a
  |cont=>exact Dr a
def dO(F:bZ X.prog X.w X.K X.mg X.base CX k f fd ps sp)(i:aT k X.A)(m:Gl X x)(j:X.mg x=ba (.ref f))(l:Fh X.K (.ref f)=bc)(u:YZ X.K fd ps ds)(o:bS dvs ds)(g:LC CX X E)(v:PA X (e::es) t)(b:(x==("__debug__":Uq))=be:=by decide)(n:Us (e::es) X.env=(be,eval e X.env)::Us es X.env:=by rfl)(a:(Co pos (Us es X.env)).any (·.1)=be:=by rfl):PE X (.Call (.Name x p) (e::es) [] pos) (GP sp dvs E t):=by intro y s d H Q I h;refine Dz (WS I m j ?_ b);refine Ht (h₀:=X.base) I.ok.mod.kin l (aD (v pos y s d H _ I h) λB C ⟨z,D,c,r,q⟩=>⟨c.kIn,?_⟩) n a;exact EH F i u o g c r q
structure Mk(K:Ag)(C f:Up):Prop where
 makes:Oz K C=bc
 init:Ha K (.ref C) "__init__"=ba (ba (.ref f))
 fn:W.isFn K (.ref f)=bc
 kp:Fh K (.ref C)=bc
def lU{g:List (Up×Vc)}{d:St}{H:Hp}{s:Ad}{Q:VK}{us:List Uo}{vs:List V}(M:Mk X.K C f)(F:bZ X.prog X.w X.K X.mg X.base CX k f fd ps sp)(o:aT (k+1) X.A)(q:YZ X.K fd ps ds)(p:bS dvs ds)(n:LC CX X E)(I:cI X g d H s)(r:bS vs us)(h:∀x b,H x=bb->H b=bb->b≠x->sp (.ref x::(vs++dvs)) (upd (upd H b (.own x)) x (.ins C b [])) (λv z=>v=.non/\Q (.ref x) z) E):Ut (Uu X.prog X.w) X.A (call (.ref C) us) (EP X g d Q) X.xe s:=by
 have j:=h (s.heap.objs.size+1) s.heap.objs.size (I.hok.fresh (Gq _)) (I.hok.fresh (Am _)) (Ap (Gc _));have c:=cI.made (C:=C) I;have i:bS (V.ref (s.heap.objs.size+1)::(vs++dvs)) (An (s.heap.objs.size+1)::(us++ds)):=.cons rfl (r.append p);have hl:(An (s.heap.objs.size+1)::us++ds).length=ps.length:=by have e:=i.length;rw[F.len _ _ _ _ j]at e;exact e.symm
 refine Ft (F0 (f:=f) I.kIn M.makes M.init (beq_iff_eq.mp M.fn) (Fi (F.run _ X.stack _ _ ⟨An (s.heap.objs.size+1)::us,[]⟩ (An (s.heap.objs.size+1)::(us++ds)) _ _ E (o.make C us [])
  (c.env0.make C us []) (q _ (An (s.heap.objs.size+1)::us) c.kIn hl) i j) λr l a=>?_))
 cases r with
 |error e=>exact n g d _ _ e l c a
 |ok t=>
  cases t with
  |ret u=>
   obtain⟨v,B,y,m,ev,q3⟩:=c.after a;subst ev;exact⟨m,⟨V.ref (s.heap.objs.size+1),B,y,rfl,q3⟩⟩
  |next=>exact Dr a
  |brk=>exact Dr a
  |cont=>exact Dr a
def mL(M:Mk X.K C f)(F:bZ X.prog X.w X.K X.mg X.base CX k f fd ps sp)(i:aT (k+1) X.A)(l:Gl X x)(j:X.mg x=ba (.ref C))(o:YZ X.K fd ps ds)(n:bS dvs ds)(g:LC CX X E)(u:PA X (e::es) t)(b:(x==("__debug__":Uq))=be:=by decide)(m:Us (e::es) X.env=(be,eval e X.env)::Us es X.env:=by rfl)(a:(Co pos (Us es X.env)).any (·.1)=be:=by rfl):PE X (.Call (.Name x p) (e::es) [] pos) (kQ C sp dvs E t):=by intro v s d H Q I h;refine Dz (WS I l j ?_ b);refine Ht (h₀:=X.base) I.ok.mod.kin M.kp (aD (u pos v s d H _ I h) λz B ⟨y,D,c,r,q⟩=>⟨c.kIn,?_⟩) m a;exact lU M F i o n g c r q
end
def PK(X:Cx)(c:List Gr)(t:TA):Prop:=
 ∀(b:Pos) (d:List (Up×Vc)) (s:Ad) (a:St) (H:Hp) (Q:List V->Hp->Prop),cI X d a H s->t a H Q->Ut (Uu X.prog X.w) X.A (evalAll ((Ej b (Ck c X.env)).map (·.2))) (AP X d a Q) X.xe s
section
variable{X:Cx}{CX:E8}{k:Nat}{f C:Up}{fd:Bq}{ps ks:List Uq}{sp:Sp}{E:XK}{x m:Uq}{p pos af d4:Pos}{e o:Uv}{es:List Uv}{kws:List Gr}{te ta:TE}{t tk:TA}{nm:Option Uq}
def oZ:PK X [] GQ:=λ_ _ _ _ H Q I h=>wpAny_evalAll_nil ⟨[],H,I,.nil,h⟩
def lH(j:PE X e te)(i:PK X kws t):PK X (⟨nm,e,d4⟩::kws) (N0 te t):=by intro pos b s a H Q I h;show Ut _ _ (evalAll ((do let v<-eval e X.env;Gk pos;pure v)::(Ej pos (Ck kws X.env)).map (·.2))) _ _ s;refine wpAny_evalAll_cons (Ab (aD (j b s a H _ I h) λu d ⟨x,n,l,g,q1⟩=>Ab (Ds (Af ?_))));exact aD (i pos b d a n _ l q1) λo p ⟨c,m,k,f,q2⟩=>⟨x::c,m,k,.cons g f,q2⟩
structure DB(K:Ag)(fd:Bq)(ps ks:List Uq)(g:List Uo->List Uo->List Uo)(gV:List V->List V->List V):Prop where
 to:∀(s:Ad) (us ws:List Uo),K.In s.heap->(g us ws).length=ps.length->Oa s fd ⟨us,ks.zip ws⟩ (ps.zip (g us ws))
 rel:∀{vs:List V}{us:List Uo}{zs:List V}{ws:List Uo},bS vs us->bS zs ws->bS (gV vs zs) (g us ws)
variable{g:List Uo->List Uo->List Uo}{gV:List V->List V->List V}
end
structure cO(N P:List Uq)(sc:Vd):Prop where
 kind:sc.kind=.function
 co:sc.isCoroutine=be
 gen:sc.isGenerator=be
 nd:N.Nodup
 pre:N.take P.length=P
 par:∀x∈P,sc.names.lookup x=ba .local∨sc.names.lookup x=ba .cell
 nofree:∀y∈sc.names,y.2≠ .free
section
variable{CX:E8}{P:Ao}{mg:Uq->Option Uo}{base:Uy}{N ps:List Uq}{qual:Uq}{scope:Vd}
theorem JI{kindOf:Uq->Option Vf}{x:Uq}:∀{binds:List (Uq×Uo)}{m:Uq->Option Uo},(∀v,(x,v)∉binds)->bindL kindOf binds m x=m x
 |[],_,_=>rfl
 | (n,v) :: r,m,h => by
  unfold bindL;rw[JI λw hw=>h w (Ay _ hw)];split;have : x ≠ n := by rintro rfl;exact h v Bu
  simp[this];rfl
theorem JG{kindOf:Uq->Option Vf}{x:Uq}:∀{binds:List (Uq×Uo)}{m:Uq->Option Uo},(∀v,(x,v)∉binds)->bindC kindOf binds m x=m x
 |[],_,_=>rfl
 | (n,v) :: r,m,h => by
  unfold bindC;rw[JG λw hw=>h w (Ay _ hw)];split;rfl;have : x ≠ n := by rintro rfl;exact h v Bu
  simp[this]
theorem JH{kindOf:Uq->Option Vf}{x:Uq}{v:Uo}:∀{P:List Uq}{vs:List Uo}{i:Nat}{m:Uq->Option Uo},P.Nodup->P[i]?=ba x->vs[i]?=ba v->kindOf x=ba .local->bindL kindOf (P.zip vs) m x=ba v
 |[],_,_,_,_,h,_,_=>by simp at h
 |_::_,[],_,_,_,_,h,_=>by simp at h
 |p::P,w::vs,0,m,c,b,a,d=>by simp at b a;subst b;subst a;show bindL kindOf ((p,w)::P.zip vs) m p=_;unfold bindL;rw[JI λv e=>(El.mp c).1 (Ii e).1,if_pos d];simp
 |p::P,w::vs,i+1,m,c,b,a,d=>by show bindL kindOf ((p,w)::P.zip vs) m x=_;unfold bindL;exact JH (i:=i) (El.mp c).2 (by simpa using b) (by simpa using a) d
theorem JF{kindOf:Uq->Option Vf}{x:Uq}{v:Uo}:∀{P:List Uq}{vs:List Uo}{i:Nat}{m:Uq->Option Uo},P.Nodup->P[i]?=ba x->vs[i]?=ba v->kindOf x≠ba .local->bindC kindOf (P.zip vs) m x=ba v
 |[],_,_,_,_,h,_,_=>by simp at h
 |_::_,[],_,_,_,_,h,_=>by simp at h
 |p::P,w::vs,0,m,c,b,a,d=>by simp at b a;subst b;subst a;show bindC kindOf ((p,w)::P.zip vs) m p=_;unfold bindC;rw[JG λv e=>(El.mp c).1 (Ii e).1,if_neg d];simp
 |p::P,w::vs,i+1,m,c,b,a,d=>by show bindC kindOf ((p,w)::P.zip vs) m x=_;unfold bindC;exact JF (i:=i) (El.mp c).2 (by simpa using b) (by simpa using a) d
def start(N:List Uq)(vs:List V):St:=vs.map ba++Av (N.length-vs.length) bb
def TU(CX:E8)(P:Ao)(w:Uw)(K:Ag)(mg:Uq->Option Uo)(base:Uy)(N:List Uq)(qual:Uq)(scope:Vd)(f:Up)(b:Uo)(A:Bp)(outer:List Env)(s:Ad)(H:Hp)(E:XK):Cx where
 prog:=P
 w:=w
 K:=K
 mg:=mg
 base:=base
 A:=A.deeper (envOfC qual scope s.heap.objs.size f b)
 N:=N
 s₀:=s
 H₀:=H
 env:=envOfC qual scope s.heap.objs.size f b
 outer:=outer
 stack:=envOfC qual scope s.heap.objs.size f b::outer
 ex:=[]
 calm:=bc
 fn:=λ_=>bc
 pn:=[]
 xe:=λe c=>Ut (Uu P w) (A.deeper (envOfC qual scope s.heap.objs.size f b)) (leaving (envOfC qual scope s.heap.objs.size f b) e) (λ_ a=>CX outer H s E e a) (λd a=>CX outer H s E d a) c
def FJ{a:Vd}{n:Nat}{x:Uq}(h:a.names.lookup x=ba .cell):∃c,(Ve n a.names []).lookup x=ba c:=by have q:=Ma a.names n [] (.inl h);exact Option.isSome_iff_exists.mp q
def JU{w:Uw}{K:Ag}{f:Up}{C:Uo}{A:Bp}{outer:List Env}{s D:Ad}{H:Hp}{E:XK}{us:List Uo}{vs:List V}(S:cO N ps scope)(L:A.handled=bb)(g:HA P w K mg base A outer s H)(hl:vs.length=ps.length)(r:bS vs us)(x:InCallC s s.heap.objs.size (bindL (envOfC qual scope s.heap.objs.size f C).kindOf (ps.zip us) λ_=>bb) (Ve (s.heap.objs.size+1) scope.names []) (bindC (envOfC qual scope s.heap.objs.size f C).kindOf (ps.zip us) λ_=>bb) D):cI (TU CX P w K mg base N qual scope f C A outer s H E) [] (start N vs) H D:=by
 have J:ps.length<=N.length:=by have:=congrArg List.length S.pre;rw[Cc]at this;lia
 obtain⟨B,O,rfl,G⟩:=x.done;have j:∀b:Up,b∉(TU CX P w K mg base N qual scope f C A outer s H E).ex:=λb z=>absurd (show b∈([]:List Up) from z) (by simp);refine⟨⟨g.mod,S.kind,rfl,rfl,Am _,λy z c B d=>?_,λy l=>?_,λy c _ h=>?_,λ_=>L,Around.frames_deeper g.frames,.inr ⟨rfl,rfl⟩,λb z=>absurd z (j b),g.bs,g.bsz,λb _ _=>j b,λb z=>absurd z (j b),g.funs,g.frf⟩,rfl,g.bare,Un.kept G,⟨_,x.toInCall.ns,λi y v B d Q=>?_⟩,λy c h=>⟨_,x.cell y c h⟩,g.hok.fresh (Am _),λy c h=>?_,λp o=>absurd (show p∈([]:List (Up×Vc)) from o) (by simp),g.hok.kept G,?_⟩;exact name_of_addr x.apart (Cr B) (Cr d);have l:scope.names.lookup y=ba .cell∨scope.names.lookup y=ba .free:=l;rcases l with l|l;exact FJ l;exact absurd rfl (S.nofree _ (Cr l));exact Km (x.above y c (Cr h))
 ·have t:i<vs.length:=by
   unfold start at d;by_cases t:i<vs.length;exact t
   ·rw [Dk (by simpa using t)]at d
    rw[Dj]at d;split at d<;>cases d
  have M:vs[i]?=ba v:=by
   unfold start at d;rw[As (by simpa using t),Bo]at d;cases e:vs[i]? with
   |none=>rw[e]at d;cases d
   |some a=>rw[e]at d;cases d;rfl
  obtain⟨u,F,I⟩:=r.get M;have o:ps[i]?=ba y:=by rw[<-S.pre,Db (by lia)];exact B
  have m:ps.Nodup:=by rw[<-S.pre];exact S.nd.sublist (List.take_sublist _ _)
  refine⟨u,I,?_⟩;rcases S.par y (Cn o)with k|k;exact .inl ⟨k,JH m o F k⟩;obtain⟨c,e⟩:=FJ (n:=s.heap.objs.size+1) k;refine .inr ⟨.inl k,c,e,?_⟩;have q:=x.cell y c e;rw[JF m o F (by show scope.names.lookup y≠_;rw[k];decide)]at q;exact q
 exact g.hok.fresh (Km (x.above y c (Cr h)));unfold start;show _=N.length;rw[Be,Bb,Mp];lia
def BO{w:Uw}{K:Ag}{k:Nat}{f:Up}{name:Uq}{c:Arguments}{body:List Vb}{L kV doc G a ct T:Uo}{M od:Option Up}{z:Array (Option Uo)}{sp:Sp}(U:K.lookup f=ba ⟨T,od,.func (Hi name qual c body scope L kV doc G M a ct),z⟩)(D:Kn K a qual=bc)(S:cO N ps scope)(len:∀vs H Q E,sp vs H Q E->vs.length=ps.length)(ai:∀(A:Bp) (outer:List Env) (s:Ad) (H:Hp) (vs:List V) (Q:VK) (E:XK),aT k (A.deeper (envOfC qual scope s.heap.objs.size f a))->sp vs H Q E->∃t,X4 (TU CX P w K mg base N qual scope f a A outer s H E) body t/\t {nx:=λ_ g=>Q .non g,rt:=Q} (start N vs) H):bZ P w K mg base CX (k+1) f (Hi name qual c body scope L kV doc G M a ct) ps sp:=by
 refine⟨len,λA outer s H args R vs Q E C l hb r i=>?_⟩;have hl:=len _ _ _ _ i;have O:K.In s.heap:=l.mod.kin.keeps λb o e=>(l.bs b o e).1;have B:s.heap.NoLimit:=l.mod.nolimit.keeps λb o e=>(l.bs b o e).1;have f8:∀y∈ps.zip R,scope.names.lookup y.1=ba .local∨(scope.names.lookup y.1=ba .cell/\((Ve (s.heap.objs.size+1) scope.names []).lookup y.1).isSome=bc):=λ⟨n,v⟩ X=>by
  rcases S.par n (Ii X).1 with q|q;exact .inl q;exact .inr ⟨q,Ma _ _ _ (.inl q)⟩
 refine Jg C.depth (O _ _ U) rfl S.co S.gen rfl (W.codeRec_of O D) (hb _ _ _ _ ?_);refine Hj S.kind f8 λenv he F x=>?_;subst he;refine⟨B.keeps x.toInCall.keep,Qs ?_⟩;obtain⟨t,Y,Z⟩:=ai A outer s H vs Q E (C.deeper _) i;have I:cI (TU CX P w K mg base N qual scope f a A outer s H E) [] (start N vs) H F:=JU S C.hd l hl r x;refine Aw (Y [] F (start N vs) H _ I Z) (λfl m h=>?_) λe m h=>h;have j:∀{d:St}{g:Hp}{v:V}{u:Uo},cI (TU CX P w K mg base N qual scope f a A outer s H E) [] d g m->b3 v u->Q v g->CE outer P w H s Q u m:=
  λ{d g v u} J p q=>⟨v,g,J.os,J.bare,J.base,J.hok,p,q⟩
 cases fl with
 |ret u=>
  obtain⟨v,d,g,J,p,q⟩:=h;exact j J p q
 |next=>
  obtain⟨d,g,J,q⟩:=h;exact j (v:=V.non) (u:=Value.none) J rfl q
 |brk=>
  obtain⟨_,_,_,q⟩:=h;exact Dr q
 |cont=>
  obtain⟨_,_,_,q⟩:=h;exact Dr q
end
section
variable{X:Cx}{x:Uq}{p pos:Pos}{e:Uv}{es:List Uv}{t:TA}{id T:String}{r:List V->Hp->VK->Prop}
def tCB(r:List V->Hp->VK->Prop)(t:TA):TE:=λa H Q=>t a H λb c=>r b c Q
def UU(hc:aV X (.builtin id) r)(n:Gl X x)(m:X.mg x=bb)(k:Bm x=ba (.builtin id))(q:PA X (e::es) t)(l:x≠ "__name__":=by decide)(b:(x==("__debug__":Uq))=be:=by decide)(o:Us (e::es) X.env=(be,eval e X.env)::Us es X.env:=by rfl)(a:(Co pos (Us es X.env)).any (·.1)=be:=by rfl):PE X (.Call (.Name x p) (e::es) [] pos) (tCB r t):=by intro d s c H Q I h;refine Dz (OL I n m k ?_ l b);exact PyProof.Rows.callWith_builtin1 (aD (q pos d s c H _ I h) λg i ⟨f,v,u,j,q1⟩=>hc d i c v f g Q u j q1) o a
def OS(hc:aV X (.type T) r)(n:Gl X x)(m:X.mg x=bb)(k:Bm x=ba (.type T))(q:PA X (e::es) t)(l:x≠ "__name__":=by decide)(b:(x==("__debug__":Uq))=be:=by decide)(o:Us (e::es) X.env=(be,eval e X.env)::Us es X.env:=by rfl)(a:(Co pos (Us es X.env)).any (·.1)=be:=by rfl):PE X (.Call (.Name x p) (e::es) [] pos) (tCB r t):=by intro d s c H Q I h;refine Dz (OL I n m k ?_ l b);exact Fa (aD (q pos d s c H _ I h) λg i ⟨f,v,u,j,q1⟩=>hc d i c v f g Q u j q1) o a
end
end L2
namespace HT
open PySem PyProof.Rows
section
variable{prog:Ao}{w:Uw}{A:Bp}{E:Uo->Ad->Prop}{s:Ad}
def zH6{t b:Up}{vs a:List Uo}{Q:Uo->Ad->Prop}(r:IsTup s.heap t vs.toArray)(u:IsTup s.heap b a.toArray)(m:vs≠[])(x:a=[]->Q (.ref t) s)(v:a≠[]->Q (.ref s.heap.objs.size) {s with heap:=s.heap.push {cls:=.type "tuple",data:=.seq (vs++a).toArray}})(hsz:vs.length+a.length<=sizeLine):Ut (Uu prog w) A (Fg .Add (.ref t) (.ref b)) Q E s:=by
 obtain⟨⟨j,q,data,k⟩,i,hc,n,p⟩:=id r;obtain⟨⟨y,h,data2,d⟩,c,g,l,f⟩:=id u;simp only at hc p g f;subst hc p g f;have e:vs.toArray++a.toArray=(vs++a).toArray:=by simp
 by_cases hw:a=[];exact Mq ⟨_,i,rfl⟩ ⟨_,c,rfl⟩ Mb Pa Iu Ij (Hu _ _)
  (tuple_addW1 t b vs.toArray a.toArray n l q h k d (by simpa using m) (by simp[hw])) ⟨i,c,x hw⟩
 refine Mq ⟨_,i,rfl⟩ ⟨_,c,rfl⟩ Mb Pa Iu Ij (Hu _ _)
  (tuple_addW2 t b vs.toArray a.toArray n l q h k d (by simpa using m) (by simpa using hw) (by rw[Ak,Ak];exact hsz)) ⟨i,c,?_⟩
 rw[e];exact v hw
def sIx(n d:Nat):Option Int->Nat
 |none=>d
 |some v=>if v<0 then(v+(n:Int)).toNat else min v.toNat n
def jY(n d:Nat)(b:d<=n)(o:Option Int):sIx n d o<=n:=by
 cases o with
 |none=>exact b
 |some v=>
  show(if v<0 then(v+(n:Int)).toNat else min v.toNat n)<=n;by_cases a:v<0;rw[if_pos a];lia;rw[if_neg a];exact Nat.min_le_right _ _
def BK(v:Int)(n d:Nat):(if v<0 then max (v+(n:Int)) 0 else min v (n:Int))=((sIx n d (ba v):Nat):Int):=by
 show(if v<0 then max (v+(n:Int)) 0 else min v (n:Int))=(((if v<0 then(v+(n:Int)).toNat else min v.toNat n):Nat):Int);by_cases a:v<0;simp only[if_pos a];lia;simp only[if_neg a];lia
def DD(lo a:Option Int)(n:Nat):Hn lo a 1 (n:Int)=(((sIx n 0 lo:Nat):Int),((sIx n n a:Nat):Int)):=by
 have b:¬((1:Int)<0):=by lia
 unfold Hn;simp only[b,if_false];refine Prod.ext ?_ ?_;cases lo with
 |none=>rfl
 |some v=>exact BK v n 0
 cases a with
 |none=>rfl
 |some v=>exact BK v n n
def EA(i j:Nat):Fm (i:Int) (j:Int) 1=j-i:=by
 unfold Fm;have a:(1:Int)>0:=by lia
 simp only[a,if_true,Int.ediv_one];split<;>lia
def MQ{v:Uo}{o:Option Int}{Q:Option Int->Ad->Prop}(p:IsPart v o)(h:Q o s):Ut (Uu prog w) A (Rq v) Q E s:=by
 cases p with
 |none=>exact slicePart_none h
 |int i t=>exact slicePart_int h
def U0{f:Up}{e d:Uo}{lo b:Option Int}{n:Nat}{Q:Int×Int×Nat->Ad->Prop}(hs:s.heap.IsSliceOf f e d .none)(pl:IsPart e lo)(pu:IsPart d b)(h:Q (((sIx n 0 lo:Nat):Int),1,sIx n n b-sIx n 0 lo) s):Ut (Uu prog w) A (Ki (.ref f) (pure (n:Int))) Q E s:=by obtain⟨os,a,g,c⟩:=id hs;unfold Ki Sq;refine Ab (Ab (Ea a c (x:=e) rfl (Ab (Ea a c (x:=d) rfl (Ab (Ea a c (x:=.none) rfl (Af ?_)))))));refine Ab (slicePart_none ?_);show Ut _ _ (if((1:Int)==0)=bc then _ else _) _ _ s;rw[if_neg (by decide)];refine Ab (MQ pl (Ab (MQ pu (Ab (Af ?_)))));show Ut _ _ (match Hn lo b 1 (n:Int)with|(lo,b)=>pure (lo,(1:Int),Fm lo b 1)) _ _ s;rw[DD lo b n];show Ut _ _ (pure (((sIx n 0 lo:Nat):Int),(1:Int),Fm ((sIx n 0 lo:Nat):Int) ((sIx n n b:Nat):Int) 1)) _ _ s;rw[EA];exact Af h
def jZ(xs:Array Uo)(i k:Nat):((At k).filterMap λ(m:Nat)=>xs[((i:Int)+(m:Int)*1).toNat]?).toArray=((xs.toList.drop i).take k).toArray:=by
 have e:(λ(m:Nat)=>xs[((i:Int)+(m:Int)*1).toNat]?)=λm=>xs[i+m]? :=by
  funext m;have:((i:Int)+(m:Int)*1).toNat=i+m:=by lia
  rw[this]
 rw[e];have:=pick_run xs i k;rw[List.filterMap_map]at this;have a:((λx=>xs[x]?)∘λx=>i+x)=λm=>xs[i+m]? :=rfl;rw[a]at this;rw[this]
def P0{t d:Up}{items:Array Uo}{k j:Uo}{lo a:Option Int}{Q:Uo->Ad->Prop}(c:IsTup s.heap t items)(hs:s.heap.IsSliceOf d k j .none)(pl:IsPart k lo)(pu:IsPart j a)(hw:¬(sIx items.size 0 lo=0/\sIx items.size items.size a=items.size))(h:Q (.ref s.heap.objs.size) {s with heap:=s.heap.push {cls:=.type "tuple",data:=.seq ((items.toList.drop (sIx items.size 0 lo)).take (sIx items.size items.size a-sIx items.size 0 lo)).toArray}})(hsz:items.size<=sizeLine):Ut (Uu prog w) A (Lr (.ref t) (.ref d)) Q E s:=by
 have b:sizeOk (.seq ((items.toList.drop (sIx items.size 0 lo)).take (sIx items.size items.size a-sIx items.size 0 lo)).toArray):=by show((items.toList.drop (sIx items.size 0 lo)).take (sIx items.size items.size a-sIx items.size 0 lo)).toArray.size<=sizeLine;rw[Ak,Cc,Qy,Df];lia
 have o:sIx items.size items.size a<=items.size:=jY _ _ (Am _) a;obtain⟨os,e,g,n⟩:=id hs;have i:s.TypeIs (.ref d) "slice":=⟨os,e,g⟩;unfold Lr;try with_reducible refine Bf ?_
 first|refine Ab (Af ?_)|skip
 refine Ab (Lc c.typeIs (by decide) ?_);refine Ab (Ci (name:=Ef "__getitem__") c.typeIs Ei
  (Cf Ei c.typeIs entry_tuple_getitem ?_ (args_tuple_getitem _ _)))
 show Ut _ _ (Kj (.ref t)>>=_) _ _ s;refine Ab (tupleItemsOf_ c ?_);refine Ab (Mr i ?_);rw[if_pos (by decide)];refine Ab (U0 hs pl pu ?_);have f:¬((((sIx items.size 0 lo:Nat):Int)==0&&(1:Int)==1&&(sIx items.size items.size a-sIx items.size 0 lo)==items.size)=bc):=by intro q;rw[Ae,Ae]at q;have q1:((sIx items.size 0 lo:Nat):Int)=0:=eq_of_beq q.1.1;have q2:sIx items.size items.size a-sIx items.size 0 lo=items.size:=eq_of_beq q.2;exact hw ⟨by lia,by lia⟩
 show Ut _ _ (if(((sIx items.size 0 lo:Nat):Int)==0&&(1:Int)==1&&(sIx items.size items.size a-sIx items.size 0 lo)==items.size)=bc then _ else _) _ _ s;rw[if_neg f,jZ]
 first
  |exact Ab (m:=Fu _) (Bv (Af ⟨_,rfl,Af h⟩) b)
  |exact Ab (m:=Fu _) (Bv (Ab (Af (Af ⟨_,rfl,Af h⟩))) b)
  |exact Ab (Ab (m:=Fu _) (Bv (Af (Af ⟨_,rfl,Af h⟩)) b))
  |exact Ab (Ab (m:=Fu _) (Bv (Af ⟨_,rfl,Af h⟩) b))
end
end HT
namespace L2
open PySem PySem.Spec PyProof.Rows
abbrev TO:=St->Hp->(Option Int->Hp->Prop)->Prop
def PO(X:Cx)(e:Option Uv)(t:TO):Prop:=
 ∀(b:List (Up×Vc)) (s:Ad) (a:St) (H:Hp) (Q:Option Int->Hp->Prop),cI X b a H s->t a H Q->
  Ut (Uu X.prog X.w) X.A (evalPart e X.env) (λu d=>∃o c,cI X b a c d/\IsPart u o/\Q o c) X.xe s
def nM:TO:=λ_ H Q=>Q bb H
def jA(t:TE):TO:=λa H Q=>t a H λx b=>∃i,x=.int i/\Q (ba i) b
def LZ{ns:List Int}:∀{us:List Uo},bS (ns.map V.int) us->Ik us ns:=by
 induction ns with
 |nil=>intro us r;rw[Qt]at r;cases r;exact .nil
 |cons n ns c=>
  intro us r;rw[Ch]at r;cases r with
  |cons b a=>
   obtain⟨t,e⟩:=b;subst e;exact .cons n t (c a)
section
variable{X:Cx}{e:Uv}{te:TE}{lo hi:Option Uv}{tl th:TO}{pos p2:Pos}
def zFL:PO X bb nM:=by intro b s a H Q I h;rw[evalPart_none];exact Af ⟨bb,H,I,.none,h⟩
def rN(h:PE X e te):PO X (ba e) (jA te):=by intro c s a H Q I hw;rw[evalPart_some];refine aD (h c s a H _ I hw) λu g ⟨x,f,d,b,q1⟩=>?_;obtain⟨i,rfl,q⟩:=q1;obtain⟨t,rfl⟩:=b;exact⟨ba i,f,d,.int i t,q⟩
def SlR(X:Cx)(r:V->Option Int->Option Int->Hp->VK->Prop):Prop:=
 ∀(e:List (Up×Vc)) (s:Ad) (a:St) (H:Hp) (x:V) (v c b:Uo) (lo hi:Option Int) (d:Up) (Q:VK),cI X e a H s->b3 x v->s.heap.IsSliceOf d c b .none->IsPart c lo->IsPart b hi->r x lo hi H Q->
  ∃T id,typeLookup (.type T) "__getitem__"=pure (ba (.builtin id))/\s.TypeIs v T/\Ut (Uu X.prog X.w) X.A (Lr v (.ref d)) (EP X e a Q) X.xe s
def SlR.or{r f:V->Option Int->Option Int->Hp->VK->Prop}(h:SlR X r)(h':SlR X f):SlR X (λx lo hi H Q=>r x lo hi H Q∨f x lo hi H Q):=by
 intro j s a H x v c b lo hi d Q I e i pl g q;rcases q with q|q;exact h j s a H x v c b lo hi d Q I e i pl g q;exact h' j s a H x v c b lo hi d Q I e i pl g q
def tSl(r:V->Option Int->Option Int->Hp->VK->Prop)(te:TE)(tl th:TO):TE:=λa H Q=>te a H λx d=>tl a d λl c=>th a c λu b=>r x l u b Q
def pA{r:V->Option Int->Option Int->Hp->VK->Prop}(y:SlR X r)(B:PE X e te)(hl:PO X lo tl)(p:PO X hi th):PE X (.Subscript e (.Slice lo hi bb p2) pos) (tSl r te tl th):=by intro f s d H Q I h;refine Subscript_ (aD (B f s d H _ I h) λv m ⟨x,K,G,n,q1⟩=>?_);refine wpAny_Slice (aD (hl f m d K _ G q1) λi k ⟨l,J,F,pl,q2⟩=>aD (p f k d J _ F q2) λg a ⟨u,j,E,o,q3⟩=>?_);rw[evalPart_none];refine Af ?_;have D:cI X f d j {a with heap:=a.heap.push {cls:=.type "slice",data:=.fields #[i,g,.none]}}:=E.kept (t':=a.toks) λb L q=>Ac _ q;obtain⟨T,id,C,t,z⟩:=y f {a with heap:=a.heap.push {cls:=.type "slice",data:=.fields #[i,g,.none]}} d j x v i g l u a.heap.objs.size Q D n (Uk ..) pl o q3;show Ut (Uu X.prog X.w) X.A (subscriptTail e (.Slice lo hi bb p2) v (.ref a.heap.objs.size)) (EP X f d Q) X.xe {a with heap:=a.heap.push {cls:=.type "slice",data:=.fields #[i,g,.none]}};exact Tk (ops:=[.ref a.heap.objs.size,v]) t C z (by with_unfolding_all rfl)
def FM(xs:List V)(lo hi:Option Int):List V:=(xs.drop (HT.sIx xs.length 0 lo)).take (HT.sIx xs.length xs.length hi-HT.sIx xs.length 0 lo)
def NM(xs:List V)(lo hi:Option Int):(FM xs lo hi).length<=xs.length:=by unfold FM;rw[Cc,Qy];lia
def rSlT(K:Ag):V->Option Int->Option Int->Hp->VK->Prop:=λx lo hi H Q=>∃a b,x=.ref a/\UN K H a b∧
 ¬(HT.sIx b.length 0 lo=0/\HT.sIx b.length b.length hi=b.length)/\∀p,H p=bb->Q (.ref p) (upd H p (.tup (FM b lo hi)))
def zIV:SlR X (rSlT X.K):=by
 intro w s m H x v p n lo hi t Q I i l pl j h;obtain⟨a,c,rfl,k,hw,q⟩:=h;cases i;obtain⟨d,r,g,f⟩:=I.tuple k;have e:d.toArray.size=c.length:=by rw[Ak];exact r.length.symm
 refine⟨"tuple",_,PyProof.Rows.slot_tuple_getitem.lookup,g.typeIs,?_⟩;refine HT.P0 g l pl j (by rw[e];exact hw) ?_ (by rw[e];exact f);rw[e];refine⟨.ref s.heap.objs.size,_,I.laid (t':=s.toks) (o:=.tup (FM c lo hi)) (λb u q=>Ac _ q) (Am _) ?_,rfl,q _ (I.hok.fresh (Am _))⟩;exact⟨Dq (NM c lo hi) f,_,(r.drop (HT.sIx c.length 0 lo)).take (HT.sIx c.length c.length hi-HT.sIx c.length 0 lo),Ov _ _⟩
def bS.nil_iff{xs:List V}{us:List Uo}(r:bS xs us):us=[]↔xs=[]:=by
 cases r with
 |nil=>simp
 |cons _ _=>simp
end
def ixN(n:Nat)(i:Int):Option Nat:=if 0<=i then(if i<n then ba i.toNat else bb)else if -(n:Int)<=i then ba (i+n).toNat else bb
def G8{a:Type}(xs:List a)(i:Int):Option a:=(ixN xs.length i).bind λj=>xs[j]?
def eV{n:Nat}{i:Int}{j:Nat}(h:ixN n i=ba j):seqIndex? i n=ba j/\j<n/\ -(n:Int)<=i/\i<n:=by
 unfold ixN at h;by_cases b:0<=i;rw[if_pos b]at h;by_cases a:i<n;rw[if_pos a]at h;have e:i.toNat=j:=Cg h;exact⟨by rw[seqIndex_of b a,e],by lia,by lia,a⟩;rw[if_neg a]at h;cases h;rw[if_neg b]at h;by_cases a: -(n:Int)<=i;rw[if_pos a]at h;have e:(i+n).toNat=j:=Cg h;exact⟨by rw[seqIndex_neg (by lia) a,e],by lia,a,by lia⟩;rw[if_neg a]at h;cases h
def HD{a:Type}{xs:List a}{i:Int}{v:a}(h:G8 xs i=ba v):∃j,seqIndex? i xs.length=ba j/\xs[j]?=ba v/\j<xs.length/\ -(xs.length:Int)<=i/\i<xs.length:=by
 unfold G8 at h;cases e:ixN xs.length i with
 |none=>rw[e]at h;cases h
 |some j=>
  rw[e]at h;obtain⟨f,d,c,b⟩:=eV e;exact⟨j,f,h,d,c,b⟩
def PB(b:Uv):Prop:=∀o i,subscripted b be o i=operate [o,i] (Lr o i)
def IxR(X:Cx)(r:R2):Prop:=
 ∀(value a:Uv) (c:List (Up×Vc)) (s:Ad) (b:St) (H:Hp) (x y:V) (v u:Uo) (Q:VK),cI X c b H s->b3 x v->b3 y u->r x y H Q->
  subscripted a be v u=operate [v,u] (Lr v u)->Ut (Uu X.prog X.w) X.A (subscriptTail value a v u) (EP X c b Q) X.xe s
def MtR(X:Cx)(id:String)(r:V->List V->Hp->VK->Prop):Prop:=
 ∀(d:List (Up×Vc)) (s:Ad) (a:St) (H:Hp) (x:V) (b:List V) (v:Uo) (c:List Uo) (Q:VK),cI X d a H s->b3 x v->bS b c->r x b H Q->
  Ut (Uu X.prog X.w) X.A (call (.builtin id) (v::c)) (EP X d a Q) X.xe s
section
variable{X:Cx}{a b:Uv}{ta tb:TE}{pos:Pos}
def IxR.or{r e:R2}(h:IxR X r)(h':IxR X e):IxR X (λx y H Q=>r x y H Q∨e x y H Q):=by
 intro value a g s b H x y v u Q I d c q f;rcases q with q|q;exact h value a g s b H x y v u Q I d c q f;exact h' value a g s b H x y v u Q I d c q f
def Xq{r:R2}(g:IxR X r)(j:PE X a ta)(i:PE X b tb)(hs:PB b):PE X (.Subscript a b pos) (tOp r ta tb):=by intro k s c H Q I h;exact Subscript_ (binT j i I h λv u d x y m l f e q=>g a b k d c m x y v u Q l f e q (hs _ _))
def rIxL(K:Ag):R2:=λx y H Q=>∃p a i v,x=.ref p/\y=.int i/\W8 K H p a/\G8 a i=ba v/\Q v H
def rIxT(K:Ag):R2:=λx y H Q=>∃p a i v,x=.ref p/\y=.int i/\UN K H p a/\G8 a i=ba v/\Q v H
def rIxS:R2:=λx y H Q=>∃z i c,x=.str z/\y=.int i/\z.length<=sizeLine/\G8 z.cps.toList i=ba c/\Q (.str ⟨#[c]⟩) H
def zGT:IxR X (rIxL X.K):=by
 intro value c n s g H x y v u Q I B A h k;obtain⟨p,J,i,z,rfl,rfl,C,D,q⟩:=h;cases B;obtain⟨t,rfl⟩:=A;obtain⟨e,r,pl,L⟩:=I.list C;obtain⟨j,b,G,N,F,E⟩:=HD D;obtain⟨w,m,d⟩:=r.get G;have hl:=r.length;have M:=OM;have a:EP X n g Q w s:=⟨z,H,I,d,q⟩;by_cases l:0<=i;have f:i.toNat=j:=by rw[seqIndex_of l E]at b;exact Cg b
 exact item_listR pl.isList l (by lia) (by rw[f];simpa using m) a k
 ·have f:(i+(e.toArray.size:Int)).toNat=j:=by rw[seqIndex_neg (by lia) F]at b;rw[Ak,<- hl];exact Cg b
  exact Mg (x:=w) pl.isList.typeIs slot_list_getitem.lookup
   (wpAny_getItem_list_neg (Q:=λr o=>r=w/\EP X n g Q r o) pl.isList (by lia) (by rw[Ak]<;>lia) (by lia) (by rw[f];simpa using m) ⟨rfl,a⟩) k
def zLY:IxR X (rIxT X.K):=by
 intro value a e s d H x y v u Q I k g h m;obtain⟨p,D,i,z,rfl,rfl,n,o,q⟩:=h;cases k;obtain⟨t,rfl⟩:=g;obtain⟨l,r,pl,E⟩:=I.tuple n;obtain⟨j,B,A,L,J,G⟩:=HD o;obtain⟨w,C,b⟩:=r.get A;have hl:=r.length;have F:=OM;have c:EP X e d Q w s:=⟨z,H,I,b,q⟩;exact Mg (x:=w) pl.typeIs slot_tuple_getitem.lookup
  (getItem_tuple (j:=j) (Q:=λr f=>r=w/\EP X e d Q r f) pl (by lia) (by lia) (by rw[Ak,<-hl];exact B) (by simpa using C) ⟨rfl,c⟩) m
def dU:IxR X rIxS:=by
 intro value a C s p H x y v u Q I e d h f;obtain⟨z,i,c,rfl,rfl,w,g,q⟩:=h;obtain⟨t,rfl⟩:=e;obtain⟨r,rfl⟩:=d;obtain⟨j,b,m,B,l,k⟩:=HD g;have hl:z.cps.toList.length=z.length:=by simp[Str.length]
 rw[hl]at b l k;have A:=OM;exact Tk (typeIs_str s z t) slot_str_getitem.lookup (getItem_str (c:=c) (by have o:decide (i< -(2 ^ 63:Int))=be:=decide_eq_false (by lia);have n:decide (i≥2 ^ 63)=be:=decide_eq_false (by lia);rw[o,n,Tl]) (by rw[b];simpa using m) ⟨.str ⟨#[c]⟩,H,I.tok _,⟨_,rfl⟩,q⟩) f
def rIx(K:Ag):R2:=λx y H Q=>rIxL K x y H Q∨rIxT K x y H Q∨rIxS x y H Q
def zM0:IxR X (rIx X.K):=zGT.or (zLY.or dU)
def IP(lo a:Option Int)(n:Nat):(Iy lo a bb n).1=((HT.sIx n 0 lo:Nat):Int)/\(Iy lo a bb n).2.1=((HT.sIx n n a:Nat):Int)/\(Iy lo a bb n).2.2=1:=by
 refine⟨?_,?_,rfl⟩
 ·cases lo with
  |none=>simp[Iy,HT.sIx]
  |some i=>
   simp only[Iy,HT.sIx,Qz,show(1:Int)>0 by decide,if_true];by_cases h:i<0
   ·simp only[h,if_true]<;>lia
   ·simp only[h,if_false]<;>lia
 ·cases a with
  |none=>simp[Iy,HT.sIx]
  |some i=>
   simp only[Iy,HT.sIx,Qz,show(1:Int)>0 by decide,if_true];by_cases h:i<0
   ·simp only[h,if_true]<;>lia
   ·simp only[h,if_false]<;>lia
def K5(a:List Uo)(lo b:Option Int):slicePick a.toArray lo b bb=((a.drop (HT.sIx a.length 0 lo)).take (HT.sIx a.length a.length b-HT.sIx a.length 0 lo)).toArray:=by obtain⟨e,d,c⟩:=IP lo b a.toArray.size;unfold slicePick;rw[e,d,c];simp only[sliceRange_one,pick_run,Ak]<;>rfl
def rSlL(K:Ag):V->Option Int->Option Int->Hp->VK->Prop:=λx lo c H Q=>∃a b,x=.ref a/\W8 K H a b/\∀p,H p=bb->Q (.ref p) (upd H p (.lst (FM b lo c)))
def oO:SlR X (rSlL X.K):=by intro y s n H x v t p lo d u Q I f l pl g h;obtain⟨a,c,rfl,k,q⟩:=h;cases f;obtain⟨i,r,e,j⟩:=I.list k;have m:=r.length;refine⟨"list",_,slot_list_getitem.lookup,e.isList.typeIs,?_⟩;refine wpAny_getItem_list_slice e.isList l pl g .none (by simp) ?_ (by rw[Ak]<;>lia);rw[K5,<-m];refine⟨.ref s.heap.objs.size,_,I.laid (t':=s.toks) (o:=.lst (FM c lo d)) (λb w q=>Ac _ q) (Am _) ?_,rfl,q _ (I.hok.fresh (Am _))⟩;exact⟨Dq (NM c lo d) j,_,0,(r.drop (HT.sIx c.length 0 lo)).take (HT.sIx c.length c.length d-HT.sIx c.length 0 lo),Al _ rfl⟩
def HH:aV X (.builtin "len") (λe H Q=>∃p ys,e=[.ref p]/\(W8 X.K H p ys∨UN X.K H p ys)/\Q (.int ys.length) H):=by
 intro l s i H e j Q I r h;obtain⟨p,ys,rfl,a,q⟩:=h;obtain⟨u,rfl,f⟩:=U2 r;cases f;have k:=OM;rcases a with a|a
 ·obtain⟨c,b,pl,g⟩:=I.list a
  have d:=b.length;exact Ob pl.isList (by simp only[Ak]<;>lia) ⟨.int ys.length,H,I.tok _,⟨s.toks+1,by rw[Ak,d]⟩,q⟩
 ·obtain⟨c,b,pl,g⟩:=I.tuple a
  have d:=b.length;exact len_tuple pl (by simp only[Ak]<;>lia) ⟨.int ys.length,H,I.tok _,⟨s.toks+1,by rw[Ak,d]⟩,q⟩
def HI:aV X (.builtin "len") (λa H Q=>∃z,a=[.str z]/\z.length<=sizeLine/\Q (.int z.length) H):=by intro f s b H a c Q I r h;obtain⟨z,rfl,d,q⟩:=h;obtain⟨u,rfl,t,rfl⟩:=U2 r;have e:=OM;exact len_str (by lia) ⟨.int z.length,H,I.tok _,⟨_,rfl⟩,q⟩
def aV.or{f:Uo}{r e:List V->Hp->VK->Prop}(h:aV X f r)(h':aV X f e):aV X f (λa H Q=>r a H Q∨e a H Q):=by
 intro g s b H a c Q I d q;rcases q with q|q;exact h g s b H a c Q I d q;exact h' g s b H a c Q I d q
def HJ:aV X (.type "list") (λv H Q=>∃p ys,v=[.ref p]/\(W8 X.K H p ys∨UN X.K H p ys)/\∀l,H l=bb->Q (.ref l) (upd H l (.lst ys))):=by
 intro C s z H v D Q I r h;obtain⟨p,ys,rfl,j,q⟩:=h;obtain⟨u,rfl,A⟩:=U2 r;cases A;have k:∀(a:List Uo),bS ys a->ys.length<=sizeLine->∀(c:Uy) (f:Nat),(∀b x,s.heap.get? b=ba x->c.get? b=ba x)->
   c.get? s.heap.objs.size=ba {cls:=.type "list",dict:=bb,data:=.seq a.toArray f,slots:= #[]}->EP X C z Q (.ref s.heap.objs.size) {s with heap:=c}:=λa d i c f g e=>
  ⟨.ref s.heap.objs.size,_,I.laid (t':=s.toks) g (Am _) (show a5 X.prog X.w _ c _ (.lst ys) from⟨i,a,f,d,e⟩),rfl,q _ (I.hok.fresh (Am _))⟩
 rcases j with j|j
 ·obtain⟨a,d,pl,i⟩:=I.list j
  have B:=d.length;obtain⟨o,m,hc,n,t⟩:=pl.isList;exact call_list_seq p (.inl rfl) m hc t (λc f g e=>k a d i c f g e) (by simp only[Ak]<;>lia)
 ·obtain⟨a,d,pl,i⟩:=I.tuple j
  have B:=d.length;obtain⟨o,m,hc,n,t⟩:=pl;exact call_list_seq p (.inr rfl) m hc t (λc f g e=>k a d i c f g e) (by simp only[Ak]<;>lia)
def tyV(K:Ag)(T:String)(x:V)(H:Hp):Prop:=match x with
 |.str _=>T= "str"
 |.int _=>T= "int"
 | .ref p => (T = "list" /\ ∃ b,W8 K H p b) ∨ (T = "tuple" /\ ∃ o,K.lookup p = ba o /\ o.cls = .type "tuple" /\ o.dict = bb) ∨
   (T= "dict" /\((∃a,H p=ba (.dK a))∨∃a,H p=ba (.dT a)))∨(T= "set" /\∃S n,H p=ba (.set S n))
 |_=>False
def uo{m:List (Up×Vc)}{j:St}{H:Hp}{s:Ad}{T:String}{x:V}{v:Uo}(I:cI X m j H s)(r:b3 x v)(ty:tyV X.K T x H):s.TypeIs v T/\∀a,v=.ref a->∃ob,s.heap.get? a=ba ob/\ob.dict=bb:=by
 cases x with
 |str z=>
  obtain⟨t,rfl⟩:=r;cases (show T= "str" from ty);exact⟨typeIs_str s z t,λ_ e=>nomatch e⟩
 |int i=>
  obtain⟨t,rfl⟩:=r;cases (show T= "int" from ty);exact⟨Nf s i t,λ_ e=>nomatch e⟩
 |ref p=>
  cases r;rcases ty with⟨rfl,q,l⟩|⟨rfl,o,b,hc,g⟩|⟨rfl,b⟩|⟨rfl,S,n,b⟩
  obtain⟨k,_,pl,_⟩:=I.list l;refine⟨pl.isList.typeIs,λa e=>?_⟩;cases e;obtain⟨o,n,e,c,g,_⟩:=pl;exact⟨o,e,g⟩;refine ⟨⟨o,I.kIn p o b,hc⟩,λa e => ?_⟩;cases e;exact⟨o,I.kIn _ o b,g⟩;have z: ∃o,s.heap.get? p=ba o/\o.ExactDict:=by
   rcases b with⟨f,b⟩|⟨f,b⟩;obtain⟨_,_,_,_,o,_,_,e,d,_⟩:=I.hok p _ b;exact⟨o,e,d⟩;obtain⟨_,_,_,_,o,_,_,e,d,_⟩:=I.hok p _ b;exact⟨o,e,d⟩
  obtain⟨o,e,d⟩:=z;refine⟨⟨o,e,d.1⟩,λa h=>?_⟩;cases h;exact⟨o,e,d.2.1⟩;obtain⟨o,_,_,_,e,d,_⟩:=I.hok p _ b;refine⟨⟨o,e,d.1⟩,λa h=>?_⟩;cases h;exact⟨o,e,d.2.1⟩
 |_=>exact Dr ty
def tBM(K:Ag)(T:String)(r:V->List V->Hp->VK->Prop)(to:TE)(t:TA):TE:=λa H Q=>to a H λx b=>tyV K T x b/\t a b λc d=>r x c d Q
variable{o e:Uv}{es:List Uv}{to:TE}{t:TA}{name:Uq}{af ae:Pos}{T id:String}{r:V->List V->Hp->VK->Prop}
def Zk(n:PlainAttrs T)(slot:Slot T name id)(b:Nt (.builtin id)=pure (.type "method_descriptor"))(q:MtR X id r)(p:PE X o to)(u:PA X (e::es) t)(A:Ca o name X.env (eval o X.env)=eval o X.env:=by rfl)(z:((Co ae (Us (e::es) X.env)).all (λx=> !x.1)&&(Ej ae (Ck [] X.env)).all (λx=>x.1.isSome)&&decide ((e::es).length+([]:List Gr).length+(if([]:List Gr).isEmpty then 0 else 1)<30))=bc:=by rfl)(B:(af.endLine==ae.line)=bc:=by rfl)(hs:Us (e::es) X.env=(be,eval e X.env)::Us es X.env:=by rfl)(C:(Co ae (Us es X.env)).any (·.1)=be:=by rfl):PE X (.Call (.Attribute o name af) (e::es) [] ae) (tBM X.K T r to t):=by intro c s a H Q I h;refine Mh A z B rfl (aD (p c s a H _ I h) λv l ⟨x,F,g,d,ty,q1⟩=>?_);obtain⟨y,w⟩:=uo g d ty;refine⟨T,id,n,slot,b,y,w,?_⟩;have f:=u ae c l a F _ g q1;rw[hs]at f⊢;refine Eh (by show(be || (Co ae (Us es X.env)).any (·.1))=be;rw[C]<;>rfl) (Ed ?_);exact aD f λj k ⟨i,E,D,m,q2⟩=>q c k a E x i v j Q D d m q2
end
def MtM(X:Cx)(id:String)(r:V->List V->Hp->VK->Prop):Prop:=
 ∀(d:List (Up×Vc)) (s:Ad) (a:St) (H:Hp) (x:V) (b:List V) (v:Uo) (c:List Uo) (Q:VK),cI X d a H s->b3 x v->bS b c->r x b H Q->
  Ut (Uu X.prog X.w) X.A (call (.builtin id) (v::c)) (EP X d a Q) X.xe s
theorem bS.one:∀{x:V}{us:List Uo},bS [x] us->∃u,us=[u]/\b3 x u
 |_,_,.cons r .nil=>⟨_,rfl,r⟩
def bS.dropLast{xs:List V}{us:List Uo}(h:bS xs us):bS xs.dropLast us.dropLast:=by
 induction h with
 |nil=>exact .nil
 |cons r t a=>
  cases t with
  |nil=>exact .nil
  |cons q b=>exact .cons r a
def DM{c:Type}(l:List c):l.eraseIdx (l.length-1)=l.dropLast:=by
 induction l with
 |nil=>rfl
 |cons a r d=>
  cases r with
  |nil=>rfl
  |cons b r=>
   have e:(a::b::r).length-1=((b::r).length-1)+1:=by have g:(a::b::r).length=r.length+2:=rfl;have f:(b::r).length=r.length+1:=rfl;lia
   rw[e,List.eraseIdx_cons_succ,d];all_goals rfl
section
variable{X:Cx}{aa:List (Up×Vc)}{σ:St}{H:Hp}{s:Ad}{l b:Up}{xs ys zs:List V}
def cI.lset{a its':List Uo}{n:Nat}{f:Array Uo->Array Uo}{t':Nat}(I:cI X aa σ H s)(i:H l=ba (.lst xs))(e:s.heap.get? l=ba {cls:=.type "list",data:=.seq a.toArray n})(g:f a.toArray=its'.toArray)(c:bS ys its')(hz:ys.length<=sizeLine):cI X aa σ (upd H l (.lst ys)) {s with heap:=s.heap.update l (Hc f),toks:=t'}:=by have q:=Mc e f;rw[g]at q;refine I.write (x:=l) (e:=l) (by rw[i];exact trivial) (.inl rfl) (λj u h d=>(Cz s.heap (Hc f) (Dm h)).trans d) ⟨_,q⟩ ?_;exact⟨hz,its',_,c,q⟩
def cI.lnew{a:List Uo}{t':Nat}(I:cI X aa σ H s)(c:bS ys a)(hz:ys.length<=sizeLine):cI X aa σ (upd H s.heap.objs.size (.lst ys)) {s with heap:=s.heap.push {cls:=.type "list",data:=.seq a.toArray},toks:=t'}:=
 I.laid (λ_ _ q=>Ac _ q) (Am _) ⟨hz,a,0,c,Al _ rfl⟩
def cI.fresh(I:cI X aa σ H s):H s.heap.objs.size=bb:=I.hok.fresh (Am _)
def cI.lstM(I:cI X aa σ H s)(b:H l=ba (.lst xs)):xs.length<=sizeLine/\∃(a:List Uo) (n:Nat),bS xs a/\xs.length=a.length/\s.heap.get? l=ba {cls:=.type "list",data:=.seq a.toArray n}:=by obtain⟨z,a,n,r,e⟩:=I.hok l _ b;exact⟨z,a,n,r,r.length,e⟩
def mM{n:Nat}(h:n<=sizeLine):Fv n=be:=by unfold Fv;exact decide_eq_false (by lia)
end
section
variable{X:Cx}
def IG:V->List V->Hp->VK->Prop:=λx b H Q=>∃l a y,x=.ref l/\b=[y]/\H l=ba (.lst a)/\a.length<sizeLine/\Q .non (upd H l (.lst (a++[y])))
def RY:MtM X "list.append" IG:=by intro o s g H x j v k Q I c d h;obtain⟨l,i,y,rfl,rfl,b,m,q⟩:=h;cases c;obtain⟨u,rfl,f⟩:=d.one;obtain⟨z,a,n,r,hl,e⟩:=I.lstM b;refine Gf Pb ⟨_,e,rfl⟩ Od (Ni _ _) (Py l a.toArray n u (by rw[Ak];lia)) ⟨e,?_⟩;refine⟨.non,_,I.lset (its':=a++[u]) b e (by simp) (r.append (.cons f .nil)) ?_,rfl,q⟩;rw[Be,Em];lia
end
section
variable{prog:Ao}{w:Uw}{A:Bp}{E:Uo->Ad->Prop}{s:Ad}
set_option maxRecDepth 100000 in
end
section
variable{κ:Type}[DecidableEq κ]
def TY(kvs:List (κ×V))(k:κ):Option V:=(kvs.find? λa=>decide (a.1=k)).map (·.2)
def W9(kvs:List (κ×V))(k:κ)(v:V):List (κ×V):=
 if(kvs.any λa=>decide (a.1=k))=bc then kvs.map (λa=>if a.1=k then(a.1,v)else a)else kvs++[(k,v)]
def U1{p:κ×V}{r:List (κ×V)}{k:κ}(e:p.1=k):TY (p::r) k=ba p.2:=by simp[TY,Gs,e]
def WA{p:κ×V}{r:List (κ×V)}{k:κ}(e:¬p.1=k):TY (p::r) k=TY r k:=by simp[TY,Gs,e]
theorem QH(k:κ):∀kvs:List (κ×V),(kvs.any λa=>decide (a.1=k))=(TY kvs k).isSome
 |[]=>rfl
 |p::r=>by
  rw[Hd];by_cases e:p.1=k;simp only[U1 e,decide_eq_true e,Bool.true_or,Pc];rw[WA e,decide_eq_false e,Pd];exact QH k r
def VO(kvs:List (κ×V))(k:κ)(v:V):(W9 kvs k v).length<=kvs.length+1:=by
 unfold W9;split;rw[Bb];lia;rw[Be,Cs,List.length_nil];lia
def WJ.isSome_eq{o:Option V}{u:Option Uo}(r:WJ o u):o.isSome=u.isSome:=by
 cases o with
 |none=>cases u with
  |none=>rfl
  |some _=>exact(show False from r).elim
 |some _=>cases u with
  |none=>exact(show False from r).elim
  |some _=>rfl
def WJ.getD{o:Option V}{u:Option Uo}{d:V}{d':Uo}(r:WJ o u)(a:b3 d d'):b3 (o.getD d) (u.getD d'):=by
 cases o with
 |none=>cases u with
  |none=>exact a
  |some _=>exact(show False from r).elim
 |some _=>cases u with
  |none=>exact(show False from r).elim
  |some _=>exact r
def KV.val{kvs:List (κ×V)}{vs:List (κ×Uo)}(r:KV kvs vs)(k:κ):WJ (TY kvs k) (Pz vs k):=by
 unfold KV at r;induction r with
 |nil=>exact True.intro
 | @cons p q i a h t f=>
  obtain⟨d,g⟩:=h;by_cases e:p.1=k;have c:q.1=k:=d.symm.trans e;have b:Pz (q::a) k=ba q.2:=by simp[Pz,Gs,c]
  rw[U1 e,b];exact g;have c : ¬ q.1 = k := λz => e (d.trans z);have b:Pz (q::a) k=Pz a k:=by simp[Pz,Gs,c]
  rw[WA e,b];exact f
def KV.any{kvs:List (κ×V)}{vs:List (κ×Uo)}(r:KV kvs vs)(k:κ):(kvs.any λa=>decide (a.1=k))=vs.any λa=>decide (a.1=k):=by
 unfold KV at r;induction r with
 |nil=>rfl
 |cons h t b=>rw[Hd,Hd,b,h.1]
def KV.repl{kvs:List (κ×V)}{vs:List (κ×Uo)}(r:KV kvs vs)(k:κ){y:V}{u:Uo}(c:b3 y u):KV (kvs.map λa=>if a.1=k then(a.1,y)else a) (vs.map λa=>if a.1=k then(a.1,u)else a):=by
 unfold KV at r⊢;induction r with
 |nil=>exact .nil
 | @cons p q i g h t d=>
  rw[Ch,Ch];refine .cons ?_ d;obtain⟨b,f⟩:=h;by_cases e:p.1=k;rw[if_pos e,if_pos (b.symm.trans e)];exact⟨b,c⟩;rw[if_neg e,if_neg (λz=>e (b.trans z))];exact⟨b,f⟩
def KV.put{kvs:List (κ×V)}{vs:List (κ×Uo)}(r:KV kvs vs)(k:κ){y:V}{u:Uo}(a:b3 y u):KV (W9 kvs k y) (stored vs k u):=by
 unfold W9 stored;rw[r.any k];by_cases e:(vs.any λb=>decide (b.1=k))=bc;rw[if_pos e,if_pos e];exact r.repl k a;rw[if_neg e,if_neg e];exact Ug r ⟨rfl,a⟩
def KV.length{kvs:List (κ×V)}{vs:List (κ×Uo)}(r:KV kvs vs):kvs.length=vs.length:=Hz r
end
section
variable{u:Uo}{kvs:List (List Z2×V)}{xs:List (List Z2×Up×Uo)}{y:V}
def L5{P:Ao}{w:Uw}{k:Z2}(r:b3 (kV k) u):(aW P w).is k u=bc:=by
 cases k with
 |inl i=>obtain⟨t,e⟩:=(show∃t,u=Op i t from r);subst e;exact F1 P w i t
 |inr x=>obtain⟨t,e⟩:=(show∃t,u=Oq x t from r);subst e;exact F2 P w x t
theorem JW{P:Ao}{w:Uw}:∀{ks:List Z2}{us:List Uo},bS (ks.map kV) us->ItemsAre (aW P w) ks us
 |[],_,r=>by rw[Qt]at r;cases r;exact .nil
 |k::ks,_,r=>by
  rw[Ch]at r;cases r with
  |cons h t=>exact .cons (L5 h) (JW t)
abbrev KT(H:Hp):List (List Z2×V)->List (List Z2×Up×Uo)->Prop:=Paired λp q=>p.1=q.1/\H q.2.1=ba (.tup (p.1.map kV))/\b3 p.2 q.2.2
def KT.val{H:Hp}(r:KT H kvs xs)(k:List Z2):WJ (TY kvs k) ((atKey xs k).map (·.2)):=by
 induction r with
 |nil=>exact True.intro
 | @cons p q i a h t f=>
  obtain⟨d,_,g⟩:=h;by_cases e:p.1=k;have c:q.1=k:=d.symm.trans e;have b:atKey (q::a) k=ba q.2:=by simp[atKey,Gs,c]
  rw[U1 e,b];exact g;have c : ¬ q.1 = k := λz => e (d.trans z);have b:atKey (q::a) k=atKey a k:=by simp[atKey,Gs,c]
  rw[WA e,b];exact f
def KT.repl{H:Hp}(r:KT H kvs xs)(k:List Z2)(d:b3 y u):KT H (kvs.map λb=>if b.1=k then(b.1,y)else b) (xs.map (putAt k u)):=by
 induction r with
 |nil=>exact .nil
 | @cons p q j i h t f=>
  rw[Ch,Ch];refine .cons ?_ f;obtain⟨a,c,g⟩:=h;unfold putAt;by_cases e:p.1=k;rw[if_pos e,if_pos (a.symm.trans e)];exact⟨a,c,d⟩;rw[if_neg e,if_neg (λz=>e (a.trans z))];exact⟨a,c,g⟩
def KT.put{H:Hp}(r:KT H kvs xs)(k:List Z2){b:Up}(d:H b=ba (.tup (k.map kV)))(a:b3 y u):KT H (W9 kvs k y) (storedH xs k b u):=by
 have e:(kvs.any λc=>decide (c.1=k))=(atKey xs k).isSome:=by rw[QH,(r.val k).isSome_eq,Ld]
 unfold W9 storedH;rw[e];by_cases q:(atKey xs k).isSome=bc;rw[if_pos q,if_pos q];exact r.repl k a;rw[if_neg q,if_neg q];exact Ug r ⟨rfl,d,a⟩
def KT.keeps{H a:Hp}(r:KT H kvs xs)(c:∀b ys,H b=ba (.tup ys)->a b=ba (.tup ys)):KT a kvs xs:=
 Paired.mapP r λ_ _ z=>⟨z.1,c _ _ z.2.1,z.2.2⟩
end
section
variable{P:Ao}{w:Uw}{H:Hp}{h:Uy}{a:Up}
def Ws{u:HO}(ok:T6 P w H h)(e:Rd H a u):a5 P w H h a u:=e.ok ok
def LI{kvs:List (Z2×V)}(ok:T6 P w H h)(e:Rd H a (.dK kvs)):kvs.length<=sizeLine/\(a==Dv)=be/\∃vs,KV kvs vs/\h.DictOf (aW P w) a vs:=
 show a5 P w H h a (.dK kvs) from Ws ok e
def Vs{kvs:List (Z2×V)}(ok:T6 P w H h)(e:H a=ba (.dK kvs)):kvs.length<=sizeLine/\(a==Dv)=be/\∃vs,KV kvs vs/\h.DictOf (aW P w) a vs:=LI ok (.inl e)
def Q3{ks:List Z2}(ok:T6 P w H h)(e:H a=ba (.tup (ks.map kV))):(tupleKind (aW P w)).is h ks a:=by obtain⟨_,b,r,o,f,d,n,c⟩:=(show a5 P w H h a (.tup (ks.map kV)) from ok a _ e);exact⟨o,b.toArray,n,f,d,c,by simpa using JW r⟩
def LJ{kvs:List (List Z2×V)}(ok:T6 P w H h)(e:Rd H a (.dT kvs)):kvs.length<=sizeLine/\(a==Dv)=be∧ ∃xs,KT H kvs xs/\h.DictOfH (tupleKind (aW P w)) a xs:=by
 obtain⟨z,y,xs,r,o,n,s,k,j,i,g,f⟩:=(show a5 P w H h a (.dT kvs) from Ws ok e);refine⟨z,y,xs,r,o,n,s,k,j,i,g,λx b=>?_,f⟩;have all:∀{l:List (List Z2×V)}{m:List (List Z2×Up×Uo)},KT H l m->∀x∈m,(tupleKind (aW P w)).is h x.1 x.2.1:=by
  intro l m q;induction q with
  |nil=>intro x b;exact nomatch b
  | @cons p q v u c t d=>
   intro x b;rcases Bj.mp b with e|b;subst e;exact Q3 ok (by rw[<-c.1];exact c.2.1);exact d x b
 exact all r x b
def Zf{kvs:List (List Z2×V)}(ok:T6 P w H h)(e:H a=ba (.dT kvs)):kvs.length<=sizeLine/\(a==Dv)=be∧ ∃xs,KT H kvs xs/\h.DictOfH (tupleKind (aW P w)) a xs:=LJ ok (.inl e)
end
def U4(H:Hp)(a:Up)(y:V)(r:Option V):Prop:=
 (∃c k,Rd H a (.dK c)/\y=kV k/\r=TY c k)∨∃c k b,Rd H a (.dT c)/\y=.ref b/\H b=ba (.tup (k.map kV))/\r=TY c k
def KQ(H:Hp)(a:Up)(y v:V)(d:Hp):Prop:=
 (∃c k,H a=ba (.dK c)/\y=kV k/\c.length<sizeLine/\d=upd H a (.dK (W9 c k v)))∨
 ∃c k b,H a=ba (.dT c)/\y=.ref b/\H b=ba (.tup (k.map kV))/\c.length<sizeLine/\d=upd H a (.dT (W9 c k v))
def U4.k{H:Hp}{a:Up}{kvs:List (Z2×V)}{k:Z2}(e:H a=ba (.dK kvs)):U4 H a (kV k) (TY kvs k):=.inl ⟨kvs,k,.inl e,rfl,rfl⟩
def U4.t{H:Hp}{a b:Up}{kvs:List (List Z2×V)}{k:List Z2}(e:H a=ba (.dT kvs))(c:H b=ba (.tup (k.map kV))):U4 H a (.ref b) (TY kvs k):=.inr ⟨kvs,k,b,.inl e,rfl,c,rfl⟩
def KQ.k{H:Hp}{a:Up}{kvs:List (Z2×V)}{k:Z2}{v:V}(e:H a=ba (.dK kvs))(hl:kvs.length<sizeLine):KQ H a (kV k) v (upd H a (.dK (W9 kvs k v))):=.inl ⟨kvs,k,e,rfl,hl,rfl⟩
def KQ.t{H:Hp}{a b:Up}{kvs:List (List Z2×V)}{k:List Z2}{v:V}(e:H a=ba (.dT kvs))(c:H b=ba (.tup (k.map kV)))(hl:kvs.length<sizeLine):KQ H a (.ref b) v (upd H a (.dT (W9 kvs k v))):=.inr ⟨kvs,k,b,e,rfl,c,hl,rfl⟩
section
variable{X:Cx}{aa:List (Up×Vc)}{σ:St}{H:Hp}{s:Ad}{a:Up}{y v:V}{u r:Uo}{o:Option V}{A:Bp}{E:Uo->Ad->Prop}
def cI.big(I:cI X aa σ H s):Dv<s.heap.objs.size:=by have h:Ur<s.heap.objs.size:=(I.mod.glob.keeps I.bk).lt;exact Nat.lt_trans (by decide) h
def kX{Q:Uo->Ad->Prop}(x:A.units+1<cLine)(I:cI X aa σ H s)(g:U4 H a y (ba v))(q:b3 y u)(h:∀f s',cI X aa σ H s'->b3 v f->Q f s'):Ut (Uu X.prog X.w) A (Lr (.ref a) u) Q E s:=by
 rcases g with⟨i,k,e,m,l⟩|⟨i,k,b,e,m,D,l⟩;subst m;obtain⟨z,C,t,d,n⟩:=LI I.hok e;obtain⟨f,hw,c⟩:=WJ.some_of (v:=v) (o:=Pz t k) (by rw[l];exact d.val k);exact wpAny_getItem_of (L5 q) n.mapOf hw (h f _ (I.tok _) c);subst m;cases (show u=An b from q);obtain⟨z,C,r,d,n⟩:=LJ I.hok e;obtain⟨f,hw,c⟩:=WJ.some_of (v:=v) (o:=(atKey r k).map (·.2)) (by rw[l];exact d.val k);obtain⟨p,B,j⟩:=Ah.mp hw;refine wpAny_getItem_heap (Gj x) (Q3 I.hok D) n B ?_;rw[j];exact h f _ (I.tok _) c
def d_in{Q:Uo->Ad->Prop}(n:A.units+1<cLine)(I:cI X aa σ H s)(g:U4 H a y o)(m:b3 y u)(h:∀s',cI X aa σ H s'->Q (.bool o.isSome) s'):Ut (Uu X.prog X.w) A (Cd .In u (.ref a)) Q E s:=by
 rcases g with⟨d,k,e,i,l⟩|⟨d,k,b,e,i,p,l⟩;subst i;obtain⟨z,f,t,c,j⟩:=LI I.hok e;refine wpAny_in_of (L5 m) f j.mapOf ?_;rw[<-(c.val k).isSome_eq,<-l];exact h _ (I.tok _);subst i;cases (show u=An b from m);obtain⟨z,f,r,c,j⟩:=LJ I.hok e;refine wpAny_in_heap (Gj n) (Q3 I.hok p) f j ?_;have q:=(c.val k).isSome_eq;rw[Ld]at q;rw[<-q,<-l];exact h _ (I.tok _)
def BL{Q:Uo->Ad->Prop}(n:A.units+1<cLine)(I:cI X aa σ H s)(g:U4 H a y o)(m:b3 y u)(h:∀s',cI X aa σ H s'->Q (.bool (!o.isSome)) s'):Ut (Uu X.prog X.w) A (Cd .NotIn u (.ref a)) Q E s:=by
 rcases g with⟨d,k,e,i,l⟩|⟨d,k,b,e,i,p,l⟩;subst i;obtain⟨z,f,t,c,j⟩:=LI I.hok e;refine wpAny_notIn_of (L5 m) f j.mapOf ?_;rw[<-(c.val k).isSome_eq,<-l];exact h _ (I.tok _);subst i;cases (show u=An b from m);obtain⟨z,f,r,c,j⟩:=LJ I.hok e;refine wpAny_notIn_heap (Gj n) (Q3 I.hok p) f j ?_;have q:=(c.val k).isSome_eq;rw[Ld]at q;rw[<-q,<-l];exact h _ (I.tok _)
def M5{h':Uy}{t':Nat}{ob:HO}(I:cI X aa σ H s)(d:Mut (H a))(hs:Ek a s.heap h')(f:∃q,h'.get? a=ba q)(new:a5 X.prog X.w (upd H a ob) h' a ob):cI X aa σ (upd H a ob) {s with heap:=h',toks:=t'}:=
 I.write (x:=a) (e:=a) d (.inl rfl) (λb q g z=>(hs.2 b g).trans z) f new
def DL{P:Ao}{w:Uw}{d:Hp}{h':Uy}{kvs:List (Z2×V)}{vs:List (Z2×Uo)}(z:kvs.length<=sizeLine)(c:(a==Dv)=be)(b:KV kvs vs)(dd:h'.DictOf (aW P w) a vs):a5 P w d h' a (.dK kvs):=⟨z,c,vs,b,dd⟩
def hU{J:Hp}{Q:Unit->Ad->Prop}(M:A.units+1<cLine)(I:cI X aa σ H s)(g:KQ H a y v J)(B:b3 y u)(C:b3 v r)(h:∀s',cI X aa σ J s'->Q () s'):Ut (Uu X.prog X.w) A (setItem (.ref a) u r) Q E s:=by
 rcases g with⟨f,k,e,p,l,t⟩|⟨f,k,b,e,p,G,l,t⟩;subst p t;obtain⟨z,o,L,d,x⟩:=Vs I.hok e;have m:L.length<=sizeLine:=by rw[<-d.length];exact z
 have hl:(W9 f k v).length<=sizeLine:=by have:=VO f k v;lia
 refine wpAny_setItem_pairs (hsz:=m) (L5 B) x λD i n=>h _ ?_;have N:∃q,D.get? a=ba q:=let ⟨q,_,_,j,_⟩:=i;⟨q,j⟩
 exact M5 I (by rw[e];exact True.intro) n N (DL hl o (d.put k C) i);subst p t;cases (show u=An b from B);obtain⟨z,o,K,d,x⟩:=Zf I.hok e;have m:K.length<=sizeLine:=by rw[<-Hz d];exact z
 have hl:(W9 f k v).length<=sizeLine:=by have:=VO f k v;lia
 refine wpAny_setItem_heap (hsz:=m) (Gj M) (Q3 I.hok G) x λD i n=>h _ ?_;obtain⟨q,T,U,j,S,R,P,_,O⟩:=i;refine M5 I (by rw[e];exact True.intro) n ⟨q,j⟩ ⟨hl,o,_,(d.put k G C).keeps λc V F=>?_,q,T,U,j,S,R,P,O⟩;rw[cL (RI F e (λz=>nomatch z))];exact F
end
def FN{X:Cx}{h:List (Up×Vc)}{f:St}{H:Hp}{s:Ad}{a:Up}{y:V}{o:Option V}(I:cI X h f H s)(g:U4 H a y o):s.TypeIs (.ref a) "dict":=by
 rcases g with⟨c,k,e,_,_⟩|⟨c,k,b,e,_,_,_⟩;obtain⟨_,_,j,_,d⟩:=LI I.hok e;exact d.typeIs;obtain⟨_,_,i,_,d⟩:=LJ I.hok e;exact d.typeIs
def mH(e ty d:TE):TS:=λD b H=>d b H λv h=>e b h λx g=>ty b g λy f=>∃a c,x=.ref a/\KQ f a y v c/\D.nx b c
section
variable{X:Cx}{o i e value:Uv}{pos aq kf:Pos}{td ty tv:TE}
def CH(m:X.A.units+1<cLine)(n:PE X o td)(p:PE X i ty)(l:PE X value tv)(hs:Va value (ba (.Subscript o i aq)) pos.line X.env=pure be):PS X (.Assign [.Subscript o i aq] value pos) (mH td ty tv):=by intro c s b H D I h;refine wpAny_Assign_Subscript (aD (l c s b H _ I h) λr e ⟨v,F,B,k,q1⟩=>aD (n c e b F _ B q1) λu d ⟨x,E,z,j,q2⟩=>aD (p c d b E _ z q2) λK J ⟨y,L,w,f,a,C,q,g,q3⟩=>?_) hs;subst q;obtain rfl:u=An a:=j;exact hU m w g f k λG t=>⟨b,C,t,q3⟩
end
def LH{P:Ao}{w:Uw}{H:Hp}(h:Uy)(a:Dv<h.objs.size):a5 P w H (h.push {cls:=.type "dict",data:=.dict #[]}) h.objs.size (.dK []):=
 ⟨Bz _,beq_eq_false_iff_ne.mpr (Dm (Ap a)),[],.nil,Sd h⟩
def FO{P:Ao}{w:Uw}{H:Hp}(h:Uy)(a:Dv<h.objs.size):a5 P w H (h.push {cls:=.type "dict",data:=.dict #[]}) h.objs.size (.dT []):=
 ⟨Bz _,beq_eq_false_iff_ne.mpr (Dm (Ap a)),[],.nil,_,#[],0,Al _ rfl,⟨rfl,rfl,rfl⟩,rfl,rfl,Nu⟩
def oM:TE:=λ_ H Q=>∀p,H p=bb->Q (.ref p) (upd H p (.dK []))
def nX:TE:=λ_ H Q=>∀p,H p=bb->Q (.ref p) (upd H p (.dT []))
section
variable{X:Cx}{pos:Pos}
def zD8:PE X (.Dict [] [] pos) oM:=λc s b H Q I h=>
 wpAny_Dict_empty ⟨.ref s.heap.objs.size,_,I.laid (a:=s.heap.objs.size) (o:=.dK []) (t':=s.toks) (λ_ _ q=>Ac _ q) (Am _) (LH s.heap I.big),rfl,h _ (I.hok.fresh (Am _))⟩
def zD7:PE X (.Dict [] [] pos) nX:=λc s b H Q I h=>
 wpAny_Dict_empty ⟨.ref s.heap.objs.size,_,I.laid (a:=s.heap.objs.size) (o:=.dT []) (t':=s.toks) (λ_ _ q=>Ac _ q) (Am _) (FO s.heap I.big),rfl,h _ (I.hok.fresh (Am _))⟩
end
structure M1(X:Cx)(o:Uv)(m:Uq)(af:Pos)(e:Uv)(ae:Pos):Prop where
 base:Ca o m X.env (eval o X.env)=eval o X.env
 few:((Co ae (Us [e] X.env)).all (λx=> !x.1)&&(Ej ae (Ck [] X.env)).all (λx=>x.1.isSome)
  && decide (([e]:List Uv).length+([]:List Gr).length+(if([]:List Gr).isEmpty then 0 else 1)<30))=bc
 line:(af.endLine==ae.line)=bc
 trees:Co ae (Us [e] X.env)=[(be,eval e X.env)]
def IsD(H:Hp)(a:Up):Prop:=(∃b,Rd H a (.dK b))∨∃b,Rd H a (.dT b)
def gJ{X:Cx}{k:List (Up×Vc)}{j:St}{H:Hp}{s:Ad}{a:Up}(I:cI X k j H s)(d:IsD H a):s.TypeIs (.ref a) "dict" /\(∀b,An a=.ref b->∃ob,s.heap.get? b=ba ob/\ob.dict=bb)/\(a==Dv)=be:=by
 rcases d with⟨f,e⟩|⟨f,e⟩;obtain⟨_,g,m,_,c⟩:=LI I.hok e;refine⟨c.typeIs,λb q=>?_,g⟩;cases q;obtain⟨ob,_,_,i,h,_⟩:=c;exact⟨ob,i,h.2.1⟩;obtain⟨_,g,l,_,c⟩:=LJ I.hok e;refine⟨c.typeIs,λb q=>?_,g⟩;cases q;obtain⟨ob,_,_,i,h,_⟩:=c;exact⟨ob,i,h.2.1⟩
section
variable{X:Cx}{aa:List (Up×Vc)}{σ:St}{H:Hp}{s:Ad}{a:Up}{y d:V}{u r:Uo}{o:Option V}{A:Bp}{E:Uo->Ad->Prop}
def iA{Q:Uo->Ad->Prop}(q:A.units+1<cLine)(I:cI X aa σ H s)(g:U4 H a y o)(n:b3 y u)(h:∀m s',cI X aa σ H s'->b3 (o.getD .non) m->Q m s'):Ut (Uu X.prog X.w) A (call (.builtin "dict.get") [.ref a,u]) Q E s:=by
 rcases g with⟨f,k,e,j,l⟩|⟨f,k,b,e,j,r,l⟩;subst j;obtain⟨z,i,t,c,d⟩:=LI I.hok e;refine call_meetsIn Gu d.typeIs Iv (Il _ _) (meets_dict_get (aW X.prog X.w) a (L5 n) i) ⟨_,d.mapOf,h _ _ (I.tok _) ?_⟩;rw[l];exact(c.val k).getD rfl;subst j;cases (show u=An b from n);obtain⟨z,i,p,c,d⟩:=LJ I.hok e;refine call_meetsIn Gu d.typeIs Iv (Il _ _) (meetsH_dict_get (tupleKind (aW X.prog X.w)) a b i) ⟨Gj q,k,p,Q3 I.hok r,d,h _ _ (I.tok _) ?_⟩;rw[l];exact(c.val k).getD rfl
end
end L2
namespace Att
open PySem PySem.W PySem.Calls PyProof.Rows
def NC{P:Nq}{h:Uy}:∀(ns:List Int) (vs:List Uo),WellAll P h vs (ns.map WData.int)->Ik vs ns:=by
 intro ns;induction ns with
 |nil=>
  intro vs w;rw[Qt]at w;cases w;exact .nil
 |cons n ns c=>
  intro vs w;rw[Ch]at w;cases w with
  |cons a b=>
   cases a;exact .cons _ _ (c _ b)
def AT{l:OpenLaw}{n:Nat}(s:l.most=ba n){P:Nq}{h:Uy}{args:List WData}{b:List Uo}(c:l.row.toRowW.claim.pre args=bc)(g:WellAll P h b args):∃a vs ns,b=[An a]/\args=[WData.list (ns.map WData.int)]/\h.get? a=ba {cls:=.type "list",data:=.seq vs.toArray}/\Ik vs ns/\ns.length<=n:=by
 have i:WShape.hasAll [] args [.list .int]=bc:=(pre_splitW c).1;have hc:l.pre.holds [] {args:=args}=bc:=(pre_splitW c).2;obtain⟨d,r,rfl,v,u⟩:=hasAllW_cons i;obtain rfl:=hasAllW_nil u;obtain⟨x,rfl,t⟩:=hasW_list v;obtain⟨ns,rfl⟩:=items_int t;have w:ns.length<=n:=by
  unfold OpenLaw.pre at hc;have f:(WTm.not (.lt (.lit (.int (n:Int))) (.len (.arg 0)))).holds [] {args:=[.list (ns.map .int)]}=bc:=by have f:=(holds_andW hc).1;rw[s]at f;exact f
  have e:=condW_of f (w_not (w_lt w_lit (w_len_list (w_arg rfl))));rw[Bb]at e;refine Nat.le_of_not_lt λq=>?_;have m:(n:Int)<((ns.length:Nat):Int):=by lia
  first
   |(rw[decide_eq_true m]at e;exact absurd e (by decide))
   |(simp at e;lia)
 cases g with
 |cons k j=>
  cases j;cases k with
  |list p o=>exact⟨_,_,ns,rfl,rfl,p,NC ns _ o,w⟩
def AG(l:OpenLaw)(args:List WData):l.row.toRowW.claim.post args (.bool bc) args=bc:=
 postW_of (r:=l.row.toRowW) (X:=(bc==bc))
  (show Ul [] (.bool bc) .bool=bc by first|rfl|decide|simp[Ul,WShape.arms,WShape.armsAll])
  (show(WTm.eq .res (.lit (.bool bc))).value [] {args:=args,res:=ba (.bool bc),after:=args}=ba (.bool (bc==bc)) from w_eq_bool (w_res rfl) w_lit) rfl
def FF{l:OpenLaw}{n:Nat}{q:Ao}{loose:List Uq}{XP:(Uq->Option Uo)->Uy->Prop}{YP:Uw->Uy->Prop}{d:DefRec}(C:l.most=ba n)(t:d.params.defaults=[])(call:∀(w:Uw) (s₀ b:Ad) (mg m:Uq->Option Uo) (h:Up) (o:Vc) (k j doc:Uo) (a:Up) (vs:List Uo) (ns:List Int),Ground q loose [] XP w s₀ mg m b.heap->YP w b.heap->b.heap.get? h=ba o->o.data=.func (docDef d.name d.params d.body d.scope k j doc)->b.heap.CodeRec j d.name->mg d.name=ba (.ref h)->b.heap.get? a=ba {cls:=.type "list",data:=.seq vs.toArray}->Ik vs ns->ns.length<=n->b.gens= #[]->Gg (Uu l.prog w) Oe (.call (.ref h) ⟨[.ref a],[]⟩) (λr i=>r=.ok (.ret (.bool bc))/\OldK b.heap i.heap/\i.os=b.os/\Ln i.gens) b):WalkO q loose XP YP l.row.toRowW d [] (λf vs=>Sy f vs):=by intro w s₀ b mg m G Y h o k j doc L kV B H u y s F args v N e x z p E;obtain rfl:L=.none:=Dflts.none y t;obtain rfl:kV=.none:=Dflts.noKw y;obtain⟨a,vs,ns,rfl,rfl,g,c,M⟩:=AT C e p;refine enter_call (Fi (call w s₀ b mg m h o k j doc a vs ns G Y B (fd_plain H) u s g c M F) λr i A=>?_);obtain⟨rfl,K,J,I⟩:=A;exact⟨.inl ⟨.bool bc,.bool bc,[],rfl,λ_=>rfl,.bool bc,AG l _,λ_=>⟨Qa,λ_ D=>(nomatch D)⟩⟩,K,J,I⟩
end Att
namespace L2
open PySem PySem.Spec PyProof.Rows
section
variable{CX:E8}{x:Uq}{l:Tz}{n:Nat}{loose:List Uq}{YP:Uw->Uy->Prop}{d:DefRec}
theorem KM:∀{vs:List Uo}{ns:List Int},Ik vs ns->bS (ns.map V.int) vs
 |_,_,.nil=>.nil
 |_,_,.cons n t h=>.cons ⟨t,rfl⟩ (KM h)
def Only(H:Hp):Prop:=∀b,H b=bb∨∃o a,H b=ba (.frz o (.lst a))
def pQ{P:Ao}{w:Uw}{K:Ag}{mg D:Uq->Option Uo}{k:Nat}{L a:Up}{fd:Bq}{sp:Sp}{c:Ad}{vs:List Uo}{ns:List Int}(W:K.In c.heap)(l:c.heap.Ns Ur mg)(f:c.heap.Ns builtinsNs D)(I:∀x:Uq,x≠ "__name__" ->D x=Bm x)(Y:c.heap.NoLimit)(hg:c.gens= #[])(B:c.heap.get? a=ba {cls:=.type "list",data:=.seq vs.toArray})(R:Ik vs ns)(hl:ns.length<=sizeLine)(hr:aT k Oe)(F:∀base:Uy,K.In base->base.Ns Ur mg->bZ P w K mg base CX k L fd [x] sp)(qt:∀(s:Ad) (u:Uo),Oa s fd ⟨[u],[]⟩ [(x,u)])(E:∀H:Hp,Only H->W8 K H a (ns.map V.int)->sp [.ref a] H (λv _=>v=.bl bc) λ_ _ _=>False)(J:∀H e s',CX [] H c (λ_ _ _=>False) e s'->False):Gg (Uu P w) Oe (.call (.ref L) ⟨[.ref a],[]⟩) (λr s'=>r=.ok (.ret (.bool bc))/\OldK c.heap s'.heap/\s'.os=c.os/\Ln s'.gens) c:=by
 have N:=KM R;have sw:=R.length;have O: ∀H:Hp,Only H->W8 K H a (ns.map V.int)->T6 P w H c.heap->(∀b,H b≠bb->b=a)->(H a≠bb->K.lookup a=bb)->
   Gg (Uu P w) Oe (.call (.ref L) ⟨[.ref a],[]⟩) (λr s'=>r=.ok (.ret (.bool bc))/\OldK c.heap s'.heap/\s'.os=c.os/\Ln s'.gens) c:=by
  intro H S hS j T hK;have Q:∀{b:Up}{o:Vc},c.heap.get? b=ba o->H b=bb->(HM c.heap H).get? b=ba o:=λe n=>nG e n;have C:∀{b:Up}{o:Vc}{t:Array Ff}{y:Nat},c.heap.get? b=ba o->o.data=.dict t y->H b=bb:=λ{b o t y} e d=>by
   cases q:H b with
   |none=>rfl
   |some u=>
    have M:b=a:=T b (by rw[q];simp);subst M;rw[B]at e;cases e;have d':Data.seq vs.toArray _=Data.dict t y:=d;cases d'
  have g:∀{b:Up}{m:Uq->Option Uo},c.heap.Ns b m->(HM c.heap H).Ns b m:=λ{b m} ⟨o,t,y,e,d,r⟩=>⟨o,t,y,Q e (C e d),d,r⟩;have p:K.In (HM c.heap H):=λb o e=>Q (W b o e) (by
   cases q:H b with
   |none=>rfl
   |some u=>
    have M:b=a:=T b (by rw[q];simp);subst M;rw[hK (by rw[q];simp)]at e;cases e)
  have hM:Mod K mg (HM c.heap H):=⟨p,g l,⟨D,g f,I⟩,let ⟨mc,h1,h2⟩:=Y;⟨mc,g h1,h2⟩⟩;have e0:HA P w K mg (HM c.heap H) Oe [] c H:=⟨rfl,hM,λb o e=>tX e,Nat.le_of_eq (lK _ _),trivial,λb f=>absurd (show b∈([]:List Up) from f) (by simp),j,.of_eq hg⟩;refine Fi ((F _ p (g l)).run Oe [] c H ⟨[.ref a],[]⟩ [.ref a] [.ref a] _ _ hr e0 (qt c (.ref a)) (.cons rfl .nil) (E H S hS)) λr s' h=>?_;cases r with
  |error e=>exact(J H e s' h).elim
  |ok fl=>
   cases fl with
   |next=>exact Dr h
   |brk=>exact Dr h
   |cont=>exact Dr h
   |ret u=>
    obtain⟨v,H',os,A,un,Z,r',q⟩:=h;have q':v=.bl bc:=q;subst q';obtain rfl:u=Gy bc:=r';refine⟨rfl,OldK.of_keep λb o e=>?_,os,A⟩;cases q:H b with
    |none=>exact un.keep b o e q (by intro z;exact absurd (show b∈([]:List Up) from z) (by simp)) (by simp)
    |some u=>
     rcases S b with z|⟨ob,xs,z⟩;rw[q]at z;cases z;have X:=un.frzs b ob _ z;obtain⟨U,_⟩:=j b _ z;obtain⟨e2,_⟩:=Z b _ X;rw[e]at U;cases U;exact e2
 cases G:K.lookup a with
 |some o=>
  have e:=W a o G;rw[B]at e;cases e;refine O (λ_=>bb) (λ_=>.inl rfl) (.inr ⟨_,vs.toArray,_,G,rfl,rfl,rfl,by rw[Ak,sw];exact hl,by simpa using N⟩) (λb u z=>by have i:(bb:Option HO)=ba u:=z;cases i) (λb z=>absurd rfl z) λz=>absurd rfl z
 |none=>
  refine O (λb=>if b=a then ba (.frz {cls:=.type "list",data:=.seq vs.toArray} (.lst (ns.map V.int)))else bb) (λb=>?_) (.inl (.inr ⟨{cls:=.type "list",data:=.seq vs.toArray},if_pos rfl⟩)) (λb u z=>?_) (λb z=>?_) λ_=>G;by_cases f:b=a;exact .inr ⟨_,_,if_pos f⟩;exact .inl (if_neg f);by_cases f:b=a;have i:=(if_pos f).symm.trans z;cases i;subst f;exact⟨B,by rw[Bb];exact hl,vs,_,N,B⟩;have i:=(if_neg f).symm.trans z;cases i;by_cases f:b=a;exact f;exact absurd (if_neg f) z
def gK{k:Nat}{q:Ao}{XP:(Uq->Option Uo)->Uy->Prop}{K:Nq->Ag}{CX:Uw->E8}{sp:Uw->Sp}(I:l.most=ba n)(r:n<=sizeLine)(y:d.params.defaults=[])(E:aT k Oe)(N:∀(w:Uw) (h:Uy),YP w h->(K w.params).In h)(F:∀(w:Uw) (mg:Uq->Option Uo) (m:Up) (h:Uy),(K w.params).In h->h.Ns Ur mg->mg d.name=ba (.ref m)->∃fd:Bq,(∀(s:Ad) (u:Uo),Oa s fd ⟨[u],[]⟩ [(x,u)])∧ ∀base:Uy,(K w.params).In base->base.Ns Ur mg->bZ l.prog w (K w.params) mg base (CX w) k m fd [x] (sp w))(p:∀(w:Uw) (H:Hp) (a:Up) (ns:List Int),ns.length<=n->Only H->W8 (K w.params) H a (ns.map V.int)->sp w [.ref a] H (λv _=>v=.bl bc) λ_ _ _=>False)(z:∀(w:Uw) (H:Hp) (s:Ad) (e:Uo) (s':Ad),CX w [] H s (λ_ _ _=>False) e s'->False):W.WalkO q loose XP YP l.row.toRowW d [] (λf A=>Sy f A):=by refine Att.FF I y λw B i mg S m o R Z doc a A ns G Y U X L t j c C J=>?_;have D:=N w _ Y;obtain⟨fd,M,Q⟩:=F w mg m _ D G.T.g t;exact pQ D G.T.g G.T.b G.T.builtins G.T.nolimit J j c (Dq C r) E Q M (λH P O=>p w H a ns C P O) λH e s'=>z w H i e s'
def zB0{k:Nat}{q:Ao}{XP:(Uq->Option Uo)->Uy->Prop}{K:Nq->Ag}{sp:Ag->Sp}(p:l.most=ba n)(c:n<=sizeLine)(g:d.params.defaults=[])(o:aT k Oe)(r:∀(w:Uw) (h:Uy),YP w h->(K w.params).In h)(F:∀(w:Uw) (mg:Uq->Option Uo) (j:Up) (h:Uy),(K w.params).In h->h.Ns Ur mg->mg d.name=ba (.ref j)->∃fd:Bq,(∀(s:Ad) (u:Uo),Oa s fd ⟨[u],[]⟩ [(x,u)])∧ ∀base:Uy,(K w.params).In base->base.Ns Ur mg->bZ l.prog w (K w.params) mg base CX k j fd [x] (sp (K w.params)))(b:∀(K:Ag) (H:Hp) (a:Up) (ns:List Int),ns.length<=n->Only H->W8 K H a (ns.map V.int)->sp K [.ref a] H (λv _=>v=.bl bc) λ_ _ _=>False)(i:∀(H:Hp) (s:Ad) (e:Uo) (s':Ad),CX [] H s (λ_ _ _=>False) e s'->False):W.WalkO q loose XP YP l.row.toRowW d [] (λf m=>Sy f m):=
 gK (K:=K) (CX:=λ_=>CX) (sp:=λw=>sp (K w.params)) p c g o r F (λw H a ns z y t=>b (K w.params) H a ns z y t) λ_ H s e s'=>i H s e s'
def a7(s:Vb):Arguments:=match s with
 |.FunctionDef _ a _ _ _ _ _ _ _ _=>a
 |_=>{posonlyargs:=[],args:=[],vararg:=bb,kwonlyargs:=[],kw_defaults:=[],kwarg:=bb,defaults:=[]}
def bT(s:Vb):List Vb:=match s with
 |.FunctionDef _ _ b _ _ _ _ _ _ _=>b
 |_=>[]
def c7(s:Vb):Vd:=match s with
 |.FunctionDef _ _ _ _ _ _ a _ _ _=>a
 |_=>{kind:=.function,names:=[],isGenerator:=be,isCoroutine:=be}
abbrev CX0:E8:=λ_ _ _ _ _ _=>False
abbrev E0:XK:=λ_ _ _=>False
def CC{X:Cx}:LC CX0 X E0:=λ_ _ _ _ _ _ _ h=>h.elim
structure aC(K:Ag)(x qual:Uq)(st:Vb)(f:Up)(fd:Bq):Prop where
 ex:∃(oc:Uo) (od:Option Up) (kV doc pm:Uo) (an:Option Up) (cdv ct:Uo) (osl:Array (Option Uo)),
  fd=Hi x qual (a7 st) (bT st) (c7 st) .none kV doc pm an cdv ct/\K.lookup f=ba ⟨oc,od,.func fd,osl⟩/\Kn K cdv qual=bc
 kp:Fh K (.ref f)=bc
end
section
variable{P:Ao}{w:Uw}{K:Ag}{mg:Uq->Option Uo}{base:Uy}
def aC.ok{x qual:Uq}{st:Vb}{f:Up}{fd:Bq}{N ps:List Uq}{k:Nat}{sp:Sp}(F:aC K x qual st f fd)(S:cO N ps (c7 st))(len:∀vs H Q E,sp vs H Q E->vs.length=ps.length)(i:∀(a:Uo) (A:Bp) (outer:List Env) (s:Ad) (H:Hp) (vs:List V) (Q:VK) (E:XK),aT k (A.deeper (envOfC qual (c7 st) s.heap.objs.size f a))->sp vs H Q E->∃t,X4 (TU CX0 P w K mg base N qual (c7 st) f a A outer s H E).nox (bT st) t/\t {nx:=λ_ j=>Q .non j,rt:=Q} (start N vs) H):bZ P w K mg base CX0 (k+1) f fd ps sp:=by obtain⟨m,od,kV,doc,l,n,a,ct,d,rfl,e,c⟩:=F.ex;refine BO e c S len λA outer s H vs Q E g b=>?_;obtain⟨t,h,q⟩:=i a A outer s H vs Q E g b;exact⟨t,h.nox,q⟩
def aC.binds{x qual:Uq}{st:Vb}{f:Up}{fd:Bq}{ps:List Uq}(F:aC K x qual st f fd)(h:∀(kV doc b:Uo) (c:Option Up) (a ct:Uo) (us:List Uo),us.length=ps.length->bindArgs (Hi x qual (a7 st) (bT st) (c7 st) .none kV doc b c a ct) ⟨us,[]⟩=pure (ps.zip us)):YZ K fd ps []:=by obtain⟨g,od,kV,doc,b,c,a,ct,d,rfl,i,e⟩:=F.ex;exact .all (h kV doc b c a ct)
def QX{x qual:Uq}{st:Vb}{f:Up}{g:Uo}{od e:Option Up}{b:Array (Option Uo)}{kV doc d a ct:Uo}(l:K.lookup f=ba ⟨g,od,.func (Hi x qual (a7 st) (bT st) (c7 st) .none kV doc d e a ct),b⟩)(c:Kn K a qual=bc)(k:Fh K (.ref f)=bc):aC K x qual st f (Hi x qual (a7 st) (bT st) (c7 st) .none kV doc d e a ct):=⟨⟨g,od,kV,doc,d,e,a,ct,b,rfl,l,c⟩,k⟩
end
def BR{A:Bp}{k:Nat}(a:aT k A):A.units+1<cLine:=Pe (Nat.add_le_add_left (by decide:1<=64) _) a.units
section
variable{X:Cx}
def pv(i:Nat){x:Uq}{pos:Pos}(d:X.N[i]?=ba x:=by rfl)(b:Vis X.env.scope x:=by first|exact Fj rfl|exact Eg (Fj rfl)|exact Eg (Eg rfl))(c:(x==("__debug__":Uq))=be:=by decide)(a:(x==("__classdict__":Uq))=be:=by decide):PE X (.Name x pos) (YV i):=D9 d b c a
end
def P7{A B:Prop}(h:B):if be=bc then A else B:=by rw[if_neg Bw];exact h
def P8{A B:Prop}(h:A):if bc=bc then A else B:=by rw[if_pos rfl];exact h
def bI(H a:Hp):Prop:=∀b o,H b=ba o->a b=ba o
def bI.refl(H:Hp):bI H H:=λ_ _ h=>h
def bI.trans{H e d:Hp}(a:bI H e)(b:bI e d):bI H d:=λc o h=>b c o (a c o h)
theorem HK{env:Env}{f:Uq×Vf->List (Uq×Up)->Vg (ForInStep (List (Uq×Up)))}(g:∀n k r,f (n,k) r=if(k==Bk)=bc then(cellOf env n>>=λc=>pure (Fb ((n,c)::r)))else pure (Fb r)):∀(names:List (Uq×Vf)) (cs:List (Uq×Up)),(∀y∈names,y.2=.free->∃c,env.cells.lookup y.1=ba c)->∃cl,forIn names cs f=(pure cl:Vg (List (Uq×Up)))/\(∀x c,cl.lookup x=ba c->cs.lookup x=ba c∨env.cells.lookup x=ba c)∧(∀x c,cs.lookup x=ba c->∃d,cl.lookup x=ba d)/\∀x,(x,Bk)∈names->∃c,cl.lookup x=ba c
 |[],cs,_=>⟨cs,rfl,λ_ _ e=>.inl e,λ_ c e=>⟨c,e⟩,λ_ h=>nomatch h⟩
 | (n,k) :: r,cs,h => by
  have o:∀y∈r,y.2=.free->∃c,env.cells.lookup y.1=ba c:=λy p=>h y (Ay _ p);by_cases i:k=.free;subst i;obtain⟨c,hc⟩:=h (n,.free) Bu rfl;have hc:env.cells.lookup n=ba c:=hc;obtain⟨cl,m,l,b,j⟩:=HK g r ((n,c)::cs) o;refine⟨cl,?_,λx d e=>?_,λx d e=>?_,λx a=>?_⟩;rw [Jx,g,if_pos (show (Bk == Bk) = bc by decide)];have t:cellOf env n=pure c:=by unfold cellOf;rw[hc]
  rw[t,pure_bind,pure_bind];exact m;rcases l x d e with q|q;by_cases a:x=n;subst a;rw[Dw]at q;cases q;exact .inr hc;rw[Bl,beq_eq_false_iff_ne.mpr a]at q;exact .inl q;exact .inr q;by_cases a:x=n;subst a;exact b x c (Dw ..);refine b x d ?_;rw[Bl,beq_eq_false_iff_ne.mpr a];exact e;rcases Bj.mp a with q|q;cases q;exact b n c (Dw ..);exact j x q;obtain⟨cl,m,l,b,j⟩:=HK g r cs o;refine⟨cl,?_,l,b,λx a=>?_⟩;have s : ¬ (k == Bk) = bc := by simpa using i
  rw[Jx,g,if_neg s,pure_bind];exact m;rcases Bj.mp a with q|q;cases q;exact absurd rfl i;exact j x q
def M3{env:Env}{scope:Vd}(h:∀y∈scope.names,y.2=.free->∃c,env.cells.lookup y.1=ba c):∃cl,closureFor scope env=pure cl/\(∀x c,cl.lookup x=ba c->env.cells.lookup x=ba c)/\∀x,(x,Bk)∈scope.names->∃c,cl.lookup x=ba c:=by
 simp only[closureFor];obtain⟨cl,b,g,_,d⟩:=HK (env:=env) (f:=λx r=>match x with
  |(name,a)=>if(a==Bk)=bc then(cellOf env name>>=λc=>pure (Fb ((name,c)::r)))else pure (Fb r)) (λ_ _ _=>rfl) scope.names [] h
 refine⟨cl,?_,λx c e=>?_,d⟩
 first
  |exact b
  |(refine Eq.trans (congrArg (λm=>m>>=pure) b) ?_;exact pure_bind _ _)
 rcases g x c e with q|q;cases q;exact q
def ZF(ix:List Nat)(a:St):St:=ix.map λi=>(a[i]?).join
def PTs(Y:Cx)(ifs:List Uv)(tt:TT):Prop:=
 ∀(b:List (Up×Vc)) (s:Ad) (a:St) (H:Hp) (Q:Bool->Hp->Prop),cI Y b a H s->tt a H Q->
  Ut (Uu Y.prog Y.w) Y.A (forIn ifs bc λc r=>if r=bc then do let ok<-isTrue c Y.env (eval c Y.env);pure (Fb ok)else pure (Fb r)) (TP Y b a Q) Y.xe s
def IS:TT:=λ_ H Q=>Q bc H
def M7{Y:Cx}:PTs Y [] IS:=λ_ _ _ H _ I h=>wpAny_tests_nil ⟨H,I,h⟩
def pV{Y:Cx}{c:Uv}{tt:TT}(h:PT Y c tt):PTs Y [c] tt:=λb s a H Q I hw=>wpAny_tests_one (h b s a H Q I hw)
structure Blk(Y:Cx)(tg:Uv)(ifs:List Uv)(elt:Uv)(g:TG)(tt:TT)(te:TE):Prop where
 tg:PG Y tg g
 ts:PTs Y ifs tt
 el:PE Y elt te
section
variable{X:Cx}{aa:List (Up×Vc)}{σ:St}{H H':Hp}{s s1 s':Ad}{h'':Uy}
def cI.offNew{a:St}{k:Hp}(d:cI X aa σ k s1)(j:cI X aa a H' s')(i:H' s1.heap.objs.size=bb)(g:∀b o,b≠s1.heap.objs.size->s'.heap.get? b=ba o->h''.get? b=ba o):cI X aa a H' {s' with heap:=h''}:=
 j.turned (t':=s'.toks) (it:=s1.heap.objs.size) g i (Je d.lt) (.inr d.sz)
  (λx c e z => by
   obtain⟨v,q⟩:=d.cell x c e;have:=q.lt;rw[z]at this;exact Di _ this)
  λp h z=>by
   have:=Aj (d.pin p h).1
   rw[z]at this;exact Di _ this
end
abbrev TM:=St->Hp->(St->Hp->Prop)->Prop
inductive JC(D:Up)(o0:HO)(ix:List Nat)(nl:Nat)(J:It)(g:TG)(tt:TT)(tm:Up->TM)(σ:St)(H0:Hp)(Q:Hp->Prop):Prop
 |mk (W:Nat->Nat->Hp->Prop) (m:Nat) (h0:W 0 m (upd H0 D o0)) (h1:∀i m H1,W i m H1->(J.stop i H1/\Q H1)∨
  (J.go i H1/\ ∃N:Hp->Prop,(∀H',N H'-> ∃m',m'<m/\W (i+1) m' H')∧
   ∀x H2,J.yld i H1 x H2->g x (ZF ix σ++Av nl bb) H2 λσ2 H3=>σ2.take ix.length=ZF ix σ∧
    tt σ2 H3 λb H4=>if b=bc then tm D σ2 H4 (λσ' H'=>σ'.take ix.length=ZF ix σ/\N H')else N H4)):JC D o0 ix nl J g tt tm σ H0 Q
def tmL(d:TE)(D:Up):TM:=λb H N=>d b H λv c=>∃a,c D=ba (.lst a)/\a.length<sizeLine/\N b (upd c D (.lst (a++[v])))
theorem QF{env:Env}{x:Uq}:∀{l:List (Uq×Vf)},l.lookup x=ba .free->(l.map λ(n,k)=>if(k==Bk&&env.scope.kind== .function&&env.kindOf n==ba .cell)then(n,Ce)else(n,k)).lookup x=ba .cell∨(l.map λ(n,k)=>if(k==Bk&&env.scope.kind== .function&&env.kindOf n==ba .cell)then(n,Ce)else(n,k)).lookup x=ba .free
 |[],h=>by cases h
 | (n,k) :: r,h => by
  show Dy x ((if(k==Bk&&env.scope.kind== .function&&env.kindOf n==ba .cell)=bc then(n,Ce)else(n,k))::_)=ba .cell∨Dy x ((if(k==Bk&&env.scope.kind== .function&&env.kindOf n==ba .cell)=bc then(n,Ce)else(n,k))::_)=ba .free;by_cases c:x=n;subst c;rw[Dw]at h;cases h;by_cases hc:(Bk==Bk&&env.scope.kind== .function&&env.kindOf x==ba .cell)=bc;left
  rw[if_pos hc,Dw];right
  rw[if_neg hc,Dw];have a:(x==n)=be:=beq_eq_false_iff_ne.mpr c;simp only[Bl,a]at h;have b:=QF (env:=env) h;by_cases hc:(k==Bk&&env.scope.kind== .function&&env.kindOf n==ba .cell)=bc;rw[if_pos hc];simp only[Bl,a];exact b;rw[if_neg hc];simp only[Bl,a];exact b
def IQ(ix:List Nat)(nl:Nat)(c:TI)(g:TG)(tt:TT)(tm:Up->TM):TE:=λa H Q=>c a H λJ b=>∀D,b D=bb->JC D (.lst []) ix nl J g tt tm a b λd=>Q (.ref D) d
abbrev Xl(ix:List Nat)(nl:Nat)(a:TI)(g:TG)(tt:TT)(b:TE):TE:=IQ ix nl a g tt (tmL b)
mutual
inductive Dp(K:Ag)(H:Hp):V->Nv->Prop
 |non:Dp K H .non .none
 |bl (b:Bool):Dp K H (.bl b) (.bool b)
 |int (i:Int):Dp K H (.int i) (.int i)
 |str (x:Uq):Dp K H (.str x) (.str x)
 |lst {a:Up}{xs:List V}{ds:List Nv}:W8 K H a xs->K8 K H xs ds->Dp K H (.ref a) (.list ds)
 |tup {a:Up}{xs:List V}{ds:List Nv}:UN K H a xs->K8 K H xs ds->Dp K H (.ref a) (.tuple ds)
inductive K8(K:Ag)(H:Hp):List V->List Nv->Prop
 |nil:K8 K H [] []
 |cons {v:V}{vs:List V}{d:Nv}{ds:List Nv}:Dp K H v d->K8 K H vs ds->K8 K H (v::vs) (d::ds)
end
section
variable{X:Cx}{aa:List (Up×Vc)}{σ:St}{H:Hp}{s:Ad}
mutual
theorem cI.reads(I:cI X aa σ H s):∀{v:V}{d:Nv}{u:Uo},Dp X.K H v d->b3 v u->∃as,Reads s.heap u d as
 |_,_,_,.non,r=>by cases r;exact⟨_,.none⟩
 |_,_,_,.bl b,r=>by cases r;exact⟨_,.bool b⟩
 |_,_,_,.int i,r=>by obtain⟨t,rfl⟩:=r;exact⟨_,.int i t⟩
 |_,_,_,.str x,r=>by obtain⟨t,rfl⟩:=r;exact⟨_,.str x t⟩
 |_,_,_,.lst q all,r=>by
  cases r;obtain⟨f,a,⟨o,n,e,c,_,d⟩,_⟩:=I.list q;obtain⟨as,h⟩:=cI.readsAll I all a;exact⟨_,.list e c d (by simpa using h)⟩
 |_,_,_,.tup q all,r=>by
  cases r;obtain⟨f,a,⟨o,e,c,n,d⟩,_⟩:=I.tuple q;obtain⟨as,h⟩:=cI.readsAll I all a;exact⟨_,.tuple e c d (by simpa using h)⟩
theorem cI.readsAll(I:cI X aa σ H s):∀{vs:List V}{ds:List Nv}{us:List Uo},K8 X.K H vs ds->bS vs us->∃as,ReadsAll s.heap us ds as
 |_,_,_,.nil,r=>by cases r;exact⟨_,.nil⟩
 | _,_,_,.cons h t,r => by
  cases r with
  |cons b a=>
   obtain⟨as,d⟩:=cI.reads I h b;obtain⟨bs,c⟩:=cI.readsAll I t a;exact⟨_,.cons d c⟩
end
end
def rEqD(K:Ag):R2:=λx y H Q=>∃d e,Dp K H x d/\Dp K H y e/\Ew d=bc/\Ew e=bc/\Q (.bl (Jr d e)) H
def rNeD(K:Ag):R2:=λx y H Q=>∃d e,Dp K H x d/\Dp K H y e/\Ew d=bc/\Ew e=bc/\Q (.bl (!PyData.eqv d e)) H
section
variable{X:Cx}
def jS(g:X.A.units+64<cLine):XR X (Cd .Eq) (rEqD X.K):=by intro o s m H x y v u Q I f c h;obtain⟨d,e,j,i,b,a,q⟩:=h;obtain⟨n,l⟩:=I.reads j f;obtain⟨bs,k⟩:=I.reads i c;exact eq_dataH l k b a g (LL I q rfl)
def tQ(g:X.A.units+64<cLine):XR X (Cd .NotEq) (rNeD X.K):=by intro o s m H x y v u Q I f c h;obtain⟨d,e,j,i,b,a,q⟩:=h;obtain⟨n,l⟩:=I.reads j f;obtain⟨bs,k⟩:=I.reads i c;exact ne_dataH l k b a g (LL I q rfl)
theorem QI:∀{us:List Uo}{ns:List Int},Ik us ns->bS (ns.map V.int) us
 |_,_,.nil=>.nil
 |_,_,.cons i t h=>.cons ⟨t,rfl⟩ (QI h)
inductive JE:List Ff->List (Uq×V)->Prop
 |nil:JE [] []
 |cons {e:Ff}{es:List Ff}{x:Uq}{t:Vi}{v:V}{D:List (Uq×V)}:e.key=.str x t->b3 v e.val->JE es D->JE (e::es) ((x,v)::D)
def KTab(K:Ag)(a:Up)(D:List (Uq×V)):Prop:=
 (a==Dv)=be/\∃o b c,K.lookup a=ba o/\o.ExactDict/\o.data=.dict b c/\JE b.toList D
def JE.rows{es:List Ff}{D:List (Uq×V)}(h:JE es D):KTD.Rows b3 es D:=by
 induction h with
 |nil=>exact .nil
 |cons c b _ a=>exact .cons c b a
def L7{A:Bp}{E:Uo->Ad->Prop}{s:Ad}{K:Ag}{prog:Ao}{w:Uw}{a:Up}{D:List (Uq×V)}{k:Uq}{tk:Vi}{Q:Option Uo->Ad->Prop}(t:K.In s.heap)(T:KTab K a D)(x:∀d v,Eb k D=ba d->b3 d v->Q (ba v) {s with toks:=s.toks+1})(u:Eb k D=bb->Q bb {s with toks:=s.toks+1}):Ut (Uu prog w) A (Tn a (.str k tk)) Q E s:=by
 obtain⟨_,o,f,y,j,hc,p,g⟩:=T;have j:=t _ _ j;have g:=g.rows;unfold Tn;try with_reducible refine Bf ?_
 refine Ab (wpAny_pyHash_str (Ab (KTD.kt_dictFind_strs (s:={s with toks:=s.toks+1}) j p (by obtain⟨l⟩:=f;simpa using g.exact) ?_)));have h:Q (findBy (λk v=>v.isStr k) f k) {s with toks:=s.toks+1}:=by
  have r:findBy (λk v=>v.isStr k) f k=(f.toList.find? λe=>e.key.isStr k).map (·.val):=by obtain⟨l⟩:=f;simp[findBy]
  rw[r];cases c:Eb k D with
  |some d=>obtain⟨v,q,m⟩:=g.find_some c;rw[q];exact x d v c m
  |none=>rw[g.find_none c];exact u c
 rw[findBy_of_findIdx?]at h;cases n:f.findIdx? λe=>e.key.isStr k with
 |none=>rw[n]at h;exact Af h
 |some i=>rw[n]at h;exact Ab (Iz (s:={s with toks:=s.toks+1}) j p (Af h))
def jD:IxR X (λx y H Q=>∃a k D v,x=.ref a/\y=.str k/\KTab X.K a D/\Eb k D=ba v/\Q v H):=by
 intro value e B s j H x y v u Q I n m h r;obtain⟨a,k,D,d,rfl,rfl,T,g,q⟩:=h;cases n;obtain⟨t,rfl⟩:=m;have c:s.TypeIs (.ref a) "dict":=by obtain⟨_,o,C,E,z,hc,_⟩:=T;exact⟨o,I.kIn _ _ z,hc.1⟩
 have b:Ut (Uu X.prog X.w) X.A (Lr (.ref a) (.str k t)) (EP X B j Q) X.xe s:=by
  unfold Lr;try with_reducible refine Bf ?_
  refine Ab (Lc c (by decide) ?_);refine Ab (Ci (name:=Ef "__getitem__") c Kr
   (Cf Kr c PySem.F.entry_dict_getitem ?_ (PySem.F.args_dict_getitem_2 _ _)))
  show Ut _ _ (Tn a (.str k t)>>=_) _ _ s;exact Ab (L7 I.kIn T (λG l i p=>Af ⟨l,rfl,Af (by rw[g]at i;cases i;exact⟨d,H,I.tok _,p,q⟩)⟩) λf=>by rw[g]at f;cases f)
 exact Tk c PySem.F.slot_dict_getitem.lookup b r
end
section
variable{prog:Ao}{w:Uw}{A:Bp}{E:Uo->Ad->Prop}{s:Ad}
theorem JQ{it t:Up}{items:Array Uo}(g:t≠it):∀(n i:Nat) (s:Ad) (Q:List Uo->Ad->Prop),s.heap.IsListIter it t i->s.heap.IsList t items->i+n<=items.size->(∀h',h'.IsListIter it t (i+n)->Ek it s.heap h'->Q ((items.toList.drop i).take n) {s with heap:=h'})->Ut (Uu prog w) A (draw (.ref it) n) Q E s
 |0,i,s,Q,e,_,_,j=>by show Ut _ _ (pure []) Q E s;exact Af (by simpa using j s.heap e (Heap.SameBut.refl ..))
 |n+1,i,s,Q,e,l,o,j=>by
  have h:i<items.size:=by lia
  show Ut _ _ (pyNext (.ref it)>>=_) Q E s;refine Ab (Ir e l (x:=items[i]) (by simp[h]) λk c a=>?_);refine Ab (Bf (JQ g n (i+1) _ _ c (l.extBut a.extBut g) (by lia) λf b d=>Af ?_));have p:items.toList.drop i=items[i]::items.toList.drop (i+1):=by simp[Cv,h]
  have:=j f (by rw[show i+(n+1)=i+1+n by lia];exact b) (a.trans d)
  rw[p,List.take_succ_cons]at this;exact this
def OX{t:Up}{items:Array Uo}{Q:List Uo->Ad->Prop}(q:A.handled=bb)(k:s.heap.IsList t items)(u:∀h',Ja s.heap.objs.size s.heap h'->Q items.toList {s with heap:=h'}):Ut (Uu prog w) A (Lp (.ref t) items.size bb) Q E s:=by
 have j:t≠s.heap.objs.size:=by obtain⟨o,l,_⟩:=k;exact Ap (Aj l)
 unfold Lp;refine Ab ?_;unfold notIterableAtAll;refine Ab (Ms k.typeIs PySem.F.slot_list_iter.lookup ?_);refine Af ?_;simp only[Eo,if_false];refine Ab (Bf (Fs k ?_));have i:(s.heap.push {cls:=.type "list_iterator",data:=.fields #[.ref t,.int 0 0]}).IsList t items:=by obtain⟨o,l,r⟩:=k;exact⟨o,Ac _ l,r⟩
 refine Ab (Bf (JQ j items.size 0 _ _ ⟨_,Al _ rfl,rfl,rfl⟩ i (by lia) λh c a=>?_));have p:List.take items.size (List.drop 0 items.toList)=items.toList:=by rw[Sr];exact Fc (by simp)
 rw[p];rw[if_neg (by simp)];have d:h.IsList t items:=i.extBut a.extBut j;refine Ab (Bf (Jf q c d (by simp) λg f=>?_));simp only[Option.isSome_none,Eo,if_false];refine Af (u g λb o n e=>f b o n (a.extBut b o n (Ac _ e)))
def PC{env:Env}{a:List Uv}{x1}{pos:Pos}{t:Up}{items:Array Uo}{Q:Unit->Ad->Prop}(f:A.handled=bb)(d:s.heap.IsList t items)(e:(Uz a env).length=items.size)(c:(Uz a env).findIdx? (·.1)=bb)(h:∀h',Ja s.heap.objs.size s.heap h'->Ut (Uu prog w) A (assignInOrder ((Uz a env).map (·.2)) items.toList) Q E {s with heap:=h'}):Ut (Uu prog w) A (Hh (.Tuple a x1 pos) env (.ref t)) Q E s:=by rw[assign_Tuple];refine Ab (Ds ?_);unfold unpack;rw[e,c];exact Ab (Bf (OX f d h))
end
section
variable{X:Cx}{pos:Pos}
def gLst(K:Ag)(n:Nat)(t:TGs):TG:=λv c H Q=>∃a b,v=.ref a/\W8 K H a b/\b.length=n/\t b c H Q
def uM{es:List Uv}{k:Nat}{t:TGs}{n:Nat}(hc:X.calm=bc)(h:BA X es t)(w:(Uz es X.env).length=n:=by rfl)(c:(Uz es X.env).findIdx? (·.1)=bb:=by rfl):PG X (.Tuple es k pos) (gLst X.K n t):=by intro i s d H v u Q I r hw;obtain⟨a,j,y,q,hl,hw⟩:=hw;subst y;cases r;obtain⟨l,f,p,A⟩:=I.list q;refine PC (I.ok.hd hc) p.isList (by simp[w,<-hl,f.length]) c λx m=>?_;have z:cI X i d H {s with heap:=x}:=I.kept (t':=s.toks) λb o e=>m b o (Ap (Aj e)) e;exact h i _ d H j _ Q z (by simpa using f) hw
end
section
variable{X:Cx}{K:Ag}
def rR(h:X.K=K:=by rfl):aV X (.type "list") (λa H Q=>∃p ys,a=[.ref p]/\(W8 K H p ys∨UN K H p ys)/\∀l,H l=bb->Q (.ref l) (upd H l (.lst ys))):=by subst h;exact HJ
def kEqD(a:X.A.units+64<cLine)(h:X.K=K:=by rfl):XR X (Cd .Eq) (rEqD K):=by subst h;exact jS a
def U7(a:X.A.units+64<cLine)(h:X.K=K:=by rfl):XR X (Cd .NotEq) (rNeD K):=by subst h;exact tQ a
def uu(h:X.K=K){es:List Uv}{k:Nat}{t:TGs}{n:Nat}{pos:Pos}(hc:X.calm=bc)(c:BA X es t)(b:(Uz es X.env).length=n:=by rfl)(a:(Uz es X.env).findIdx? (·.1)=bb:=by rfl):PG X (.Tuple es k pos) (gTup K n t):=by subst h;exact Yd hc c b a
def uN(h:X.K=K){es:List Uv}{k:Nat}{t:TGs}{n:Nat}{pos:Pos}(hc:X.calm=bc)(c:BA X es t)(b:(Uz es X.env).length=n:=by rfl)(a:(Uz es X.env).findIdx? (·.1)=bb:=by rfl):PG X (.Tuple es k pos) (gLst K n t):=by subst h;exact uM hc c b a
def iJ(h:X.K=K){tg l:Uv}{a:TE}(hl:PE X l a):PI X tg l (Zr K a):=by subst h;exact pD hl
def pS(h:X.K=K){tg l:Uv}{a:TE}(hl:PE X l a):PI X tg l (iTup K a):=by subst h;exact Wr hl
def kBm(h:X.K=K:=by rfl){o e:Uv}{es:List Uv}{to:TE}{t:TA}{name:Uq}{c a:Pos}{T id:String}{r:V->List V->Hp->VK->Prop}(d:PlainAttrs T)(slot:Slot T name id)(b:Nt (.builtin id)=pure (.type "method_descriptor"))(g:MtR X id r)(f:PE X o to)(i:PA X (e::es) t)(k:Ca o name X.env (eval o X.env)=eval o X.env:=by rfl)(j:((Co a (Us (e::es) X.env)).all (λx=> !x.1)&&(Ej a (Ck [] X.env)).all (λx=>x.1.isSome)&&decide ((e::es).length+([]:List Gr).length+(if([]:List Gr).isEmpty then 0 else 1)<30))=bc:=by rfl)(l:(c.endLine==a.line)=bc:=by rfl)(hs:Us (e::es) X.env=(be,eval e X.env)::Us es X.env:=by rfl)(m:(Co a (Us es X.env)).any (·.1)=be:=by rfl):PE X (.Call (.Attribute o name c) (e::es) [] a) (tBM K T r to t):=by subst h;exact Zk d slot b g f i k j l hs m
end
def DE:Bm "len"=ba (.builtin "len"):=by decide+kernel
def jR:Bm "min"=ba (.builtin "min"):=by decide+kernel
def OE:Bm "sorted"=ba (.builtin "sorted"):=by decide+kernel
def b8:Bm "isinstance"=ba (.builtin "isinstance"):=by decide+kernel
def YY:Bm "list"=ba (.type "list"):=by decide+kernel
def V1:Bm "tuple"=ba (.type "tuple"):=by decide+kernel
def pM:Bm "bool"=ba (.type "bool"):=by decide+kernel
def eP:Bm "int"=ba (.type "int"):=by decide+kernel
def Xp:Bm "str"=ba (.type "str"):=by decide+kernel
structure Def(P:Ao)(w:Uw)(K:Ag)(mg:Uq->Option Uo)(base:Uy)(x:Uq)(k:Nat)(ps:List Uq)(sp:Sp)(f:Up):Prop where
 at_:mg x=ba (.ref f)
 ok:∃fd,bZ P w K mg base CX0 k f fd ps sp/\YZ K fd ps []
 kp:Fh K (.ref f)=bc
section
variable{X:Cx}{x:Uq}{k j:Nat}{ps:List Uq}{sp:Sp}{f:Up}{p pos:Pos}{e:Uv}{es:List Uv}{t:TA}
def F8(D:Def X.prog X.w X.K X.mg X.base x k ps sp f)(c:aT j X.A)(d:k<=j)(g:Gl X x)(i:PA X (e::es) t)(b:(x==("__debug__":Uq))=be:=by decide)(h:Us (e::es) X.env=(be,eval e X.env)::Us es X.env:=by rfl)(a:(Co pos (Us es X.env)).any (·.1)=be:=by rfl):PE X (.Call (.Name x p) (e::es) [] pos) (GP sp [] E0 t):=by obtain⟨l,F,B⟩:=D.ok;exact dO F (c.mono d) g D.at_ D.kp B .nil CC i b h a
end
def cR{H:Hp}{p:Up}{o:HO}(a:H p=bb):bI H (upd H p o):=λb c e=>by rw[cL (aU e a)];exact e
def GN(ns:List Int):Ew (.list (ns.map Qb))=bc:=by
 have b:Ks (.list (ns.map Qb))=bc:=by simp only[Ks,canLayAll_ints]
 have a:Mt (.list (ns.map Qb))<=64:=by simp only[Mt,depthAll_ints];decide
 unfold Ew;rw[b,decide_eq_true a];rfl
abbrev SE(X:Cx)(a:Uv)(es:List Uv):Prop:=Us (a::es) X.env=(be,eval a X.env)::Us es X.env
abbrev ND(x:Uq):Prop:=(x==("__debug__":Uq))=be
abbrev LO(X:Cx)(x:Uq):Prop:=X.fn x=bc∨X.env.scope.names.lookup x=ba .local
abbrev Ky:=Z2
inductive cZ where
 |non|bl (b:Bool)|int (i:Int)|str (x:Uq)|ty (n:String)|fn (x:Uq)|tup (ds:List cZ)|lst (ds:List cZ)|dct (ks:List Z2) (ds:List cZ)|exn (x:Uq)|exr (x n:Uq) (d:cZ)|dcn (ks:List (List Ky)) (ds:List cZ)|shp (x:Uq) (ns:List Uq) (g:Option (Uq×Option Up)) (ds:List cZ)
def FzL(K:Ag)(H:Hp)(a:Up)(xs:List V):Prop:=
 (∃o,H a=ba (.frz o (.lst xs)))∨
  ∃(o:Vc) (b:Array Uo) (n:Nat),K.lookup a=ba o/\o.cls=.type "list" /\o.dict=bb/\o.data=.seq b n/\b.size<=sizeLine/\bS xs b.toList
def FzL.sq{K:Ag}{H:Hp}{a:Up}{xs:List V}(h:FzL K H a xs):W8 K H a xs:=by
 rcases h with⟨o,h⟩|h;exact .inl (.inr ⟨o,h⟩);exact .inr h
def A8(h:Uy)(a C:Up):Prop:=∃o b,h.get? a=ba o/\o.cls=.ref C/\o.data=.fields b
def Yj(h:Uy)(a C D:Up):Prop:=∃o b,h.get? a=ba o/\o.cls=.ref C/\o.data=.fields b/\o.dict=ba D
inductive X5(K:Ag)(H:Hp)(a:Up)(x:Uq):List Uq->Option (Uq×Option Up)->List V->Prop
 |ins {C dx:Up}{fs:List (Uq×V)}:Cq K Ur x=ba (ba (.ref C))->H a=ba (.ins C dx fs)->X5 K H a x (fs.map Br) bb (fs.map By)
 |shp {C dx p:Up}{fs:List (Uq×V)}{g:Uq}{pp:Option Up}{xs:List V}:Cq K Ur x=ba (ba (.ref C))->H a=ba (.shp C dx fs g p xs)->(∀q,pp=ba q->q=p)->X5 K H a x (fs.map Br) (ba (g,pp)) (fs.map By++xs)
def X5.kept{K:Ag}{H b:Hp}{a:Up}{x:Uq}{ns:List Uq}{g:Option (Uq×Option Up)}{vs:List V}(h:X5 K H a x ns g vs)(k:∀o,H a=ba o->b a=ba o):X5 K b a x ns g vs:=by
 cases h with
 |ins q e=>exact .ins q (k _ e)
 |shp q e z=>exact .shp q (k _ e) z
mutual
inductive bV(K:Ag)(N:Up->Prop)(H:Hp):(Up->Prop)->V->cZ->Prop
 |non {M:Up->Prop}:bV K N H M .non .non
 |bl {M:Up->Prop}(b:Bool):bV K N H M (.bl b) (.bl b)
 |int {M:Up->Prop}(i:Int):bV K N H M (.int i) (.int i)
 |str {M:Up->Prop}(x:Uq):bV K N H M (.str x) (.str x)
 |ty {M:Up->Prop}(n:String):bV K N H M (.ty n) (.ty n)
 |fn {M:Up->Prop}{a:Up}{x:Uq}:Cq K Ur x=ba (ba (.ref a))->bV K N H M (.ref a) (.fn x)
 |tup {M:Up->Prop}{a:Up}{xs:List V}{ds:List cZ}:UN K H a xs->cG K N H xs ds->bV K N H M (.ref a) (.tup ds)
 |lst {M:Up->Prop}{a:Up}{xs:List V}{ds:List cZ}:H a=ba (.lst xs)->¬M a->cG K N H xs ds->bV K N H M (.ref a) (.lst ds)
 |fzl {M:Up->Prop}{a:Up}{xs:List V}{ds:List cZ}:FzL K H a xs->cG K N H xs ds->bV K N H M (.ref a) (.lst ds)
 |dct {M:Up->Prop}{a:Up}{kvs:List (Z2×V)}{ds:List cZ}:H a=ba (.dK kvs)->¬M a->cG K N H (kvs.map By) ds->bV K N H M (.ref a) (.dct (kvs.map Br) ds)
 |ktb {M:Up->Prop}{a:Up}{D:List (Uq×V)}{ds:List cZ}:KTab K a D->cG K N H (D.map By) ds->bV K N H M (.ref a) (.dct (D.map λp=>.inr p.1) ds)
 |exn {M:Up->Prop}{a C:Up}{x:Uq}{φ:Uy->Prop}:Cq K Ur x=ba (ba (.ref C))->H a=ba (.ext φ)->(∀h,φ h->A8 h a C)->bV K N H M (.ref a) (.exn x)
 |exr {M:Up->Prop}{a C D:Up}{x n:Uq}{φ:Uy->Prop}{v:V}{d:cZ}:Cq K Ur x=ba (ba (.ref C))->H a=ba (.ext φ)->(∀h,φ h->Yj h a C D)->H D=ba (.xd [(n,v)])->bV K N H N v d->bV K N H M (.ref a) (.exr x n d)
 |dcn {M:Up->Prop}{a:Up}{kvs:List (List Ky×V)}{ds:List cZ}:H a=ba (.dT kvs)->¬M a->cG K N H (kvs.map By) ds->bV K N H M (.ref a) (.dcn (kvs.map Br) ds)
 |shp {M:Up->Prop}{a:Up}{x:Uq}{ns:List Uq}{g:Option (Uq×Option Up)}{vs:List V}{ds:List cZ}:X5 K H a x ns g vs->¬M a->cG K N H vs ds->bV K N H M (.ref a) (.shp x ns g ds)
inductive cG(K:Ag)(N:Up->Prop)(H:Hp):List V->List cZ->Prop
 |nil:cG K N H [] []
 |cons {v:V}{vs:List V}{d:cZ}{ds:List cZ}:bV K N H N v d->cG K N H vs ds->cG K N H (v::vs) (d::ds)
end
inductive RepL(K:Ag)(N:Up->Prop)(H:Hp)(M:Up->Prop)(ds:List cZ):V->Prop
 |lst {a:Up}{xs:List V}:H a=ba (.lst xs)->¬M a->cG K N H xs ds->RepL K N H M ds (.ref a)
 |fzl {a:Up}{xs:List V}:FzL K H a xs->cG K N H xs ds->RepL K N H M ds (.ref a)
inductive RepT(K:Ag)(N:Up->Prop)(H:Hp)(ds:List cZ):V->Prop
 |tup {a:Up}{xs:List V}:UN K H a xs->cG K N H xs ds->RepT K N H ds (.ref a)
inductive RepD(K:Ag)(N:Up->Prop)(H:Hp)(M:Up->Prop)(ks:List Z2)(ds:List cZ):V->Prop
 |dct {a:Up}{kvs:List (Z2×V)}:H a=ba (.dK kvs)->¬M a->cG K N H (kvs.map By) ds->ks=kvs.map Br->RepD K N H M ks ds (.ref a)
 |ktb {a:Up}{D:List (Uq×V)}:KTab K a D->cG K N H (D.map By) ds->ks=D.map (λp=>.inr p.1)->RepD K N H M ks ds (.ref a)
def RepI(K:Ag)(N:Up->Prop)(H:Hp)(M:Up->Prop)(v:V):cZ->Prop
 |.non=>v=.non
 |.bl b=>v=.bl b
 |.int i=>v=.int i
 |.str x=>v=.str x
 |.ty n=>v=.ty n
 |.fn x=>∃a,v=.ref a/\Cq K Ur x=ba (ba (.ref a))
 |.tup c=>RepT K N H c v
 |.lst c=>RepL K N H M c v
 |.dct ks c=>RepD K N H M ks c v
 |_=>True
section
variable{K:Ag}{N:Up->Prop}{H:Hp}{M:Up->Prop}{v:V}{d:cZ}{ds:List cZ}
def bV.inv(h:bV K N H M v d):RepI K N H M v d:=by
 cases h with
 |fn q=>exact⟨_,rfl,q⟩
 |tup q r=>exact .tup q r
 |lst q n r=>exact .lst q n r
 |fzl q r=>exact .fzl q r
 |dct q n r=>exact .dct q n r rfl
 |ktb q r=>exact .ktb q r rfl
 |dcn _ _ _=>trivial
 |shp _ _ _=>trivial
 |exn _ _ _=>trivial
 |exr _ _ _ _ _=>trivial
 |_=>rfl
def bV.onI{i:Int}(h:bV K N H M v (.int i)):v=.int i:=h.inv
def bV.onB{i:Bool}(h:bV K N H M v (.bl i)):v=.bl i:=h.inv
def bV.onS{i:Uq}(h:bV K N H M v (.str i)):v=.str i:=h.inv
def bV.onN(h:bV K N H M v .non):v=.non:=h.inv
def bV.onL(h:bV K N H M v (.lst ds)):RepL K N H M ds v:=h.inv
def bV.onT(h:bV K N H M v (.tup ds)):RepT K N H ds v:=h.inv
def bV.onD{ks:List Z2}(h:bV K N H M v (.dct ks ds)):RepD K N H M ks ds v:=h.inv
end
def DA:HO->Prop
 |.tup _=>True
 |.frz _ _=>True
 |.ext _=>True
 |.xd _=>True
 |_=>False
def X5.soft{K:Ag}{H:Hp}{a:Up}{x:Uq}{ns:List Uq}{g:Option (Uq×Option Up)}{vs:List V}(h:X5 K H a x ns g vs):∃o,H a=ba o/\¬DA o:=by
 cases h with
 |ins _ e=>exact⟨_,e,λz=>z⟩
 |shp _ e _=>exact⟨_,e,λz=>z⟩
def X5.there{K:Ag}{H:Hp}{a:Up}{x:Uq}{ns:List Uq}{g:Option (Uq×Option Up)}{vs:List V}(h:X5 K H a x ns g vs):∃o,H a=ba o:=let ⟨o,e,_⟩:=h.soft;⟨o,e⟩
def Fr(P:Up->Prop)(H a:Hp):Prop:=∀b o,H b=ba o->(P b->DA o)->a b=ba o
def Fr.refl(P:Up->Prop)(H:Hp):Fr P H H:=λ_ _ h _=>h
def Fr.trans{P:Up->Prop}{H e d:Hp}(a:Fr P H e)(b:Fr P e d):Fr P H d:=λc o h n=>b c o (a c o h n) n
def Fr.mono{P P':Up->Prop}{H d:Hp}(a:Fr P H d)(h:∀b,P b->P' b):Fr P' H d:=λc o e n=>a c o e λz=>n (h c z)
def bI.fr{P:Up->Prop}{H b:Hp}(a:bI H b):Fr P H b:=λc o h _=>a c o h
def Fr.same{H b:Hp}(a:Fr (λ_=>False) H b):bI H b:=λc o h=>a c o h λz=>z.elim
section
variable{K:Ag}{N N' M M' P:Up->Prop}{H H':Hp}
section
variable{vs:List V}{ds:List cZ}
def Fr.tup(f:Fr P H H'){a:Up}{xs:List V}(h:UN K H a xs):UN K H' a xs:=by
 rcases h with h|h;exact .inl (f _ _ h λ_=>trivial);exact .inr h
def Fr.fzl(f:Fr P H H'){a:Up}{xs:List V}(h:FzL K H a xs):FzL K H' a xs:=by
 rcases h with⟨o,h⟩|h;exact .inl ⟨o,f _ _ h λ_=>trivial⟩;exact .inr h
def bV.fr(f:Fr P H H')(g:∀a,P a->N a){M:Up->Prop}{v:V}{d:cZ}(c:∀a,P a->M a)(h:bV K N H M v d):bV K N H' M v d:=
 bV.rec (motive_1:=λM v d _=>(∀a,P a->M a)->bV K N H' M v d) (motive_2:=λj k _=>cG K N H' j k) (λ_=>.non) (λb _=>.bl b) (λi _=>.int i) (λx _=>.str x) (λn _=>.ty n) (λq _=>.fn q) (λq _ r _=>.tup (f.tup q) r)
  (λq n _ r c=>.lst (f _ _ q λz=>absurd (c _ z) n) n r) (λq _ r _=>.fzl (f.fzl q) r) (λq n _ r c=>.dct (f _ _ q λz=>absurd (c _ z) n) n r) (λq _ r _=>.ktb q r) (λp q r _=>.exn p (f _ _ q λ_=>trivial) r)
  (λp q r s _ t _=>.exr p (f _ _ q λ_=>trivial) r (f _ _ s λ_=>trivial) (t g)) (λq n _ r c=>.dcn (f _ _ q λz=>absurd (c _ z) n) n r) (λq n _ r c=>.shp (q.kept λo e=>f _ _ e λz=>absurd (c _ z) n) n r) .nil (λ_ _ a b=>.cons (a g) b) h c
def cG.map{c:Ag}{N':Up->Prop}{H':Hp}(g:∀{v d},bV K N H N v d->bV c N' H' N' v d):∀{vs:List V}{ds:List cZ},cG K N H vs ds->cG c N' H' vs ds:=by
 intro vs;induction vs with
 |nil=>intro ds h;cases h;exact .nil
 |cons v vs e=>intro ds h;cases h with|cons a b=>exact .cons (g a) (e b)
def cG.fr(f:Fr P H H')(b:∀a,P a->N a)(h:cG K N H vs ds):cG K N H' vs ds:=h.map λr=>r.fr f b b
def bV.mono(e:∀a,N' a->N a){M M':Up->Prop}{v:V}{d:cZ}(c:∀a,M' a->M a)(h:bV K N H M v d):bV K N' H M' v d:=
 bV.rec (motive_1:=λM v d _=>∀M',(∀a,M' a->M a)->bV K N' H M' v d) (motive_2:=λf g _=>cG K N' H f g) (λ_ _=>.non) (λb _ _=>.bl b) (λi _ _=>.int i) (λx _ _=>.str x) (λn _ _=>.ty n) (λq _ _=>.fn q) (λq _ r _ _=>.tup q r)
  (λq n _ r _ c=>.lst q (λz=>n (c _ z)) r) (λq _ r _ _=>.fzl q r) (λq n _ r _ c=>.dct q (λz=>n (c _ z)) r) (λq _ r _ _=>.ktb q r) (λp q r _ _=>.exn p q r) (λp q r s _ t _ _=>.exr p q r s (t _ e)) (λq n _ r _ c=>.dcn q (λz=>n (c _ z)) r) (λq n _ r _ c=>.shp q (λz=>n (c _ z)) r) .nil (λ_ _ a b=>.cons (a _ e) b) h M' c
def cG.mono(b:∀a,N' a->N a)(h:cG K N H vs ds):cG K N' H vs ds:=h.map λr=>r.mono b b
def bV.same(f:bI H H'){v:V}{d:cZ}(h:bV K N H M v d):bV K N H' M v d:=h.fr f.fr (λ_ z=>z.elim) (P:=λ_=>False) λ_ z=>z.elim
def cG.same(f:bI H H')(h:cG K N H vs ds):cG K N H' vs ds:=h.fr f.fr (P:=λ_=>False) λ_ z=>z.elim
theorem cG.length:∀{vs:List V}{ds:List cZ},cG K N H vs ds->vs.length=ds.length
 |_,_,.nil=>rfl
 |_,_,.cons _ t=>congrArg (· +1) (cG.length t)
theorem cG.append:∀{vs a:List V}{ds es:List cZ},cG K N H vs ds->cG K N H a es->cG K N H (vs++a) (ds++es)
 |_,_,_,_,.nil,s=>s
 |_,_,_,_,.cons h t,s=>.cons h (cG.append t s)
theorem cG.get:∀{vs:List V}{ds:List cZ}{i:Nat}{d:cZ},cG K N H vs ds->ds[i]?=ba d->∃v,vs[i]?=ba v/\bV K N H N v d
 |_,_,_,_,.nil,e=>by simp at e
 |_,_,0,_,.cons r _,e=>by simp at e;subst e;exact⟨_,rfl,r⟩
 |_,_,i+1,x,.cons _ t,e=>by obtain⟨u,b,a⟩:=cG.get (i:=i) (d:=x) t (by simpa using e);exact⟨u,by simpa using b,a⟩
theorem cG.take:∀{vs:List V}{ds:List cZ}(n:Nat),cG K N H vs ds->cG K N H (vs.take n) (ds.take n)
 |_,_,0,_=>.nil
 |_,_,_+1,.nil=>.nil
 |_,_,n+1,.cons r t=>.cons r (cG.take n t)
theorem cG.drop:∀{vs:List V}{ds:List cZ}(n:Nat),cG K N H vs ds->cG K N H (vs.drop n) (ds.drop n)
 |_,_,0,r=>r
 |_,_,_+1,.nil=>.nil
 |_,_,n+1,.cons _ t=>cG.drop n t
def cG.snoc{v:V}{d:cZ}(r:cG K N H vs ds)(h:bV K N H N v d):cG K N H (vs++[v]) (ds++[d]):=r.append (.cons h .nil)
def cG.of(hl:vs.length=ds.length)(h:∀(i:Nat) v d,vs[i]?=ba v->ds[i]?=ba d->bV K N H N v d):cG K N H vs ds:=by
 induction vs generalizing ds with
 |nil=>cases ds with
  |nil=>exact .nil
  |cons=>cases hl
 |cons v vs a=>cases ds with
  |nil=>cases hl
  |cons d ds=>exact .cons (h 0 v d rfl rfl) (a (by simpa using hl) λi v d c b=>h (i+1) v d (by simpa using c) (by simpa using b))
end
end
mutual
def cZ.isD:cZ->Bool
 |.non=>bc
 |.bl _=>bc
 |.int _=>bc
 |.str _=>bc
 |.ty _=>be
 |.fn _=>be
 |.tup ds=>isDs ds
 |.lst ds=>isDs ds
 |.dct _ _=>be
 |.exn _=>be
 |.exr _ _ _=>be
 |.dcn _ _=>be
 |.shp _ _ _ _=>be
def isDs:List cZ->Bool
 |[]=>bc
 |d::a=>d.isD&&isDs a
end
mutual
def cZ.pd:cZ->Nv
 |.non=>.none
 |.bl b=>.bool b
 |.int i=>.int i
 |.str x=>.str x
 |.ty _=>.none
 |.fn _=>.none
 |.tup ds=>.tuple (pds ds)
 |.lst ds=>.list (pds ds)
 |.dct _ _=>.none
 |.exn _=>.none
 |.exr _ _ _=>.none
 |.dcn _ _=>.none
 |.shp _ _ _ _=>.none
def pds:List cZ->List Nv
 |[]=>[]
 |d::a=>d.pd::pds a
end
mutual
def cZ.hard:cZ->Bool
 |.tup ds=>P2 ds
 |.lst _=>be
 |.dct _ _=>be
 |.exr _ _ _=>be
 |.dcn _ _=>be
 |.shp _ _ _ _=>be
 |_=>bc
def P2:List cZ->Bool
 |[]=>bc
 |d::a=>d.hard&&P2 a
end
section
variable{K:Ag}{N:Up->Prop}{H:Hp}
def bV.dp{M:Up->Prop}{v:V}{d:cZ}(h:bV K N H M v d)(e:d.isD=bc):Dp K H v d.pd:=
 bV.rec (motive_1:=λM v d _=>d.isD=bc->Dp K H v d.pd) (motive_2:=λf c _=>isDs c=bc->K8 K H f (pds c)) (λ_=>.non) (λb _=>.bl b) (λi _=>.int i) (λx _=>.str x) (λ_ h=>nomatch h) (λ_ h=>nomatch h) (λq _ r h=>.tup q (r h))
  (λq _ _ r h=>.lst (W8.of q) (r h)) (λq _ r h=>.lst q.sq (r h)) (λ_ _ _ _ h=>nomatch h) (λ_ _ _ h=>nomatch h) (λ_ _ _ h=>nomatch h) (λ_ _ _ _ _ _ h=>nomatch h) (λ_ _ _ _ h=>nomatch h) (λ_ _ _ _ h=>nomatch h) (λ_=>.nil) (λ_ _ a b e=>.cons (a (Dn.mp e).1) (b (Dn.mp e).2)) h e
def bV.hard{N':Up->Prop}{M c:Up->Prop}{v:V}{d:cZ}(h:bV K N H M v d)(e:d.hard=bc):bV K N' H c v d:=
 bV.rec (motive_1:=λM v d _=>∀c,d.hard=bc->bV K N' H c v d) (motive_2:=λg f _=>P2 f=bc->cG K N' H g f) (λ_ _=>.non) (λb _ _=>.bl b) (λi _ _=>.int i) (λx _ _=>.str x) (λn _ _=>.ty n) (λq _ _=>.fn q) (λq _ r _ h=>.tup q (r h))
  (λ_ _ _ _ _ h=>nomatch h) (λ_ _ _ _ h=>nomatch h) (λ_ _ _ _ _ h=>nomatch h) (λ_ _ _ _ h=>nomatch h) (λp q r _ _=>.exn p q r) (λ_ _ _ _ _ _ _ h=>nomatch h) (λ_ _ _ _ _ h=>nomatch h) (λ_ _ _ _ _ h=>nomatch h) (λ_=>.nil) (λ_ _ a b e=>.cons (a _ (Dn.mp e).1) (b (Dn.mp e).2)) h c e
def cG.hard{N':Up->Prop}:∀{vs:List V}{ds:List cZ},cG K N H vs ds->P2 ds=bc->cG K N' H vs ds:=by
 intro vs;induction vs with
 |nil=>intro ds h _;cases h;exact .nil
 |cons v vs c=>intro ds h e;cases h with|cons a b=>exact .cons (a.hard (Dn.mp e).1) (c b (Dn.mp e).2)
end
inductive Sl where
 |no|va (d:cZ)|ow (d:cZ)
abbrev Ev:=List Sl
structure Bs where
 Z:Up->Prop
 P:Up->Prop
 H0:Hp
 mu:Nat->Option Up
 kp:List (V×cZ)
def Nn(B:Bs)(O:Nat->Option Up):Up->Prop:=λa=>B.Z a∨∃i,O i=ba a
def OA(O:Nat->Option Up):Up->Prop:=λa=>∃i,O i=ba a
inductive RM(K:Ag)(N:Up->Prop)(H:Hp)(a:Up):cZ->Prop
 |lst {xs:List V}{ds:List cZ}:H a=ba (.lst xs)->cG K N H xs ds->RM K N H a (.lst ds)
 |dct {kvs:List (Z2×V)}{ds:List cZ}:H a=ba (.dK kvs)->cG K N H (kvs.map By) ds->RM K N H a (.dct (kvs.map Br) ds)
 |dcn {kvs:List (List Ky×V)}{ds:List cZ}:H a=ba (.dT kvs)->cG K N H (kvs.map By) ds->RM K N H a (.dcn (kvs.map Br) ds)
 |shp {x:Uq}{ns:List Uq}{g:Option (Uq×Option Up)}{vs:List V}{ds:List cZ}:X5 K H a x ns g vs->cG K N H vs ds->RM K N H a (.shp x ns g ds)
theorem RM.fr{K:Ag}{N P:Up->Prop}{H g:Hp}{a:Up}{d:cZ}(f:Fr P H g)(c:∀a,P a->N a)(b:¬P a):RM K N H a d->RM K N g a d
 |.lst q r=>.lst (f _ _ q λz=>absurd z b) (r.fr f c)
 |.dct q r=>.dct (f _ _ q λz=>absurd z b) (r.fr f c)
 |.dcn q r=>.dcn (f _ _ q λz=>absurd z b) (r.fr f c)
 |.shp q r=>.shp (q.kept λo e=>f _ _ e λz=>absurd z b) (r.fr f c)
theorem RM.mono{K:Ag}{N N':Up->Prop}{H:Hp}{a:Up}{d:cZ}(h:∀b,N' b->N b):RM K N H a d->RM K N' H a d
 |.lst q r=>.lst q (r.mono h)
 |.dct q r=>.dct q (r.mono h)
 |.dcn q r=>.dcn q (r.mono h)
 |.shp q r=>.shp q (r.mono h)
def RM.soft{K:Ag}{N:Up->Prop}{H:Hp}{a:Up}{d:cZ}(h:RM K N H a d):∃o,H a=ba o/\¬DA o:=by
 cases h with
 |lst q _=>exact⟨_,q,λz=>z⟩
 |dct q _=>exact⟨_,q,λz=>z⟩
 |dcn q _=>exact⟨_,q,λz=>z⟩
 |shp q _=>exact q.soft
def RM.rep{K:Ag}{N M:Up->Prop}{H:Hp}{a:Up}{d:cZ}(h:RM K N H a d)(b:¬M a):bV K N H M (.ref a) d:=by
 cases h with
 |lst q r=>exact .lst q b r
 |dct q r=>exact .dct q b r
 |dcn q r=>exact .dcn q b r
 |shp q r=>exact .shp q b r
structure bN(K:Ag)(ml:List Nat)(B:Bs)(O:Nat->Option Up)(H:Hp)(σ:St)(δ:Ev):Prop where
 len:σ.length=δ.length
 va:∀(i:Nat) (d:cZ),δ[i]?=ba (Sl.va d)->∃v,σ[i]?=ba (ba v)/\bV K (Nn B O) H (Nn B O) v d
 ow:∀(i:Nat) (d:cZ),δ[i]?=ba (Sl.ow d)->∃a,O i=ba a/\σ[i]?=ba (ba (.ref a))/\RM K (Nn B O) H a d
 dom:∀(i:Nat) a,O i=ba a->∃d,δ[i]?=ba (Sl.ow d)
 inj:∀i j a,O i=ba a->O j=ba a->i=j
 old:∀i a,O i=ba a->¬B.Z a/\(B.P a∨B.H0 a=bb)
 zin:∀a,B.Z a->∃o,H a=ba o
 frm:Fr B.P B.H0 H
 par:(∀i a,B.mu i=ba a->i∈ml)/\∀i∈ml,O i=B.mu i
 pin:∀a,B.P a->∃o,H a=ba o
 kep:∀p∈B.kp,bV K (Nn B O) H (Nn B O) p.1 p.2
section
variable{K:Ag}{ml:List Nat}{B:Bs}{O:Nat->Option Up}{H H':Hp}{σ:St}{δ δ':Ev}
section
variable{a:Up}{v:V}{d:cZ}{i:Nat}{ps:List (V×cZ)}
def bN.nin(S:bN K ml B O H σ δ)(h:Nn B O a):∃o,H a=ba o:=by
 rcases h with h|⟨i,h⟩;exact S.zin a h;obtain⟨d,e⟩:=S.dom i a h;obtain⟨c,b,_,w⟩:=S.ow i d e;rw[h]at b;cases b;obtain⟨o,q,_⟩:=w.soft;exact⟨o,q⟩
def bN.new(S:bN K ml B O H σ δ)(h:H a=bb):¬Nn B O a:=λz=>by obtain⟨o,q⟩:=S.nin z;rw[h]at q;cases q
def bN.same(S:bN K ml B O H σ δ)(f:bI H H'):bN K ml B O H' σ δ where
 len:=S.len
 va:=λi d e=>let ⟨v,a,b⟩:=S.va i d e;⟨v,a,b.same f⟩
 ow:=λi d e=>let ⟨a,b,c,w⟩:=S.ow i d e;⟨a,b,c,w.fr (P:=λ_=>False) f.fr (λ_ z=>z.elim) λz=>z⟩
 dom:=S.dom
 inj:=S.inj
 old:=S.old
 zin:=λa h=>let ⟨o,q⟩:=S.zin a h;⟨o,f _ _ q⟩
 frm:=S.frm.trans f.fr
 par:=S.par
 pin:=λa h=>let ⟨o,q⟩:=S.pin a h;⟨o,f _ _ q⟩
 kep:=λp h=>(S.kep p h).same f
def bN.fresh(S:bN K ml B O H σ δ)(h:H a=bb):B.H0 a=bb:=by
 cases q:B.H0 a with
 |none=>rfl
 |some o=>
  by_cases b:B.P a;obtain⟨c,e⟩:=S.pin a b;rw[h]at e;cases e;have := S.frm a o q λz => absurd z b;rw[h]at this;cases this
def Bs.add(B:Bs)(p:Up):Bs:={B with Z:=λa=>B.Z a∨a=p}
def SW{p:Up}:∀a,Nn B O a->Nn (B.add p) O a:=λa h=>by
 rcases h with h|h;exact .inl (.inl h);exact .inr h
def bV.away{p:Up}(k:H p=bb)(N N':Up->Prop)(g:∀a,N' a->N a∨a=p){M f:Up->Prop}(c:∀a,f a->M a∨a=p)(h:bV K N H M v d):bV K N' H f v d:=
 have no:∀{a:Up}{o:HO}{M f:Up->Prop},H a=ba o->¬M a->(∀a,f a->M a∨a=p)->¬f a:=λq n c z=>(c _ z).elim n λe=>by rw[e,k]at q;cases q
 bV.rec (motive_1:=λM v d _=>∀f,(∀a,f a->M a∨a=p)->bV K N' H f v d) (motive_2:=λj l _=>cG K N' H j l) (λ_ _=>.non) (λb _ _=>.bl b) (λi _ _=>.int i) (λx _ _=>.str x) (λn _ _=>.ty n) (λq _ _=>.fn q) (λq _ r _ _=>.tup q r)
  (λq n _ r _ c=>.lst q (no q n c) r) (λq _ r _ _=>.fzl q r) (λq n _ r _ c=>.dct q (no q n c) r) (λq _ r _ _=>.ktb q r) (λp q r _ _=>.exn p q r) (λp q r s _ t _ _=>.exr p q r s (t _ g)) (λq n _ r _ c=>.dcn q (no q n c) r) (λq n _ r _ c=>.shp q (let ⟨_,e⟩:=q.there;no e n c) r) .nil (λ_ _ a b=>.cons (a _ g) b) h f c
def cG.away{p:Up}(c:H p=bb)(N N':Up->Prop)(b:∀a,N' a->N a∨a=p){vs:List V}{ds:List cZ}(h:cG K N H vs ds):cG K N' H vs ds:=h.map λr=>r.away c N N' b b
def YE{p:Up}:∀a,Nn (B.add p) O a->Nn B O a∨a=p:=λa h=>by
 rcases h with(h|h)|h;exact .inl (.inl h);exact .inr h;exact .inl (.inr h)
def bN.laid(S:bN K ml B O H σ δ){p:Up}{o:HO}(f:H p=bb):bN K ml (B.add p) O (upd H p o) σ δ where
 len:=S.len
 va:=λi d e=>let ⟨v,a,b⟩:=S.va i d e;⟨v,a,(b.away f _ _ YE YE).same (cR f)⟩
 ow:=λi d e=>by
  obtain⟨a,b,c,w⟩:=S.ow i d e;refine⟨a,b,c,?_⟩;have g:∀o,H a=ba o->upd H p o=upd H p o:=λ_ _=>rfl;cases w with
  |lst q r=>exact .lst (cR f _ _ q) ((r.away f _ _ YE).same (cR f))
  |dct q r=>exact .dct (cR f _ _ q) ((r.away f _ _ YE).same (cR f))
  |dcn q r=>exact .dcn (cR f _ _ q) ((r.away f _ _ YE).same (cR f))
  |shp q r=>exact .shp (q.kept λo e=>cR f _ _ e) ((r.away f _ _ YE).same (cR f))
 dom:=S.dom
 inj:=S.inj
 old:=λi a h=>by
  refine⟨λz=>?_,(S.old i a h).2⟩;rcases z with z|z;exact(S.old i a h).1 z;obtain⟨o,q⟩:=S.nin (.inr ⟨i,h⟩);rw[z,f]at q;cases q
 zin:=λa h=>by
  rcases h with h|h;obtain⟨o,q⟩:=S.zin a h;exact⟨o,cR f _ _ q⟩;exact⟨_,by rw[h];exact cM⟩
 frm:=S.frm.trans (cR f).fr
 par:=S.par
 pin:=λa h=>let ⟨o,q⟩:=S.pin a h;⟨o,cR f _ _ q⟩
 kep:=λp h=>((S.kep p h).away f _ _ YE YE).same (cR f)
def RJ{o:Option Up}:∀a,Nn B (λj=>if j=i then bb else O j) a->Nn B O a:=λa h=>by
 rcases h with h|⟨j,h⟩;exact .inl h;refine .inr ⟨j,?_⟩;by_cases b:j=i;simp[b]at h;simpa[b]using h
def UH{b:Type}{l:List b}{j:Nat}{x y:b}(h:(l.set i x)[j]?=ba y):(j=i/\y=x/\i<l.length)∨(j≠i/\l[j]?=ba y):=by
 by_cases a:j=i;subst a;rw[List.getElem?_set_self']at h;obtain⟨z,q,h⟩:=Ah.mp h;cases h;exact .inl ⟨rfl,rfl,(Ai.mp q).1⟩;rw[Az (Dm a)]at h;exact .inr ⟨a,h⟩
def bN.setVa(S:bN K ml B O H σ δ)(n:i∉ml)(h:bV K (Nn B O) H (Nn B O) v d):bN K ml B (λj=>if j=i then bb else O j) H (σ.set i (ba v)) (δ.set i (.va d)) where
 len:=by rw[Ct,Ct,S.len]
 va:=λj e q=>by
  rcases UH q with⟨rfl,z,hl⟩|⟨b,q⟩;cases z;exact⟨v,by rw[Bx (by rw[S.len];exact hl)],h.mono (RJ (o:=bb)) (RJ (o:=bb))⟩;obtain⟨u,c,r⟩:=S.va j e q;exact⟨u,by rw[Az (Dm b)];exact c,r.mono (RJ (o:=bb)) (RJ (o:=bb))⟩
 ow:=λj e q=>by
  rcases UH q with⟨rfl,z,hl⟩|⟨b,q⟩;cases z;obtain⟨a,c,f,w⟩:=S.ow j e q;exact⟨a,by simpa[b]using c,by rw[Az (Dm b)];exact f,w.mono (RJ (o:=bb))⟩
 dom:=λj a e=>by
  by_cases b:j=i;simp[b]at e;obtain ⟨d,q⟩ := S.dom j a (by simpa [b]using e);exact⟨d,by rw[Az (Dm b)];exact q⟩
 inj:=λj k a c f=>by
  by_cases b:j=i;simp[b]at c;by_cases l:k=i;simp[l]at f;exact S.inj j k a (by simpa[b]using c) (by simpa[l]using f)
 old:=λj a e=>by
  by_cases b:j=i;simp[b]at e;exact S.old j a (by simpa[b]using e)
 zin:=S.zin
 frm:=S.frm
 par:=⟨S.par.1,λj b=>by have g:j≠i:=λz=>n (z▸b);have s:O j=B.mu j:=S.par.2 j b;simpa[g]using s⟩
 pin:=S.pin
 kep:=λp m=>(S.kep p m).mono (RJ (o:=bb)) (RJ (o:=bb))
def ON{p:Up}:∀a,Nn B (λj=>if j=i then ba p else O j) a->Nn (B.add p) O a:=λa h=>by
 rcases h with h|⟨j,h⟩;exact .inl (.inl h);by_cases b:j=i;simp[b]at h;exact .inl (.inr h.symm);exact .inr ⟨j,by simpa[b]using h⟩
def bN.setOw{p:Up}(S:bN K ml (B.add p) O H σ δ)(n:i∉ml)(hl:i<δ.length)(hz:¬B.Z p)(s:B.H0 p=bb)(h:RM K (Nn (B.add p) O) H p d):
  bN K ml B (λj=>if j=i then ba p else O j) H (σ.set i (ba (.ref p))) (δ.set i (.ow d)) where
 len:=by rw[Ct,Ct,S.len]
 va:=λj e q=>by
  rcases UH q with⟨rfl,z,_⟩|⟨b,q⟩;cases z;obtain⟨u,c,r⟩:=S.va j e q;exact⟨u,by rw[Az (Dm b)];exact c,r.mono ON ON⟩
 ow:=λj e q=>by
  rcases UH q with⟨rfl,z,hl⟩|⟨b,q⟩;cases z;exact⟨p,by simp,by rw[Bx (by rw[S.len];exact hl)],h.mono ON⟩;obtain⟨a,c,f,w⟩:=S.ow j e q;exact⟨a,by simpa[b]using c,by rw[Az (Dm b)];exact f,w.mono ON⟩
 dom:=λj a e=>by
  by_cases b:j=i;subst b;exact⟨d,by rw[Bx hl]⟩;obtain ⟨d,q⟩ := S.dom j a (by simpa [b]using e);exact⟨d,by rw[Az (Dm b)];exact q⟩
 inj:=λj k a c f=>by
  by_cases b:j=i;by_cases g:k=i;rw[b,g];simp[b]at c;simp[g]at f;exact absurd (.inr c.symm) (S.old k a f).1;by_cases g:k=i;simp[g]at f;simp[b]at c;exact absurd (.inr f.symm) (S.old j a c).1;exact S.inj j k a (by simpa[b]using c) (by simpa[g]using f)
 old:=λj a e=>by
  by_cases b:j=i;simp[b]at e;subst e;exact⟨hz,.inr s⟩;have := S.old j a (by simpa [b]using e);exact⟨λz=>this.1 (.inl z),this.2⟩
 zin:=λa h=>S.zin a (.inl h)
 frm:=S.frm
 par:=⟨S.par.1,λj b=>by have l:j≠i:=λz=>n (z▸b);have o:O j=B.mu j:=S.par.2 j b;simpa[l]using o⟩
 pin:=S.pin
 kep:=λp m=>(S.kep p m).mono ON ON
def bN.wrote(S:bN K ml B O H σ δ){o:HO}(e:O i=ba a)(G:¬DA o)(h:RM K (Nn B O) (upd H a o) a d):bN K ml B O (upd H a o) σ (δ.set i (.ow d)):=by
 have A:Fr (λb=>b=a) H (upd H a o):=λb u q n=>by
  by_cases f:b=a;subst f;obtain⟨g,x⟩:=S.dom i b e;obtain⟨t,c,_,w⟩:=S.ow i g x;rw[e]at c;cases c;obtain⟨E,q1,y⟩:=w.soft;rw[q]at q1;cases q1;exact absurd (n rfl) y;rw[cL f];exact q
 have m:∀b,b=a->Nn B O b:=λb z=>.inr ⟨i,z▸e⟩;have l:∀b,(∃u,H b=ba u)->∃u,upd H a o b=ba u:=λb q0=>by
  obtain⟨u,q⟩:=q0;by_cases f:b=a;exact⟨o,by rw[f];exact cM⟩;exact⟨u,by rw[cL f];exact q⟩
 refine⟨by rw[Ct,S.len],λj g q=>?_,λj g q=>?_,λj b q=>?_,S.inj,S.old,λb h=>l b (S.zin b h),?_,S.par,λb h=>l b (S.pin b h),λp F=>(S.kep p F).fr A m m⟩;rcases UH q with⟨_,z,_⟩|⟨k,q⟩;cases z;obtain⟨v,c,r⟩:=S.va j g q;exact⟨v,c,r.fr A m m⟩;rcases UH q with⟨rfl,z,hl⟩|⟨k,q⟩;cases z;obtain⟨s,q0⟩:=S.dom j a e;obtain⟨t,c,C,_⟩:=S.ow j s q0;rw[e]at c;cases c;exact⟨a,e,C,h⟩;obtain⟨t,c,C,w⟩:=S.ow j g q;exact⟨t,c,C,w.fr A m λz=>k (S.inj j i a (z▸c) e)⟩;by_cases k:j=i;subst k;obtain⟨s,q0⟩:=S.dom j b q;exact⟨d,by rw[Bx (Ai.mp q0).1]⟩;obtain⟨s,q0⟩:=S.dom j b q;exact⟨s,by rw[Az (Dm k)];exact q0⟩;intro b u q n;have D:=S.frm b u q n;by_cases f:b=a;subst f;rcases(S.old i b e).2 with z|z;obtain⟨g,x⟩:=S.dom i b e;obtain⟨t,c,_,w⟩:=S.ow i g x;rw[e]at c;cases c;obtain⟨E,q1,y⟩:=w.soft;rw[D]at q1;cases q1;exact absurd (n z) y;rw[q]at z;cases z;rw[cL f];exact D
def bN.keepV(S:bN K ml B O H σ δ)(h:∀p∈ps,bV K (Nn B O) H (Nn B O) p.1 p.2):bN K ml {B with kp:=ps++B.kp} O H σ δ:=
 ⟨S.len,S.va,S.ow,S.dom,S.inj,S.old,S.zin,S.frm,S.par,S.pin,λp a=>(Ez.mp a).elim (h p) (S.kep p)⟩
def bN.unkeep(S:bN K ml {B with kp:=ps++B.kp} O H σ δ):bN K ml B O H σ δ:=
 ⟨S.len,S.va,S.ow,S.dom,S.inj,S.old,S.zin,S.frm,S.par,S.pin,λp a=>S.kep p (Ax _ a)⟩
end
end
section
variable{B:Bs}{O:Nat->Option Up}{ml:List Nat}{δ:Ev}{u:TT}
def rz(B:Bs):Up->Prop:=λa=>B.Z a∨∃i,B.mu i=ba a
def av(B:Bs)(O:Nat->Option Up)(b:Bool):Up->Prop:=if b then Nn B O else λa=>Nn B O a/\rz B a
def at_(B:Bs)(O:Nat->Option Up)(b:Bool):Up->Prop:=if b then Nn B O else λ_=>False
def BD{b:Bool}:∀a,at_ B O b a->av B O b a:=λa h=>by
 cases b with
 |true=>exact h
 |false=>exact h.elim
def sL{b c:Bool}(h:b=bc->c=bc):∀a,at_ B O b a->at_ B O c a:=λa z=>by
 cases b with
 |true=>rw[h rfl];exact z
 |false=>exact z.elim
def bN.rzn{K:Ag}{H:Hp}{b:St}(S:bN K ml B O H b δ):∀a,rz B a->Nn B O a:=λa h=>by
 rcases h with h|⟨i,h⟩;exact .inl h;exact .inr ⟨i,(S.par.2 i (S.par.1 i a h)).trans h⟩
def bN.rza{K:Ag}{H:Hp}{c:St}(S:bN K ml B O H c δ){b:Bool}:∀a,rz B a->av B O b a:=λa h=>by
 cases b with
 |true=>exact S.rzn a h
 |false=>exact⟨S.rzn a h,h⟩
def MZ{b c:Bool}(h:b=bc->c=bc):∀a,av B O b a->av B O c a:=λa z=>by
 cases b with
 |true=>rw[h rfl];exact z
 |false=>cases c with
  |true=>exact z.1
  |false=>exact z
structure Res(K:Ag)(ml:List Nat)(B:Bs)(O:Nat->Option Up)(H:Hp)(σ:St)(pu bt bi:Bool)(H':Hp)(δ':Ev)(v:V)(d:cZ):Prop where
 sta:bN K ml B O H' σ δ'
 frm:Fr (OA O) H H'
 pur:pu=bc->bI H H'
 rep:bV K (av B O bi) H' (at_ B O bt) v d
abbrev VF:=Ev->Option (cZ×Ev)
inductive TVi(K:Ag)(ml:List Nat)(pu bt bi:Bool)(f:VF)(σ:St)(H:Hp)(Q:VK):Prop
 |mk (B:_) (O:_) (δ:_) (d:_) (δ':_) (h0:bN K ml B O H σ δ) (h1:f δ=ba (d,δ')) (h2:∀v H',Res K ml B O H σ pu bt bi H' δ' v d->Q v H'):TVi K ml pu bt bi f σ H Q
def TV(K:Ag)(ml:List Nat)(pu b c:Bool)(f:VF):TE:=λa H Q=>TVi K ml pu b c f a H Q
def PE.imp{X:Cx}{e:Uv}{t u:TE}(h:PE X e t)(k:∀a H Q,u a H Q->t a H Q):PE X e u:=λb s a H Q I w=>h b s a H Q I (k a H Q w)
def PT.imp{X:Cx}{e:Uv}{t:TT}(h:PT X e t)(k:∀a H Q,u a H Q->t a H Q):PT X e u:=λb s a H Q I w=>h b s a H Q I (k a H Q w)
def PW.imp{X:Cx}{e:Uv}{t:TT}(h:PW X e t)(k:∀a H Q,u a H Q->t a H Q):PW X e u:=λb c s a H Q I w=>h b c s a H Q I (k a H Q w)
def PA.imp{X:Cx}{e:List Uv}{t u:TA}(h:PA X e t)(k:∀a H Q,u a H Q->t a H Q):PA X e u:=λb c s a H Q I w=>h b c s a H Q I (k a H Q w)
def PS.imp{X:Cx}{e:Vb}{t u:TS}(h:PS X e t)(k:∀D a H,u D a H->t D a H):PS X e u:=λb s a H D I w=>h b s a H D I (k D a H w)
def X4.imp{X:Cx}{e:List Vb}{t u:TS}(h:X4 X e t)(k:∀D a H,u D a H->t D a H):X4 X e u:=λb s a H D I w=>h b s a H D I (k D a H w)
end
section
variable{X:Cx}{K:Ag}{ml:List Nat}{e a b c:Uv}{pa ta ia pb tb ib pc tc ic:Bool}{fa fb fc:VF}{r:R2}{o:cZ->cZ->Option cZ}{B:Bs}{O:Nat->Option Up}{H H1 H':Hp}{σ:St}{δ δ':Ev}{v:V}{d:cZ}
def fC(d:cZ):VF:=λδ=>ba (d,δ)
def Res.refl{pu a b:Bool}(S:bN K ml B O H σ δ)(h:bV K (av B O b) H (at_ B O a) v d):Res K ml B O H σ pu a b H δ v d:=⟨S,Fr.refl _ _,λ_=>bI.refl _,h⟩
def A1(h:PE X e (tC v))(b:∀N H M,bV K N H M v d):PE X e (TV K ml bc bc bc (fC d)):=h.imp λσ H Q a=>by obtain⟨B,O,δ,c,δ',S,q,k⟩:=a;cases q;exact k v H (Res.refl S (b _ _ _))
def cS{i j pos}:PE X (.Constant (.int i) j pos) (TV K ml bc bc bc (fC (.int i))):=A1 fW λ_ _ _=>.int i
def bG{i j pos}:PE X (.Constant (.bool i) j pos) (TV K ml bc bc bc (fC (.bl i))):=A1 uq λ_ _ _=>.bl i
def bM{j pos}:PE X (.Constant .none j pos) (TV K ml bc bc bc (fC .non)):=A1 iP λ_ _ _=>.non
def bX{i j pos}:PE X (.Constant (.str i) j pos) (TV K ml bc bc bc (fC (.str i))):=A1 Wu λ_ _ _=>.str i
noncomputable def fV(i:Nat):VF:=λδ=>match δ[i]? with
 |some (.va d)=>ba (d,δ)
 |_=>bb
noncomputable def fO(i:Nat):VF:=λδ=>match δ[i]? with
 |some (.va d)=>ba (d,δ)
 |some (.ow d)=>ba (d,δ)
 |_=>bb
def kH{i:Nat}(h:PE X e (YV i)):PE X e (TV K ml bc bc bc (fV i)):=h.imp λσ H Q a=>by
 obtain⟨B,O,δ,f,δ',S,q,k⟩:=a;unfold fV at q;split at q;rename_i d b;cases q;obtain⟨v,c,r⟩:=S.va i _ b;exact⟨v,c,k v H (Res.refl S r)⟩;cases q
def jT{i:Nat}(h:PE X e (YV i)):PE X e (TV K ml bc be bc (fO i)):=h.imp λσ H Q b=>by
 obtain⟨B,O,δ,j,δ',S,q,k⟩:=b;unfold fO at q;split at q;rename_i d c;cases q;obtain⟨v,f,r⟩:=S.va i _ c;exact⟨v,f,k v H (Res.refl S (r.mono (λ_ z=>z) λa z=>z.elim))⟩;rename_i d c;cases q;obtain⟨a,f,g,w⟩:=S.ow i _ c;exact⟨.ref a,g,k _ H (Res.refl S (w.rep λz=>z))⟩;cases q
def Res.live{b:Hp}{c:V}{g:cZ}(R2:Res K ml B O H1 σ pb tb ib b δ' c g)(hs:(pb || (ta&&ia))=bc)(h:bV K (av B O ia) H1 (at_ B O ta) v d):bV K (av B O ia) b (at_ B O ta) v d:=by
 cases pb with
 |true=>exact h.same (R2.pur rfl)
 |false=>
  have hs:(ta&&ia)=bc:=by simpa using hs
  obtain⟨f,e⟩:=(Ae _ _).mp hs;subst f e;exact h.fr R2.frm (λa z=>.inr z) λa z=>.inr z
def f2(o:cZ->cZ->Option cZ)(fa fb:VF):VF:=λδ=>(fa δ).bind λp=>(fb p.2).bind λq=>(o p.1 q.1).map λc=>(c,q.2)
def OH{a:Ev}(h:f2 o fa fb δ=ba (d,a)):∃x δ1 y,fa δ=ba (x,δ1)/\fb δ1=ba (y,a)/\o x y=ba d:=by
 unfold f2 at h;cases e:fa δ with
 |none=>rw[e]at h;cases h
 |some p=>
  rw[e]at h;cases b:fb p.2 with
  |none=>simp[b]at h
  |some q=>
   simp only[Ar,b]at h;obtain⟨c,f,h⟩:=Ah.mp h;cases h;exact⟨p.1,p.2,q.1,rfl,b,f⟩
def O9(K:Ag)(r:R2)(o:cZ->cZ->Option cZ):Prop:=∀(H:Hp) (N a M b:Up->Prop) (x y:V) (d e c:cZ) (Q:VK),bV K N H M x d->bV K a H b y e->o d e=ba c->(∀v,(∀H' N M,bV K N H' M v c)->Q v H)->r x y H Q
def OpC(K:Ag)(r:R2)(o:cZ->cZ->Option cZ):Prop:=∀(H:Hp) (N M b:Up->Prop) (x y:V) (d e c:cZ) (Q:VK),bV K N H M x d->bV K N H b y e->o d e=ba c->
 (∀v H',bI H H'->(∀M,(∀a,M a->∃o,H a=ba o)->bV K N H' M v c)->Q v H')->r x y H Q
def OpI(K:Ag)(r:R2)(o:cZ->cZ->Option cZ):Prop:=∀(H:Hp) (N a M b:Up->Prop) (x y:V) (d e c:cZ) (Q:VK),bV K N H M x d->bV K a H b y e->o d e=ba c->(∀v,bV K N H N v c->Q v H)->r x y H Q
def EZ(m:O9 K r o)(hs:(pb || (ta&&ia))=bc){Q:VK}(h:TV K ml (pa&&pb) bc bc (f2 o fa fb) σ H Q):tOp r (TV K ml pa ta ia fa) (TV K ml pb tb ib fb) σ H Q:=by
 obtain⟨B,O,δ,d,c,S,q,k⟩:=h;obtain⟨x,a,y,s,p,n⟩:=OH q;refine⟨B,O,δ,x,a,S,s,λj H1 b=>⟨B,O,a,y,c,b.sta,p,λi e R2=>?_⟩⟩;exact m e _ _ _ _ j i x y d Q (R2.live hs b.rep) R2.rep n λv l=>k v e ⟨R2.sta,b.frm.trans R2.frm,λz=>by obtain⟨g,f⟩:=(Ae _ _).mp z;exact(b.pur g).trans (R2.pur f),l _ _ _⟩
def sR(n:OpC K r o)(hs:(pb || (ta&&ia))=bc){Q:VK}(h:TV K ml (pa&&pb) bc (ia&&ib) (f2 o fa fb) σ H Q):tOp r (TV K ml pa ta ia fa) (TV K ml pb tb ib fb) σ H Q:=by obtain⟨B,O,δ,d,e,S,q,k⟩:=h;obtain⟨x,b,y,t,s,p⟩:=OH q;refine⟨B,O,δ,x,b,S,t,λl H1 c=>⟨B,O,b,y,e,c.sta,s,λj C R2=>?_⟩⟩;have w:∀a,av B O (ia&&ib) a->av B O ia a:=MZ λz=>((Ae _ _).mp z).1;have u:∀a,av B O (ia&&ib) a->av B O ib a:=MZ λz=>((Ae _ _).mp z).2;refine n C (av B O (ia&&ib)) _ _ l j x y d Q ((R2.live hs c.rep).mono w λ_ z=>z) (R2.rep.mono u λ_ z=>z) p λv A f m=>k v A ⟨R2.sta.same f,(c.frm.trans R2.frm).trans f.fr,λz=>?_,m _ λa z=>R2.sta.nin z⟩;obtain⟨i,g⟩:=(Ae _ _).mp z;exact((c.pur i).trans (R2.pur g)).trans f
def fU(m:OpI K r o)(hs:(pb || (ta&&ia))=bc){Q:VK}(h:TV K ml (pa&&pb) ia ia (f2 o fa fb) σ H Q):tOp r (TV K ml pa ta ia fa) (TV K ml pb tb ib fb) σ H Q:=by
 obtain⟨B,O,δ,d,c,S,q,k⟩:=h;obtain⟨x,a,y,s,p,n⟩:=OH q;refine⟨B,O,δ,x,a,S,s,λj H1 b=>⟨B,O,a,y,c,b.sta,p,λi e R2=>?_⟩⟩;exact m e _ _ _ _ j i x y d Q (R2.live hs b.rep) R2.rep n λv l=>k v e ⟨R2.sta,b.frm.trans R2.frm,λz=>by obtain⟨g,f⟩:=(Ae _ _).mp z;exact(b.pur g).trans (R2.pur f),l.mono (λ_ z=>z) BD⟩
def TH{op:Operator}{pos:Pos}(d:XR X (Fg op) r)(c:O9 K r o)(f:PE X a (TV K ml pa ta ia fa))(e:PE X b (TV K ml pb tb ib fb))(hs:(pb || (ta&&ia))=bc:=by rfl):PE X (.BinOp a op b pos) (TV K ml (pa&&pb) bc bc (f2 o fa fb)):=
 (Xv d f e).imp λ_ _ _ h=>EZ c hs h
def aP{op:Operator}{pos:Pos}(d:XR X (Fg op) r)(c:OpC K r o)(f:PE X a (TV K ml pa ta ia fa))(e:PE X b (TV K ml pb tb ib fb))(hs:(pb || (ta&&ia))=bc:=by rfl):PE X (.BinOp a op b pos) (TV K ml (pa&&pb) bc (ia&&ib) (f2 o fa fb)):=
 (Xv d f e).imp λ_ _ _ h=>sR c hs h
def XB{op:CmpOp}{pos:Pos}(d:XR X (Cd op) r)(c:O9 K r o)(g:PE X a (TV K ml pa ta ia fa))(f:PE X b (TV K ml pb tb ib fb))(e:Ih op b=be:=by exact V5 _)(hs:(pb || (ta&&ia))=bc:=by rfl):PE X (.Compare a [op] [b] pos) (TV K ml (pa&&pb) bc bc (f2 o fa fb)):=
 (dC d g f e).imp λ_ _ _ h=>EZ c hs h
def Zi{pos:Pos}(e:IxR X r)(d:OpI K r o)(g:PE X a (TV K ml pa ta ia fa))(f:PE X b (TV K ml pb tb ib fb))(c:PB b)(hs:(pb || (ta&&ia))=bc:=by rfl):PE X (.Subscript a b pos) (TV K ml (pa&&pb) ia ia (f2 o fa fb)):=
 (Xq e g f c).imp λ_ _ _ h=>fU d hs h
noncomputable def oI(C:Int->Int->Bool)(g:Int->Int->cZ):cZ->cZ->Option cZ
 |.int i,.int j=>if C i j=bc then ba (g i j)else bb
 |_,_=>bb
def Wv{C:Int->Int->Bool}{g:Int->Int->cZ}{d e c:cZ}(h:oI C g d e=ba c):∃i j,d=.int i/\e=.int j/\C i j=bc/\c=g i j:=by
 unfold oI at h;split at h;split at h;rename_i hc;cases h;exact⟨_,_,rfl,rfl,hc,rfl⟩;cases h;cases h
def CB{C:Int->Int->Prop}{a:Int->Int->Bool}{g:Int->Int->V}{g':Int->Int->cZ}(m:∀i j,a i j=bc->C i j)(l:∀i j N H M,bV K N H M (g i j) (g' i j)):O9 K (rI C g) (oI a g'):=by intro H N n M o x y d e c Q f b h k;obtain⟨i,j,rfl,rfl,hc,rfl⟩:=Wv h;cases f.onI;cases b.onI;exact⟨_,_,rfl,rfl,m _ _ hc,k _ λ_ _ _=>l ..⟩
def MD{g:Int->Int->V}{g':Int->Int->cZ}(f:∀i j N H M,bV K N H M (g i j) (g' i j)):O9 K (EF g) (oI (λ_ _=>bc) g'):=by intro H N l M m x y d e c Q b a h k;obtain⟨i,j,rfl,rfl,hc,rfl⟩:=Wv h;cases b.onI;cases a.onI;exact⟨_,_,rfl,rfl,k _ λ_ _ _=>f ..⟩
def cMul(i j:Int):Bool:=(decide (-18446744073709551616<i)&&decide (i<18446744073709551616)) || (decide (-18446744073709551616<j)&&decide (j<18446744073709551616))
def cDiv(i j:Int):Bool:=decide (0<j)&&decide (j<1073741824)
def cPow(i j:Int):Bool:=decide (0<=j)&&decide (j<=1000000)&&decide (i.natAbs<18446744073709551616)
abbrev oSub:=oI (λ_ _=>bc) λi j=>.int (i-j)
abbrev oMul:=oI cMul λi j=>.int (i*j)
abbrev B3:=oI cDiv λi j=>.int (i/j)
abbrev D3:=oI (λ_ j=>decide (0<j)) λi j=>.int (i % j)
abbrev oPow:=oI cPow λi j=>.int (i ^ j.toNat)
abbrev oLt:=oI (λ_ _=>bc) λi j=>.bl (decide (i<j))
abbrev oLe:=oI (λ_ _=>bc) λi j=>.bl (decide (i<=j))
abbrev oGt:=oI (λ_ _=>bc) λi j=>.bl (decide (j<i))
abbrev oGe:=oI (λ_ _=>bc) λi j=>.bl (decide (j<=i))
def Yg:O9 K (EF λi j=>.int (i-j)) oSub:=MD λi j _ _ _=>.int _
def qX:O9 K (rI CMul λi j=>.int (i*j)) oMul:=CB (λi j h=>by
 have p:(2:Int) ^ 64=18446744073709551616:=by decide
 unfold CMul;rw[p];simpa[cMul]using h) λi j _ _ _=>.int _
def Wy:O9 K (rI CDiv λi j=>.int (i/j)) B3:=CB (λi j h=>by show 0<j/\j<1073741824;simpa[cDiv]using h) λi j _ _ _=>.int _
def KB:O9 K (rI (λ_ j=>0<j) λi j=>.int (i % j)) D3:=CB (λi j h=>by simpa using h) λi j _ _ _=>.int _
def sH:O9 K (rI CPow λi j=>.int (i ^ j.toNat)) oPow:=CB (λi j h=>by
 have p:(2:Nat) ^ 64=18446744073709551616:=by decide
 unfold CPow;rw[p];simpa[cPow,and_assoc]using h) λi j _ _ _=>.int _
def GJ:O9 K (EF λi j=>.bl (decide (i<j))) oLt:=MD λi j _ _ _=>.bl _
def AR:O9 K (EF λi j=>.bl (decide (i<=j))) oLe:=MD λi j _ _ _=>.bl _
def s_gt:O9 K (EF λi j=>.bl (decide (j<i))) oGt:=MD λi j _ _ _=>.bl _
def s_ge:O9 K (EF λi j=>.bl (decide (j<=i))) oGe:=MD λi j _ _ _=>.bl _
def F5(d:cZ):Bool:=d.isD&&Ew d.pd
def eqD(d e:cZ):Bool:=Jr d.pd e.pd
def X8(d e:cZ):Option cZ:=if(F5 d&&F5 e)=bc then ba (.bl (eqD d e))else bb
def RP(d e:cZ):Option cZ:=if(F5 d&&F5 e)=bc then ba (.bl (!eqD d e))else bb
def s_eq:O9 K (rEqD K) X8:=by
 intro H N g M i x y d e c Q f b h k;unfold X8 at h;split at h;rename_i a;cases h;simp only[F5,Ae]at a;exact⟨d.pd,e.pd,f.dp a.1.1,b.dp a.2.1,a.1.2,a.2.2,k _ λ_ _ _=>.bl _⟩;cases h
def VA:O9 K (rNeD K) RP:=by
 intro H N g M i x y d e c Q f b h k;unfold RP at h;split at h;rename_i a;cases h;simp only[F5,Ae]at a;exact⟨d.pd,e.pd,f.dp a.1.1,b.dp a.2.1,a.1.2,a.2.2,k _ λ_ _ _=>.bl _⟩;cases h
def isN:cZ->Bool
 |.non=>bc
 |_=>be
def OQ:cZ->cZ->Option cZ
 |d,.non=>ba (.bl (isN d))
 |_,_=>bb
def QB:cZ->cZ->Option cZ
 |d,.non=>ba (.bl (!isN d))
 |_,_=>bb
def CL{N M:Up->Prop}(h:bV K N H M v d):decide (v=V.non)=isN d:=by
 cases h<;>simp[isN]
def GI:O9 K (λx y H Q=>y=.non/\Q (.bl (decide (x=.non))) H) OQ:=by
  intro H N f M g x y d e c Q b a h k;cases a<;>first
    | (cases h
       refine⟨rfl,?_⟩;rw[CL b];exact k _ λ_ _ _=>.bl _)
    |(simp[OQ]at h)
def Yq:O9 K (λx y H Q=>y=.non/\Q (.bl (!decide (x=.non))) H) QB:=by
  intro H N f M g x y d e c Q b a h k;cases a<;>first
    | (cases h
       refine⟨rfl,?_⟩;rw[CL b];exact k _ λ_ _ _=>.bl _)
    |(simp[QB]at h)
def WW:cZ->Option (List cZ)
 |.tup ds=>ba ds
 |.lst ds=>ba ds
 |_=>bb
def bV.seq{N M:Up->Prop}{ds:List cZ}(h:bV K N H M v d)(e:WW d=ba ds):∃a xs,v=.ref a/\(W8 K H a xs∨UN K H a xs)/\cG K N H xs ds:=by
 cases h<;>first
  |(cases e;rename_i q r;exact⟨_,_,rfl,.inr q,r⟩)
  |(cases e;rename_i q n r;exact⟨_,_,rfl,.inl (W8.of q),r⟩)
  |(cases e;rename_i q r;exact⟨_,_,rfl,.inl q.sq,r⟩)
  |cases e
def nS{N:Up->Prop}{xs:List V}{ds:List cZ}{i:Int}(r:cG K N H xs ds)(h:G8 ds i=ba d):∃v,G8 xs i=ba v/\bV K N H N v d:=by
 unfold G8 at h⊢;rw[r.length];cases a:ixN ds.length i with
 |none=>rw[a]at h;cases h
 |some j=>
  rw[a]at h;exact r.get h
end
section
variable{X:Cx}{K:Ag}{ml:List Nat}{e a b c:Uv}{es:List Uv}{pa ta ia pb tb ib pc tc ic pu bt bi ps bs:Bool}{fa fb fc:VF}{r r':R2}{o o':cZ->cZ->Option cZ}{B:Bs}{O:Nat->Option Up}{H H1 H':Hp}{σ:St}{δ δ':Ev}{v:V}{d:cZ}{p:Up}{pos:Pos}
section
variable{ds:List cZ}{x y:VB}{Q:Bool->Hp->Prop}
def bN.unadd(S:bN K ml (B.add p) O H σ δ):bN K ml B O H σ δ where
 len:=S.len
 va:=λi d e=>let ⟨v,a,b⟩:=S.va i d e;⟨v,a,b.mono SW SW⟩
 ow:=λi d e=>let ⟨a,b,c,w⟩:=S.ow i d e;⟨a,b,c,w.mono SW⟩
 dom:=S.dom
 inj:=S.inj
 old:=λi a h=>⟨λz=>(S.old i a h).1 (.inl z),(S.old i a h).2⟩
 zin:=λa h=>S.zin a (.inl h)
 frm:=S.frm
 par:=S.par
 pin:=S.pin
 kep:=λp h=>(S.kep p h).mono SW SW
structure ResN(K:Ag)(ml:List Nat)(B:Bs)(O:Nat->Option Up)(H:Hp)(σ:St)(pu:Bool)(H':Hp)(δ':Ev)(p:Up)(d:cZ):Prop where
 sta:bN K ml (B.add p) O H' σ δ'
 frm:Fr (OA O) H H'
 pur:pu=bc->bI H H'
 own:RM K (Nn (B.add p) O) H' p d
 nz:¬Nn B O p
 h0:B.H0 p=bb
inductive TNi(K:Ag)(ml:List Nat)(pu:Bool)(f:VF)(σ:St)(H:Hp)(Q:VK):Prop
 |mk (B:_) (O:_) (δ:_) (d:_) (δ':_) (h0:bN K ml B O H σ δ) (h1:f δ=ba (d,δ')) (h2:∀p H',ResN K ml B O H σ pu H' δ' p d->Q (.ref p) H'):TNi K ml pu f σ H Q
def TN(K:Ag)(ml:List Nat)(pu:Bool)(f:VF):TE:=λσ H Q=>TNi K ml pu f σ H Q
def cA{f:VF}(h:PE X e (TN K ml pu f)):PE X e (TV K ml pu bc bc f):=h.imp λσ H Q ⟨B,O,δ,d,δ',S,q,k⟩=>
 ⟨B,O,δ,d,δ',S,q,λp H' R=>k _ H' ⟨R.sta.unadd,R.frm,R.pur,(R.own.mono SW).rep R.nz⟩⟩
def mkN{xs:List V}(S:bN K ml B O H1 σ δ')(f:Fr (OA O) H H1)(s:pu=bc->bI H H1)(a:H1 p=bb)(r:cG K (Nn B O) H1 xs ds):ResN K ml B O H σ pu (upd H1 p (.lst xs)) δ' p (.lst ds):=
 ⟨S.laid a,f.trans (cR a).fr,λz=>(s z).trans (cR a),.lst cM ((r.away a _ _ YE).same (cR a)),S.new a,S.fresh a⟩
def mkD(S:bN K ml B O H1 σ δ')(f:Fr (OA O) H H1)(s:pu=bc->bI H H1)(a:H1 p=bb):ResN K ml B O H σ pu (upd H1 p (.dK [])) δ' p (.dct [] []):=
 ⟨S.laid a,f.trans (cR a).fr,λz=>(s z).trans (cR a),.dct (kvs:=[]) cM .nil,S.new a,S.fresh a⟩
def G1:PE X (.Dict [] [] pos) (TN K ml bc (fC (.dct [] []))):=zD8.imp λσ H Q a=>by obtain⟨B,O,δ,d,δ',S,q,k⟩:=a;cases q;exact λp b=>k p _ (mkD S (Fr.refl _ _) (λ_=>bI.refl _) b)
abbrev N8:=Ev->Option (List cZ×Ev)
structure ResA(K:Ag)(ml:List Nat)(B:Bs)(O:Nat->Option Up)(H:Hp)(σ:St)(pu b:Bool)(H':Hp)(δ':Ev)(vs:List V)(ds:List cZ):Prop where
 sta:bN K ml B O H' σ δ'
 frm:Fr (OA O) H H'
 pur:pu=bc->bI H H'
 rep:cG K (av B O b) H' vs ds
inductive TAVi(K:Ag)(ml:List Nat)(pu b:Bool)(f:N8)(σ:St)(H:Hp)(Q:List V->Hp->Prop):Prop
 |mk (B:_) (O:_) (δ:_) (d:_) (δ':_) (h0:bN K ml B O H σ δ) (h1:f δ=ba (d,δ')) (h2:∀vs H',ResA K ml B O H σ pu b H' δ' vs d->Q vs H'):TAVi K ml pu b f σ H Q
def TAV(K:Ag)(ml:List Nat)(pu b:Bool)(f:N8):TA:=λσ H Q=>TAVi K ml pu b f σ H Q
def bY:N8:=λδ=>ba ([],δ)
def cT(fa:VF)(fs:N8):N8:=λδ=>(fa δ).bind λp=>(fs p.2).map λq=>(p.1::q.1,q.2)
def gT{fs:N8}(h:cT fa fs δ=ba (ds,δ')):∃x δ1 xs,fa δ=ba (x,δ1)/\fs δ1=ba (xs,δ')/\ds=x::xs:=by
 unfold cT at h;cases b:fa δ with
 |none=>rw[b]at h;cases h
 |some p=>
  rw[b]at h;cases a:fs p.2 with
  |none=>simp[a]at h
  |some q=>
   simp only[Ar,a]at h;cases h;exact⟨p.1,p.2,q.1,rfl,a,rfl⟩
def cF:PA X [] (TAV K ml bc bc bY):=ZX.imp λσ H Q a=>by obtain⟨B,O,δ,d,δ',S,q,k⟩:=a;cases q;exact k [] H ⟨S,Fr.refl _ _,λ_=>bI.refl _,.nil⟩
def cV{fs:N8}(u:PE X a (TV K ml pa ta ia fa))(t:PA X es (TAV K ml ps bs fs))(hs:SE X a es:=by rfl)(hl:(ps || (ta&&ia))=bc:=by rfl)(s:ta=bc:=by rfl):
  PA X (a::es) (TAV K ml (pa&&ps) (ta&&ia&&bs) (cT fa fs)):=(bA u t hs).imp λσ H Q i=>by
 obtain⟨B,O,δ,d,f,S,q,k⟩:=i;obtain⟨x,b,p,l,j,rfl⟩:=gT q;refine⟨B,O,δ,x,b,S,l,λr H1 e=>⟨B,O,b,p,f,e.sta,j,λA m R2=>k _ m ⟨R2.sta,e.frm.trans R2.frm,λz=>?_,?_⟩⟩⟩;obtain⟨o,n⟩:=(Ae _ _).mp z;exact(e.pur o).trans (R2.pur n);have g : ∀ c,((ta && ia && bs) = bc -> c = bc) -> ∀ a,av B O (ta && ia && bs) a -> av B O c a := λc h => MZ h;have y:=g ta λz=>by simp only[Ae]at z;exact z.1.1
 have w:=g ia λz=>by simp only[Ae]at z;exact z.1.2
 have v:=g bs λz=>by simp only[Ae]at z;exact z.2
 refine .cons ?_ (R2.rep.mono v);have h:bV K (av B O ia) m (at_ B O ta) r x:=by
  cases ps with
  |true=>exact e.rep.same (R2.pur rfl)
  |false=>
   have hs:(ta&&ia)=bc:=by simpa using hl
   obtain⟨l,j⟩:=(Ae _ _).mp hs;subst l j;exact e.rep.fr R2.frm (λa z=>.inr z) λa z=>.inr z
 subst s;exact h.mono w y
def bN.lone(S:bN K ml B O H σ δ){i:Nat}{x:cZ}(f:i∉ml)(h:fO i δ=ba (x,δ')):δ'=δ/\∃v,σ[i]?=ba (ba v)/\bV K (av B O be) H (av B O be) v x:=by
 unfold fO at h;split at h;rename_i d c;cases h;obtain⟨v,b,r⟩:=S.va i _ c;exact⟨rfl,v,b,r.mono (λa z=>z.1) λa z=>z.1⟩;rename_i d c;cases h;obtain⟨a,b,g,w⟩:=S.ow i _ c;refine⟨rfl,.ref a,g,(w.mono λa z=>z.1).rep λz=>?_⟩;rcases z.2 with z|⟨j,z⟩
 exact(S.old i a b).1 z;have e:=S.par.1 j a z;have:i=j:=S.inj i j a b ((S.par.2 j e).trans z)
 exact f (this▸e);cases h
def aJ(fs:N8):VF:=λδ=>(fs δ).bind λp=>if p.1.length<=16777216 then ba (.tup p.1,p.2)else bb
def aQ(fs:N8):VF:=λδ=>(fs δ).bind λp=>if p.1.length<=16777216 then ba (.lst p.1,p.2)else bb
def LK{fs:N8}{g:List cZ->cZ}(h:((fs δ).bind λp=>if p.1.length<=16777216 then ba (g p.1,p.2)else bb)=ba (d,δ')):∃ds,fs δ=ba (ds,δ')/\ds.length<=16777216/\d=g ds:=by
 cases a:fs δ with
 |none=>rw[a]at h;cases h
 |some p=>
  rw[a]at h;have h:(if p.1.length<=16777216 then ba (g p.1,p.2)else bb)=ba (d,δ'):=h;split at h;cases h;exact⟨p.1,rfl,by assumption,rfl⟩;cases h
def bH{x1}{fs:N8}(h:PA X es (TAV K ml pu bs fs)):PE X (.Tuple es x1 pos) (TV K ml pu bc bs (aJ fs)):=(eC h).imp λσ H Q b=>by obtain⟨B,O,δ,d,δ',S,q,k⟩:=b;obtain⟨e,c,hl,rfl⟩:=LK (g:=cZ.tup) q;refine⟨B,O,δ,e,δ',S,c,λf H1 R=>⟨by rw[R.rep.length,Bg];exact hl,λp a=>k _ _ ⟨R.sta.same (cR a),R.frm.trans (cR a).fr,λz=>(R.pur z).trans (cR a),.tup (UN.of cM) (R.rep.same (cR a))⟩⟩⟩
def jF{fs:N8}(h:PA X es (TAV K ml pu bs fs)):PE X (.List es pos) (TV K ml pu bc bs (aQ fs)):=(ID h).imp λσ H Q b=>by obtain⟨B,O,δ,d,δ',S,q,k⟩:=b;obtain⟨e,c,hl,rfl⟩:=LK (g:=cZ.lst) q;refine⟨B,O,δ,e,δ',S,c,λf H1 R=>⟨by rw[R.rep.length,Bg];exact hl,λp a=>k _ _ ⟨R.sta.same (cR a),R.frm.trans (cR a).fr,λz=>(R.pur z).trans (cR a),.lst cM (R.sta.new a) (R.rep.same (cR a))⟩⟩⟩
def aZ{fs:N8}(h:PA X es (TAV K ml pu bc fs)):PE X (.List es pos) (TN K ml pu (aQ fs)):=(ID h).imp λσ H Q a=>by obtain⟨B,O,δ,d,δ',S,q,k⟩:=a;obtain⟨e,c,hl,rfl⟩:=LK (g:=cZ.lst) q;exact⟨B,O,δ,e,δ',S,c,λf H1 R=>⟨by rw[R.rep.length,Bg];exact hl,λp b=>k p _ (mkN R.sta R.frm R.pur b R.rep)⟩⟩
abbrev VB:=Ev->Option (Bool×Ev)
structure ResB(K:Ag)(ml:List Nat)(B:Bs)(O:Nat->Option Up)(H:Hp)(σ:St)(pu:Bool)(H':Hp)(δ':Ev):Prop where
 sta:bN K ml B O H' σ δ'
 frm:Fr (OA O) H H'
 pur:pu=bc->bI H H'
inductive TBi(K:Ag)(ml:List Nat)(pu:Bool)(f:VB)(σ:St)(H:Hp)(Q:Bool->Hp->Prop):Prop
 |mk (B:_) (O:_) (δ:_) (k:_) (δ':_) (h0:bN K ml B O H σ δ) (h1:f δ=ba (k,δ')) (h2:∀H',ResB K ml B O H σ pu H' δ'->Q k H'):TBi K ml pu f σ H Q
def TB(K:Ag)(ml:List Nat)(pu:Bool)(f:VB):TT:=λσ H Q=>TBi K ml pu f σ H Q
def fB(f:VF):VB:=λδ=>(f δ).bind λp=>match p.1 with
 |.bl k=>ba (k,p.2)
 |_=>bb
def eG{f:VF}{k:Bool}(h:fB f δ=ba (k,δ')):f δ=ba (.bl k,δ'):=by
 unfold fB at h;cases a:f δ with
 |none=>rw[a]at h;cases h
 |some p=>
  obtain⟨x,b⟩:=p;rw[a]at h;cases x<;>first
   |(cases h;rfl)
   |cases h
def IT{f:VF}{t:TE}(a:∀σ H Q,TV K ml pu bt bi f σ H Q->t σ H Q)(h:TB K ml pu (fB f) σ H Q):t σ H λx H'=>∃k,x=.bl k/\Q k H':=by obtain⟨B,O,δ,k,δ',S,q,w⟩:=h;refine a σ H _ ⟨B,O,δ,.bl k,δ',S,eG q,λv H' R=>⟨k,?_,w H' ⟨R.sta,R.frm,R.pur⟩⟩⟩;exact R.rep.onB
def bU{op:CmpOp}(d:XR X (Cd op) r)(c:O9 K r o)(g:PE X a (TV K ml pa ta ia fa))(f:PE X b (TV K ml pb tb ib fb))(e:Ih op b=be:=by exact V5 _)(hs:(pb || (ta&&ia))=bc:=by rfl):PT X (.Compare a [op] [b] pos) (TB K ml (pa&&pb) (fB (f2 o fa fb))):=
 (v5 d g f e).imp λ_ _ _ h=>IT (λ_ _ _=>EZ c hs) h
def bW{f:VF}(h:PE X e (TV K ml pu bt bi f))(b:∀a,isTrue e X.env a=(do let v<-a;Gk e.pos;Ia [v] (truthy v)):=by intro _;rfl):PT X e (TB K ml pu (fB f)):=
 (uI h b).imp λ_ _ _ h=>IT (λ_ _ _ z=>z) h
def FG(x y:VB):VB:=λδ=>(x δ).bind λp=>if p.1=bc then y p.2 else ba (be,p.2)
def NJ(x y:VB):VB:=λδ=>(x δ).bind λp=>if p.1=bc then ba (bc,p.2)else y p.2
def Z7(x:VB):VB:=λδ=>(x δ).map λp=>(!p.1,p.2)
def ResB.refl(S:bN K ml B O H σ δ):ResB K ml B O H σ pu H δ:=⟨S,Fr.refl _ _,λ_=>bI.refl _⟩
def iD(h:TB K ml (pa&&pb) (FG x y) σ H Q):tAnd (TB K ml pa x) (TB K ml pb y) σ H Q:=by
 obtain⟨B,O,δ,k,δ',S,q,w⟩:=h;unfold FG at q;obtain⟨⟨c,a⟩,f,q⟩:=Aa.mp q;refine⟨B,O,δ,c,a,S,f,λH1 b=>?_⟩;cases c with
 |true=>
  have q:y a=ba (k,δ'):=q;exact P8 ⟨B,O,a,k,δ',b.sta,q,λg R2=>w g ⟨R2.sta,b.frm.trans R2.frm,λz=>by obtain⟨e,d⟩:=(Ae _ _).mp z;exact(b.pur e).trans (R2.pur d)⟩⟩
 |false=>
  have q:ba (be,a)=ba (k,δ'):=q;cases q;exact P7 (w H1 ⟨b.sta,b.frm,λz=>b.pur ((Ae _ _).mp z).1⟩)
def eQ(h:TB K ml (pa&&pb) (NJ x y) σ H Q):tOr (TB K ml pa x) (TB K ml pb y) σ H Q:=by
 obtain⟨B,O,δ,k,δ',S,q,w⟩:=h;unfold NJ at q;obtain⟨⟨c,a⟩,f,q⟩:=Aa.mp q;refine⟨B,O,δ,c,a,S,f,λH1 b=>?_⟩;cases c with
 |false=>
  have q:y a=ba (k,δ'):=q;exact P7 ⟨B,O,a,k,δ',b.sta,q,λg R2=>w g ⟨R2.sta,b.frm.trans R2.frm,λz=>by obtain⟨e,d⟩:=(Ae _ _).mp z;exact(b.pur e).trans (R2.pur d)⟩⟩
 |true=>
  have q:ba (bc,a)=ba (k,δ'):=q;cases q;exact P8 (w H1 ⟨b.sta,b.frm,λz=>b.pur ((Ae _ _).mp z).1⟩)
def bP(h:PT X a (TB K ml pu x)):PT X (.UnaryOp .Not a pos) (TB K ml pu (Z7 x)):=(fJ h).imp λσ H Q b=>by obtain⟨B,O,δ,k,δ',S,q,w⟩:=b;unfold Z7 at q;obtain⟨p,c,q⟩:=Ah.mp q;cases q;exact⟨B,O,δ,p.1,p.2,S,c,w⟩
def JA(h:PT X a (TB K ml pu x)):PW X (.BoolOp .And [a] pos) (TB K ml pu x):=gL h
def Z0{x:VB}(h:PT X a (TB K ml pu x)):PW X (.BoolOp .Or [a] pos) (TB K ml pu x):=iO h
def E5(d:PT X a (TB K ml pa x))(c:PW X (.BoolOp .And (b::es) pos) (TB K ml pb y)):PW X (.BoolOp .And (a::b::es) pos) (TB K ml (pa&&pb) (FG x y)):=(eJ d c).imp λ_ _ _ h=>iD h
def Y3{x y:VB}(d:PT X a (TB K ml pa x))(c:PW X (.BoolOp .Or (b::es) pos) (TB K ml pb y)):PW X (.BoolOp .Or (a::b::es) pos) (TB K ml (pa&&pb) (NJ x y)):=(nY d c).imp λ_ _ _ h=>eQ h
def WB{x:VB}(h:PW X e (TB K ml pu x)):PT X e (TB K ml pu x):=h.pt
noncomputable def RN(x y:VF):VF:=λδ=>(x δ).bind λp=>match p.1 with
 |.bl bc=>y p.2
 |.bl be=>ba (.bl be,p.2)
 |_=>bb
def fOr(x y:VF):VF:=λδ=>(x δ).bind λp=>match p.1 with
 |.bl be=>y p.2
 |.bl bc=>ba (.bl bc,p.2)
 |_=>bb
def fNot(x:VF):VF:=λδ=>(x δ).bind λp=>match p.1 with
 |.bl k=>ba (.bl (!k),p.2)
 |_=>bb
def XD{op}{f:VF}(h:PE X a (TV K ml pu bt bi f)):PE X (.BoolOp op [a] pos) (TV K ml pu bt bi f):=nB h
def VC(n:PE X a (TV K ml pa ta ia fa))(m:PE X (.BoolOp .And (b::es) pos) (TV K ml pb tb ib fb)):PE X (.BoolOp .And (a::b::es) pos) (TV K ml (pa&&pb) tb ib (RN fa fb)):=(uH n m).imp λσ H Q g=>by
 obtain⟨B,O,δ,d,δ',S,q,k⟩:=g;unfold RN at q;obtain⟨⟨x,e⟩,o,q⟩:=Aa.mp q;refine⟨B,O,δ,x,e,S,o,λl H1 c=>?_⟩;cases x with
 |bl f=>
  have p:l=.bl f:=c.rep.onB;refine⟨f,p,?_⟩;cases f with
  |true=>
   exact P8 ⟨B,O,e,d,δ',c.sta,q,λj r R2=>k j r ⟨R2.sta,c.frm.trans R2.frm,λz=>by obtain⟨i,h⟩:=(Ae _ _).mp z;exact(c.pur i).trans (R2.pur h),R2.rep⟩⟩
  |false=>
   cases q;exact P7 (k _ H1 ⟨c.sta,c.frm,λz=>c.pur ((Ae _ _).mp z).1,.bl _⟩)
 |_=>cases q
def Vt(n:PE X a (TV K ml pa ta ia fa))(m:PE X (.BoolOp .Or (b::es) pos) (TV K ml pb tb ib fb)):PE X (.BoolOp .Or (a::b::es) pos) (TV K ml (pa&&pb) tb ib (fOr fa fb)):=(nR n m).imp λσ H Q g=>by
 obtain⟨B,O,δ,d,δ',S,q,k⟩:=g;unfold fOr at q;obtain⟨⟨x,e⟩,o,q⟩:=Aa.mp q;refine⟨B,O,δ,x,e,S,o,λl H1 c=>?_⟩;cases x with
 |bl f=>
  have p:l=.bl f:=c.rep.onB;refine⟨f,p,?_⟩;cases f with
  |false=>
   exact P7 ⟨B,O,e,d,δ',c.sta,q,λj r R2=>k j r ⟨R2.sta,c.frm.trans R2.frm,λz=>by obtain⟨i,h⟩:=(Ae _ _).mp z;exact(c.pur i).trans (R2.pur h),R2.rep⟩⟩
  |true=>
   cases q;exact P8 (k _ H1 ⟨c.sta,c.frm,λz=>c.pur ((Ae _ _).mp z).1,.bl _⟩)
 |_=>cases q
def Ys(h:PE X a (TV K ml pa ta ia fa)):PE X (.UnaryOp .Not a pos) (TV K ml pa bc bc (fNot fa)):=(jH h).imp λσ H Q e=>by
 obtain⟨B,O,δ,d,δ',S,q,k⟩:=e;unfold fNot at q;obtain⟨⟨x,c⟩,i,q⟩:=Aa.mp q;refine⟨B,O,δ,x,c,S,i,λg H1 b=>?_⟩;cases x with
 |bl f=>
  have j:g=.bl f:=b.rep.onB;cases q;exact⟨f,j,k _ H1 ⟨b.sta,b.frm,b.pur,.bl _⟩⟩
 |_=>cases q
def fIf(t:VB)(x y:VF):VF:=λδ=>(t δ).bind λp=>if p.1=bc then x p.2 else y p.2
def KO{t:VB}(o:PT X c (TB K ml pc t))(r:PE X a (TV K ml pa ta ia fa))(p:PE X b (TV K ml pb tb ib fb)):PE X (.IfExp c a b pos) (TV K ml (pc&&pa&&pb) (ta&&tb) (ia&&ib) (fIf t fa fb)):=(GA o r p).imp λσ H Q i=>by
 obtain⟨B,O,δ,d,δ',S,q,k⟩:=i;unfold fIf at q;obtain⟨⟨l,e⟩,s,q⟩:=Aa.mp q;refine⟨B,O,δ,l,e,S,s,λH1 f=>?_⟩;have n:∀c,((ta&&tb)=bc->c=bc)->∀a,at_ B O (ta&&tb) a->at_ B O c a:=λc h=>sL h;have m:∀c,((ia&&ib)=bc->c=bc)->∀a,av B O (ia&&ib) a->av B O c a:=λc h=>MZ h;cases l with
 |true=>
  exact P8 ⟨B,O,e,d,δ',f.sta,q,λg j R2=>k g j ⟨R2.sta,f.frm.trans R2.frm,λz=>by simp only[Ae]at z;exact(f.pur z.1.1).trans (R2.pur z.1.2),R2.rep.mono (m _ λz=>((Ae _ _).mp z).1) (n _ λz=>((Ae _ _).mp z).1)⟩⟩
 |false=>
  exact P7 ⟨B,O,e,d,δ',f.sta,q,λg j R2=>k g j ⟨R2.sta,f.frm.trans R2.frm,λz=>by simp only[Ae]at z;exact(f.pur z.1.1).trans (R2.pur z.2),R2.rep.mono (m _ λz=>((Ae _ _).mp z).2) (n _ λz=>((Ae _ _).mp z).2)⟩⟩
noncomputable def f3(o o':cZ->cZ->Option cZ)(fa fb fc:VF):VF:=λδ=>(fa δ).bind λp=>(fb p.2).bind λq=>(o p.1 q.1).bind λz=>match z with
 |.bl bc=>(fc q.2).bind λs=>(o' q.1 s.1).map λu=>(u,s.2)
 |.bl be=>ba (.bl be,q.2)
 |_=>bb
def GW(F:O9 K r o)(n:O9 K r' o')(hs:(pb || (ta&&ia))=bc)(m:(pc || (tb&&ib))=bc){Q:VK}(h:TV K ml (pa&&pb&&pc) bc bc (f3 o o' fa fb fc) σ H Q):EV r r' (TV K ml pa ta ia fa) (TV K ml pb tb ib fb) (TV K ml pc tc ic fc) σ H Q:=by
 obtain⟨B,O,δ,d,e,S,q,k⟩:=h;unfold f3 at q;obtain⟨⟨x,b⟩,L,q⟩:=Aa.mp q;cases p:fb b with
 |none=>simp[p]at q
 |some E=>
  obtain⟨y,a⟩:=E;simp only[Ar,p]at q;refine⟨B,O,δ,x,b,S,L,λD H1 c=>⟨B,O,b,y,a,c.sta,p,λt A R2=>?_⟩⟩;obtain⟨z,J,q⟩:=Aa.mp q;refine F A _ _ _ _ D t x y z _ (R2.live hs c.rep) R2.rep J λv f=>?_;have f:=f (λ_=>bb) (λ_=>True) λ_=>True;cases z with
  |bl l=>
   have M:v=.bl l:=f.onB;refine⟨l,M,?_⟩;cases l with
   |false=>
    cases q;exact P7 (k _ A ⟨R2.sta,c.frm.trans R2.frm,λz=>by simp only[Ae]at z;exact(c.pur z.1.1).trans (R2.pur z.1.2),.bl _⟩)
   |true=>
    have q:((fc a).bind λs=>(o' y s.1).map λu=>(u,s.2))=ba (d,e):=q;obtain⟨⟨j,i⟩,I,q⟩:=Aa.mp q;have q:((o' y j).map λu=>(u,i))=ba (d,e):=q;obtain⟨u,G,q⟩:=Ah.mp q;cases q;refine P8 ⟨B,O,a,j,_,R2.sta,I,λC w g=>?_⟩;exact n w _ _ _ _ t C y j d Q (g.live m R2.rep) g.rep G λv f=>k v w ⟨g.sta,(c.frm.trans R2.frm).trans g.frm,λz=>by simp only[Ae]at z;exact((c.pur z.1.1).trans (R2.pur z.1.2)).trans (g.pur z.2),f _ _ _⟩
  |_=>cases q
def tF{op d:CmpOp}(j:XR X (Cd op) r)(g:XR X (Cd d) r')(i:O9 K r o)(e:O9 K r' o')(m:PE X a (TV K ml pa ta ia fa))(l:PE X b (TV K ml pb tb ib fb))(hc:PE X c (TV K ml pc tc ic fc))(k:Sa [op,d] [b,c]=be:=by with_unfolding_all rfl)(hs:(pb || (ta&&ia))=bc:=by rfl)(f:(pc || (tb&&ib))=bc:=by rfl):PE X (.Compare a [op,d] [b,c] pos) (TV K ml (pa&&pb&&pc) bc bc (f3 o o' fa fb fc)):=
 (pO j g m l hc k).imp λ_ _ _ h=>GW i e hs f h
def G2{op d:CmpOp}(j:XR X (Cd op) r)(g:XR X (Cd d) r')(i:O9 K r o)(e:O9 K r' o')(m:PE X a (TV K ml pa ta ia fa))(l:PE X b (TV K ml pb tb ib fb))(hc:PE X c (TV K ml pc tc ic fc))(k:Sa [op,d] [b,c]=be:=by with_unfolding_all rfl)(hs:(pb || (ta&&ia))=bc:=by rfl)(f:(pc || (tb&&ib))=bc:=by rfl):PT X (.Compare a [op,d] [b,c] pos) (TB K ml (pa&&pb&&pc) (fB (f3 o o' fa fb fc))):=
 (eF j g m l hc k).imp λ_ _ _ h=>IT (λ_ _ _=>GW i e hs f) h
end
end
section
variable{X:Cx}{K:Ag}{ml:List Nat}{e a b c:Uv}{es:List Uv}{pa ta ia pb tb ib pc tc ic pu bt bi ps bs:Bool}{fa fb fc:VF}{B:Bs}{O:Nat->Option Up}{H H1 H':Hp}{σ:St}{δ δ':Ev}{v:V}{d:cZ}{p:Up}{pos:Pos}
def f1(o:cZ->Option cZ)(fa:VF):VF:=λδ=>(fa δ).bind λp=>(o p.1).map λc=>(c,p.2)
def UB{o:cZ->Option cZ}(h:f1 o fa δ=ba (d,δ')):∃x,fa δ=ba (x,δ')/\o x=ba d:=by
 unfold f1 at h;cases a:fa δ with
 |none=>rw[a]at h;cases h
 |some p=>
  rw[a]at h;have h:((o p.1).map λc=>(c,p.2))=ba (d,δ'):=h;obtain⟨c,b,h⟩:=Ah.mp h;cases h;exact⟨p.1,rfl,b⟩
abbrev RC:=List V->Hp->VK->Prop
def C9(K:Ag)(r:RC)(o:cZ->Option cZ):Prop:=∀(H:Hp) (N M:Up->Prop) (x:V) (d c:cZ) (Q:VK),bV K N H M x d->o d=ba c->(∀v,(∀H' N M,bV K N H' M v c)->Q v H)->r [x] H Q
def CalN(K:Ag)(r:RC)(o:cZ->Option cZ):Prop:=∀(H:Hp) (N M:Up->Prop) (x:V) (d c:cZ) (Q:VK),bV K N H M x d->o d=ba c->
 (∀p a b,H p=bb->cG K N H a b->c=.lst b->Q (.ref p) (upd H p (.lst a)))->r [x] H Q
def K7(K:Ag)(r:RC)(o:cZ->cZ->Option cZ):Prop:=∀(H:Hp) (N a M b:Up->Prop) (x y:V) (d e c:cZ) (Q:VK),bV K N H M x d->bV K a H b y e->o d e=ba c->(∀v,(∀H' N M,bV K N H' M v c)->Q v H)->r [x,y] H Q
def AZ{r:RC}{o:cZ->Option cZ}(e:C9 K r o){Q:VK}(h:TV K ml pa bc bc (f1 o fa) σ H Q):tCB r (N0 (TV K ml pa ta ia fa) GQ) σ H Q:=by obtain⟨B,O,δ,d,δ',S,q,k⟩:=h;obtain⟨x,g,f⟩:=UB q;exact⟨B,O,δ,x,δ',S,g,λb H1 a=>e H1 _ _ b x d Q a.rep f λv c=>k v H1 ⟨a.sta,a.frm,a.pur,c _ _ _⟩⟩
def KL{r:RC}{o:cZ->Option cZ}(f:CalN K r o){Q:VK}(h:TN K ml pa (f1 o fa) σ H Q):tCB r (N0 (TV K ml pa ta bc fa) GQ) σ H Q:=by obtain⟨B,O,δ,d,δ',S,q,k⟩:=h;obtain⟨x,j,i⟩:=UB q;refine⟨B,O,δ,x,δ',S,j,λb H1 a=>f H1 _ _ b x d Q a.rep i λp l m e c g=>?_⟩;subst g;exact k p _ (mkN a.sta a.frm a.pur e c)
def A0{r:RC}{o:cZ->cZ->Option cZ}(m:K7 K r o)(hs:(pb || (ta&&ia))=bc){Q:VK}(h:TV K ml (pa&&pb) bc bc (f2 o fa fb) σ H Q):tCB r (N0 (TV K ml pa ta ia fa) (N0 (TV K ml pb tb ib fb) GQ)) σ H Q:=by
 obtain⟨B,O,δ,d,c,S,q,k⟩:=h;obtain⟨x,a,y,s,p,n⟩:=OH q;refine⟨B,O,δ,x,a,S,s,λj H1 b=>⟨B,O,a,y,c,b.sta,p,λi e R2=>?_⟩⟩;exact m e _ _ _ _ j i x y d Q (R2.live hs b.rep) R2.rep n λv l=>k v e ⟨R2.sta,b.frm.trans R2.frm,λz=>by obtain⟨g,f⟩:=(Ae _ _).mp z;exact(b.pur g).trans (R2.pur f),l _ _ _⟩
section
variable{x:Uq}{p':Pos}{id T:String}{r:RC}
def RK{o:cZ->Option cZ}(hc:aV X (.builtin id) r)(e:C9 K r o)(i:Gl X x)(g:X.mg x=bb)(d:Bm x=ba (.builtin id))(j:PE X a (TV K ml pa ta ia fa))(f:x≠ "__name__":=by decide)(b:ND x:=by decide)(c:SE X a []:=by rfl):PE X (.Call (.Name x p') [a] [] pos) (TV K ml pa bc bc (f1 o fa)):=
 (UU hc i g d (bA j ZX c) f b c).imp λ_ _ _ h=>AZ e h
def YG{o:cZ->cZ->Option cZ}(hc:aV X (.builtin id) r)(i:K7 K r o)(l:Gl X x)(k:X.mg x=bb)(g:Bm x=ba (.builtin id))(n:PE X a (TV K ml pa ta ia fa))(m:PE X b (TV K ml pb tb ib fb))(j:x≠ "__name__":=by decide)(e:ND x:=by decide)(f:SE X a [b]:=by rfl)(d:SE X b []:=by rfl)(c:(Co pos (Us [b] X.env)).any (·.1)=be:=by rfl)(hs:(pb || (ta&&ia))=bc:=by rfl):PE X (.Call (.Name x p') [a,b] [] pos) (TV K ml (pa&&pb) bc bc (f2 o fa fb)):=
 (UU hc l k g (bA n (bA m ZX d) f) j e f c).imp λ_ _ _ h=>A0 i hs h
def MS{o:cZ->Option cZ}(hc:aV X (.type T) r)(e:CalN K r o)(i:Gl X x)(g:X.mg x=bb)(d:Bm x=ba (.type T))(j:PE X a (TV K ml pa ta bc fa))(f:x≠ "__name__":=by decide)(b:ND x:=by decide)(c:SE X a []:=by rfl):PE X (.Call (.Name x p') [a] [] pos) (TN K ml pa (f1 o fa)):=
 (OS hc i g d (bA j ZX c) f b c).imp λ_ _ _ h=>KL e h
def Zd{o:cZ->Option cZ}(hc:aV X (.builtin id) r)(e:CalN K r o)(i:Gl X x)(g:X.mg x=bb)(d:Bm x=ba (.builtin id))(j:PE X a (TV K ml pa ta bc fa))(f:x≠ "__name__":=by decide)(b:ND x:=by decide)(c:SE X a []:=by rfl):PE X (.Call (.Name x p') [a] [] pos) (TN K ml pa (f1 o fa)):=
 (UU hc i g d (bA j ZX c) f b c).imp λ_ _ _ h=>KL e h
end
noncomputable def ZC:cZ->Option cZ
 |.tup ds=>ba (.int ds.length)
 |.lst ds=>ba (.int ds.length)
 |.str z=>if z.length<=16777216 then ba (.int z.length)else bb
 |_=>bb
def rLen(K:Ag):RC:=λb H Q=>(∃p a,b=[.ref p]/\(W8 K H p a∨UN K H p a)/\Q (.int a.length) H)∨∃z,b=[.str z]/\z.length<=sizeLine/\Q (.int z.length) H
def rC(h:X.K=K:=by rfl):aV X (.builtin "len") (rLen K):=by subst h;exact HH.or HI
def uT:C9 K (rLen K) ZC:=by
  intro H N M x d c Q b h k;cases d<;>first
    | (rename_i f
       obtain⟨a,e,rfl,sq,r⟩:=b.seq rfl;cases h;refine .inl ⟨a,e,rfl,sq,?_⟩;rw[r.length];exact k _ λ_ _ _=>.int _)
    | (cases b.onS
       simp only[ZC]at h;split at h;cases h;exact .inr ⟨_,rfl,by rw[Bg];assumption,k _ λ_ _ _=>.int _⟩;cases h)
    |cases h
def QA(d:cZ):Option cZ:=(WW d).map cZ.lst
def Xu(K:Ag):RC:=λb H Q=>∃p a,b=[.ref p]/\(W8 K H p a∨UN K H p a)/\∀l,H l=bb->Q (.ref l) (upd H l (.lst a))
def OK(h:X.K=K:=by rfl):aV X (.type "list") (Xu K):=rR h
def fE{d:cZ}{g:List cZ->cZ}{c:cZ}(h:(WW d).map g=ba c):∃ds,WW d=ba ds/\c=g ds:=by
 cases a:WW d with
 |none=>rw[a]at h;cases h
 |some ds=>rw[a]at h;cases h;exact⟨ds,rfl,rfl⟩
def ZO:CalN K (Xu K) QA:=by intro H N M x d c Q e h k;obtain⟨g,f,rfl⟩:=fE h;obtain⟨a,b,rfl,sq,r⟩:=e.seq f;exact⟨a,b,rfl,sq,λl hl=>k l b g hl r rfl⟩
noncomputable def o2I(g:Int->Int->Int):cZ->cZ->Option cZ
 |.int i,.int j=>ba (.int (g i j))
 |_,_=>bb
def pB{g:Int->Int->Int}:K7 K (λa H Q=>∃i j,a=[.int i,.int j]/\Q (.int (g i j)) H) (o2I g):=by
 intro H N l M m x y d e c Q f b h k;unfold o2I at h;split at h;cases h;cases f.onI;cases b.onI;exact⟨_,_,rfl,k _ λ_ _ _=>.int _⟩;cases h
abbrev oMin:=o2I λi j=>if j<i then j else i
def lG:K7 K (λa H Q=>∃i j,a=[.int i,.int j]/\Q (.int (if j<i then j else i)) H) oMin:=pB
def tyD:cZ->Option String
 |.non=>ba "NoneType"
 |.bl _=>ba "bool"
 |.int _=>ba "int"
 |.str _=>ba "str"
 |.tup _=>ba "tuple"
 |.lst _=>ba "list"
 |.dct _ _=>ba "dict"
 |_=>bb
def NE(t n:String):Option Bool:=if((Gz t)==(Gz n))=bc then ba bc else if W.kitMeta n=bc then(PySem.fastBuiltinMro t).map (·.contains (.type n))else bb
def uA{t n:String}{k:Bool}(h:NE t n=ba k):Hb K (.type t) (.type n)=ba k:=h
def UD:cZ->cZ->Option cZ
 |d,.ty n=>(tyD d).bind λt=>(NE t n).map cZ.bl
 |_,_=>bb
def rIsi(K:Ag):RC:=λa H Q=>∃x n d N M t k,a=[x,.ty n]/\bV K N H M x d/\tyD d=ba t/\NE t n=ba k/\Q (.bl k) H
def gU:aV X (.builtin "isinstance") (rIsi X.K):=by
 intro C s σ H D E Q I r h;obtain⟨x,n,d,N,M,t,k,rfl,p,b,B,q⟩:=h;obtain⟨u,c,rfl,f,w⟩:=GY r;cases (show c=Gz n from w);have e:=uA (K:=X.K) B;have a:∀m,EP X C σ Q (.bool k) {s with toks:=m}:=λm=>⟨.bl k,H,I.tok m,rfl,q⟩;cases p with
 |non=>cases b;exact UR I f (.non) e a
 |bl y=>cases b;exact UR I f (.bl y) e a
 |int i=>cases b;exact UR I f (.int i) e a
 |str y=>cases b;exact UR I f (.str y) e a
 |ty n=>cases b
 |fn _=>cases b
 |dcn _ _ _=>cases b
 |shp _ _ _=>cases b
 |dct q _ _=>cases b;exact UR I f (.dK q) e a
 |ktb T _=>
  obtain⟨_,o,es,F,A,p,_⟩:=T;cases b;cases f;exact Er Sc I.kIn ⟨o,I.kIn _ _ A,p.1⟩ e (λz=>nomatch z) a
 |exn _ _ _=>cases b
 |exr _ _ _ _ _=>cases b
 |tup q _=>
  cases b;cases f;obtain⟨g,_,⟨o,l,j,_⟩,_⟩:=I.tuple q;exact Er Qp I.kIn ⟨o,l,j⟩ e (λz=>nomatch z) a
 |lst q _ _=>
  cases b;cases f;obtain⟨g,_,⟨o,n,l,j,_⟩,_⟩:=I.list (W8.of q);exact Er Lq I.kIn ⟨o,l,j⟩ e (λz=>nomatch z) a
 |fzl q _=>
  cases b;cases f;obtain⟨g,_,⟨o,n,l,j,_⟩,_⟩:=I.list q.sq;exact Er Lq I.kIn ⟨o,l,j⟩ e (λz=>nomatch z) a
def kIsi(h:X.K=K:=by rfl):aV X (.builtin "isinstance") (rIsi K):=by subst h;exact gU
def sF:K7 K (rIsi K) UD:=by
  intro H N j M l x y d e c Q g f h k;cases f<;>first
    | (simp only [UD]at h
       cases a:tyD d with
       |none=>rw[a]at h;cases h
       |some t=>
         rw[a]at h;rename_i n;have h:(NE t n).map cZ.bl=ba c:=h;obtain⟨b,i,h⟩:=Ah.mp h;cases h;exact⟨x,n,d,N,M,t,b,rfl,g,a,i,k _ λ_ _ _=>.bl _⟩)
    |cases h
def oNeg:cZ->Option cZ
 |.int i=>ba (.int (-i))
 |_=>bb
def E2(g:PE X a (TV K ml pa ta ia fa)):PE X (.UnaryOp .USub a pos) (TV K ml pa bc bc (f1 oNeg fa)):=(rF lZ g).imp λσ H Q c=>by
 obtain⟨B,O,δ,d,δ',S,q,k⟩:=c;obtain⟨x,h,e⟩:=UB q;refine⟨B,O,δ,x,δ',S,h,λf H1 b=>?_⟩;cases x with
 |int i=>
  cases e;have j:f=.int i:=b.rep.onI;exact⟨i,j,k _ H1 ⟨b.sta,b.frm,b.pur,.int _⟩⟩
 |_=>cases e
abbrev VP:=Ev->Option (Option Int×Ev)
inductive TPOi(K:Ag)(ml:List Nat)(pu:Bool)(f:VP)(σ:St)(H:Hp)(Q:Option Int->Hp->Prop):Prop
 |mk (B:_) (O:_) (δ:_) (k:_) (δ':_) (h0:bN K ml B O H σ δ) (h1:f δ=ba (k,δ')) (h2:∀H',ResB K ml B O H σ pu H' δ'->Q k H'):TPOi K ml pu f σ H Q
def TPO(K:Ag)(ml:List Nat)(pu:Bool)(f:VP):TO:=λσ H Q=>TPOi K ml pu f σ H Q
def pNo:VP:=λδ=>ba (bb,δ)
def pSo(f:VF):VP:=λδ=>(f δ).bind λp=>match p.1 with
 |.int i=>ba (ba i,p.2)
 |_=>bb
def PO.imp{e:Option Uv}{t u:TO}(h:PO X e t)(k:∀σ H Q,u σ H Q->t σ H Q):PO X e u:=λa s σ H Q I w=>h a s σ H Q I (k σ H Q w)
def jW:PO X bb (TPO K ml bc pNo):=zFL.imp λσ H Q a=>by obtain⟨B,O,δ,d,δ',S,q,k⟩:=a;cases q;exact k H (ResB.refl S)
def gW(h:PE X a (TV K ml pa ta ia fa)):PO X (ba a) (TPO K ml pa (pSo fa)):=(rN h).imp λσ H Q e=>by
 obtain⟨B,O,δ,d,δ',S,q,k⟩:=e;unfold pSo at q;obtain⟨⟨x,c⟩,g,q⟩:=Aa.mp q;refine⟨B,O,δ,x,c,S,g,λf H1 b=>?_⟩;cases x with
 |int i=>
  have j:f=.int i:=b.rep.onI;cases q;exact⟨i,j,k H1 ⟨b.sta,b.frm,b.pur⟩⟩
 |_=>cases q
def FL(ds:List cZ)(lo a:Option Int):List cZ:=(ds.drop (HT.sIx ds.length 0 lo)).take (HT.sIx ds.length ds.length a-HT.sIx ds.length 0 lo)
def M4{N:Up->Prop}{xs:List V}{ds:List cZ}(r:cG K N H xs ds)(lo a:Option Int):cG K N H (FM xs lo a) (FL ds lo a):=by unfold FM FL;rw[r.length];exact(r.drop _).take _
def oSl(d:cZ)(lo a:Option Int):Option cZ:=match d with
 |.lst ds=>ba (.lst (FL ds lo a))
 |.tup ds=>ba (.tup (FL ds lo a))
 |_=>bb
noncomputable def fSl(fa:VF)(a b:VP):VF:=λδ=>(fa δ).bind λp=>(a p.2).bind λl=>(b l.2).bind λu=>(oSl p.1 l.1 u.1).map λc=>(c,u.2)
def AX{prog:Ao}{w:Uw}{A:Bp}{E:Uo->Ad->Prop}{s:Ad}{t b:Up}{items:Array Uo}{f e:Uo}{lo g:Option Int}{Q:Uo->Ad->Prop}(a:IsTup s.heap t items)(hs:s.heap.IsSliceOf b f e .none)(pl:IsPart f lo)(pu:IsPart e g)(l:HT.sIx items.size 0 lo=0)(k:HT.sIx items.size items.size g=items.size)(h:Q (.ref t) s):Ut (Uu prog w) A (Lr (.ref t) (.ref b)) Q E s:=by
 obtain⟨os,c,d,i⟩:=id hs;have j:s.TypeIs (.ref b) "slice":=⟨os,c,d⟩;unfold Lr;try with_reducible refine Bf ?_
 first|refine Ab (Af ?_)|skip
 refine Ab (Lc a.typeIs (by decide) ?_);refine Ab (Ci (name:=Ef "__getitem__") a.typeIs Ei
  (Cf Ei a.typeIs PyProof.Rows.entry_tuple_getitem ?_ (PyProof.Rows.args_tuple_getitem _ _)))
 show Ut _ _ (Kj (.ref t)>>=_) _ _ s;refine Ab (PyProof.Rows.tupleItemsOf_ a ?_);refine Ab (Mr j ?_);rw[if_pos (by decide)];refine Ab (HT.U0 hs pl pu ?_);rw[l,k];show Ut _ _ (if((((0:Nat):Int)==0&&(1:Int)==1&&(items.size-0)==items.size)=bc)then _ else _) _ _ s;rw[if_pos (by simp)];refine Ab (m:=So _) (Ab (Mr a.typeIs (Af ?_)));rw[if_pos (by decide)];exact Ab (Lb (Af ⟨_,rfl,Af h⟩))
def rSlW(K:Ag):V->Option Int->Option Int->Hp->VK->Prop:=λx lo c H Q=>∃a b,x=.ref a/\UN K H a b/\(HT.sIx b.length 0 lo=0/\HT.sIx b.length b.length c=b.length)/\Q (.ref a) H
def uC:SlR X (rSlW X.K):=by
 intro o s σ H x v k j lo n l Q I f i pl pu h;obtain⟨a,e,rfl,g,hw,q⟩:=h;cases f;obtain⟨b,r,c,m⟩:=I.tuple g;have d:b.toArray.size=e.length:=by rw[Ak];exact r.length.symm
 refine⟨"tuple",_,PyProof.Rows.slot_tuple_getitem.lookup,c.typeIs,?_⟩;exact AX c i pl pu (by rw[d];exact hw.1) (by rw[d];exact hw.2) ⟨.ref a,H,I,rfl,q⟩
def rSl(K:Ag):V->Option Int->Option Int->Hp->VK->Prop:=λx lo a H Q=>(rSlT K x lo a H Q∨rSlL K x lo a H Q)∨rSlW K x lo a H Q
def kSl(h:X.K=K:=by rfl):SlR X (rSl K):=by subst h;exact(zIV.or oO).or uC
def uO{f g:VP}(h:fSl fa f g δ=ba (d,δ')):∃x δ1 l a u,fa δ=ba (x,δ1)/\f δ1=ba (l,a)/\g a=ba (u,δ')/\oSl x l u=ba d:=by
 unfold fSl at h;cases i:fa δ with
 |none=>rw[i]at h;cases h
 |some p=>
  rw[i]at h;cases e:f p.2 with
  |none=>simp[e]at h
  |some q=>
   simp only[Ar,e]at h;cases b:g q.2 with
   |none=>simp[b]at h
   |some s=>
    simp only[Ar,b]at h;obtain⟨c,j,h⟩:=Ah.mp h;cases h;exact⟨p.1,p.2,q.1,q.2,s.1,rfl,e,b,j⟩
def eK{lo C:Option Uv}{J:Pos}{D E:VP}(N:X.K=K)(M:PE X a (TV K ml pa ta ia fa))(hl:PO X lo (TPO K ml pb D))(L:PO X C (TPO K ml pc E))(hs:(pb&&pc || (ta&&ia))=bc:=by rfl):
  PE X (.Subscript a (.Slice lo C bb J) pos) (TV K ml (pa&&pb&&pc) bc ia (fSl fa D E)):=(pA (kSl N) M hl L).imp λσ H Q y=>by
 obtain⟨B,O,δ,d,s,S,q,k⟩:=y;obtain⟨x,j,l,i,u,T,R,P,A⟩:=uO q;refine⟨B,O,δ,x,j,S,T,λI H1 o=>⟨B,O,j,l,i,o.sta,R,λU R2=>⟨B,O,i,u,s,R2.sta,P,λF c=>?_⟩⟩⟩;have w:bV K (av B O ia) F (at_ B O ta) I x:=by
  rcases(Jy _ _).mp hs with z|z;obtain⟨v,t⟩:=(Ae _ _).mp z;exact(o.rep.same (R2.pur v)).same (c.pur t);obtain⟨v,t⟩:=(Ae _ _).mp z;subst v t;exact(o.rep.fr R2.frm (λa z=>.inr z) λa z=>.inr z).fr c.frm (λa z=>.inr z) λa z=>.inr z
 have m:(pa&&pb&&pc)=bc->bI H F:=λz=>by simp only[Ae]at z;exact((o.pur z.1.1).trans (R2.pur z.1.2)).trans (c.pur z.2)
 have f:=(o.frm.trans R2.frm).trans c.frm;cases x with
 |lst h=>
  cases A;obtain⟨a,G,rfl,sq,r⟩:=w.seq rfl;rcases sq with sq|sq
  exact .inl (.inr ⟨a,G,rfl,sq,λp b=>k _ _ ⟨c.sta.same (cR b),f.trans (cR b).fr,λz=>(m z).trans (cR b),.lst cM (c.sta.new b) ((M4 r l u).same (cR b))⟩⟩);cases w.onL with
  |lst q n g=>exact .inl (.inr ⟨a,_,rfl,W8.of q,λp b=>k _ _ ⟨c.sta.same (cR b),f.trans (cR b).fr,λz=>(m z).trans (cR b),.lst cM (c.sta.new b) ((M4 g l u).same (cR b))⟩⟩)
  |fzl q g=>exact .inl (.inr ⟨a,_,rfl,q.sq,λp b=>k _ _ ⟨c.sta.same (cR b),f.trans (cR b).fr,λz=>(m z).trans (cR b),.lst cM (c.sta.new b) ((M4 g l u).same (cR b))⟩⟩)
 |tup h=>
  cases A;cases w.onT with
  |tup q g=>
   by_cases hw:HT.sIx h.length 0 l=0/\HT.sIx h.length h.length u=h.length;refine .inr ⟨_,_,rfl,q,by rw [g.length];exact hw,k _ _ ⟨c.sta,f,m,?_⟩⟩;have e:FL h l u=h:=by unfold FL;rw[hw.1,hw.2];simp
   rw[e];exact .tup q g;exact .inl (.inl ⟨_,_,rfl,q,by rw[g.length];exact hw,λp b=>k _ _ ⟨c.sta.same (cR b),f.trans (cR b).fr,λz=>(m z).trans (cR b),.tup (UN.of cM) ((M4 g l u).same (cR b))⟩⟩)
 |_=>cases A
end
inductive Ou where
 |nx (δ:Ev)|rt (d:cZ) (δ:Ev)|bk (δ:Ev)|ct (δ:Ev)
abbrev VS:=Ev->Option Ou
def Post(K:Ag)(ml:List Nat)(B:Bs)(D:N5):Ou->Prop
 |.nx b=>∀a c e,bN K ml B e c a b->D.nx a c
 |.rt d b=>∀v a c e,bN K ml B e c a b->bV K (rz B) c (rz B) v d->D.rt v c
 |.bk b=>∀a c e,bN K ml B e c a b->D.bk a c
 |.ct b=>∀a c e,bN K ml B e c a b->D.ct a c
inductive TSti(K:Ag)(ml:List Nat)(g:VS)(D:N5)(σ:St)(H:Hp):Prop
 |mk (B:_) (O:_) (δ:_) (o:_) (h0:bN K ml B O H σ δ) (h1:g δ=ba o) (h2:Post K ml B D o):TSti K ml g D σ H
def WZ(K:Ag)(ml:List Nat)(g:VS):TS:=λD a H=>TSti K ml g D a H
section
variable{X:Cx}{K:Ag}{ml:List Nat}{e a b c:Uv}{es:List Uv}{pa ta ia pb tb ib pc tc ic pu bt bi ps bs:Bool}{fa fb fc f:VF}{B B':Bs}{O:Nat->Option Up}{H H1 H':Hp}{σ:St}{δ δ':Ev}{v:V}{d:cZ}{p:Up}{pos:Pos}{st:Vb}{rest:List Vb}{g g':VS}
def bO:VS:=λδ=>ba (.nx δ)
def cH(g g':VS):VS:=λδ=>(g δ).bind λo=>match o with
 |.nx δ'=>g' δ'
 |o=>ba o
def cN:X4 X [] (WZ K ml bO):=IE.imp λD σ H a=>by obtain⟨B,O,δ,o,S,q,k⟩:=a;cases q;exact k σ H O S
def cX(c:PS X st (WZ K ml g))(f:X4 X rest (WZ K ml g')):X4 X (st::rest) (WZ K ml (cH g g')):=(UV c f).imp λD σ H b=>by
 obtain⟨B,O,δ,o,S,q,k⟩:=b;unfold cH at q;obtain⟨z,c,q⟩:=Aa.mp q;refine⟨B,O,δ,z,S,c,?_⟩;cases z with
 |nx a=>exact λe H' i h=>⟨B,i,a,o,h,q,k⟩
 |rt d a=>cases q;exact k
 |bk a=>cases q;exact k
 |ct a=>cases q;exact k
def cW(a:PS X st (WZ K ml g)):X4 X [st] (WZ K ml g):=(UV a IE).imp λD σ H ⟨B,O,δ,o,S,q,k⟩=>⟨B,O,δ,o,S,q,by cases o<;>exact k⟩
def cD(f:VF):VS:=λδ=>(f δ).map λp=>.rt p.1 p.2
def cP(h:PE X e (TV K ml pu bt bi f))(b:bt=bc:=by rfl):PS X (.Return (ba e) pos) (WZ K ml (cD f)):=(EE h).imp λD σ H a=>by obtain⟨B,O,δ,o,S,q,k⟩:=a;unfold cD at q;obtain⟨p,c,q⟩:=Ah.mp q;cases q;subst b;exact⟨B,O,δ,p.1,p.2,S,c,λv H' R=>k v σ H' O R.sta (R.rep.mono R.sta.rza R.sta.rzn)⟩
def C6{i:Nat}(h:PE X e (YV i))(c:i∉ml:=by decide):PS X (.Return (ba e) pos) (WZ K ml (cD (fO i))):=(EE h).imp λD σ H a=>by obtain⟨B,O,δ,o,S,q,k⟩:=a;unfold cD at q;obtain⟨⟨x,b⟩,d,q⟩:=Ah.mp q;cases q;obtain⟨rfl,v,f,r⟩:=S.lone c d;exact⟨v,f,k v σ H O S (r.mono S.rza S.rza)⟩
def UZ(f:VF):VS:=λδ=>(f δ).map λp=>.nx p.2
def VR(h:PE X e (TV K ml pu bt bi f))(hs:Va e bb pos.line X.env=pure be:=by rfl):PS X (.Expr e pos) (WZ K ml (UZ f)):=(QD h hs).imp λD σ H a=>by obtain⟨B,O,δ,o,S,q,k⟩:=a;unfold UZ at q;obtain⟨p,b,q⟩:=Ah.mp q;cases q;exact⟨B,O,δ,p.1,p.2,S,b,λv H' R=>k σ H' O R.sta⟩
def ZU(t:VB)(g g':VS):VS:=λδ=>(t δ).bind λp=>if p.1=bc then g p.2 else g' p.2
def b6{x y:List Vb}{t:VB}(f:PT X c (TB K ml pc t))(i:X4 X x (WZ K ml g))(h:X4 X y (WZ K ml g')):PS X (.If c x y pos) (WZ K ml (ZU t g g')):=(Vx f i h).imp λD σ H b=>by
 obtain⟨B,O,δ,o,S,q,k⟩:=b;unfold ZU at q;obtain⟨⟨d,a⟩,j,q⟩:=Aa.mp q;refine⟨B,O,δ,d,a,S,j,λH1 e=>?_⟩;cases d with
 |true=>exact P8 ⟨B,O,a,o,e.sta,q,k⟩
 |false=>exact P7 ⟨B,O,a,o,e.sta,q,k⟩
abbrev VX:=Ev->Option (Sl×Ev)
inductive St1(K:Ag)(B:Bs)(O:Nat->Option Up)(H:Hp):Bs->V->Sl->Prop
 |va {v:V}{d:cZ}:St1 K B O H {B with kp:=[(v,d)]++B.kp} v (.va d)
 |ol {p:Up}{xs:List V}{ds:List cZ}:H p=ba (.lst xs)->xs.length=ds.length->¬Nn B O p->B.H0 p=bb->St1 K B O H {B.add p with kp:=xs.zip ds++B.kp} (.ref p) (.ow (.lst ds))
 |od {p:Up}{kvs:List (Z2×V)}{ds:List cZ}:H p=ba (.dK kvs)->kvs.length=ds.length->¬Nn B O p->B.H0 p=bb->St1 K B O H {B.add p with kp:=(kvs.map By).zip ds++B.kp} (.ref p) (.ow (.dct (kvs.map Br) ds))
 |on {p:Up}{kvs:List (List Ky×V)}{ds:List cZ}:H p=ba (.dT kvs)->kvs.length=ds.length->¬Nn B O p->B.H0 p=bb->St1 K B O H {B.add p with kp:=(kvs.map By).zip ds++B.kp} (.ref p) (.ow (.dcn (kvs.map Br) ds))
 |os {p:Up}{x:Uq}{ns:List Uq}{g:Option (Uq×Option Up)}{vs:List V}{ds:List cZ}:X5 K H p x ns g vs->vs.length=ds.length->¬Nn B O p->B.H0 p=bb->St1 K B O H {B.add p with kp:=vs.zip ds++B.kp} (.ref p) (.ow (.shp x ns g ds))
def St1.fr{s:Sl}(h:St1 K B O H B' v s)(f:Fr (OA O) H H'):St1 K B O H' B' v s:=by
 cases h with
 |va=>exact .va
 |ol q l n z=>exact .ol (f _ _ q λw=>absurd (.inr w) n) l n z
 |od q l n z=>exact .od (f _ _ q λw=>absurd (.inr w) n) l n z
 |on q l n z=>exact .on (f _ _ q λw=>absurd (.inr w) n) l n z
 |os q l n z=>exact .os (q.kept λo e=>f _ _ e λw=>absurd (.inr w) n) l n z
inductive TXi(K:Ag)(ml:List Nat)(f:VX)(σ:St)(H:Hp)(Q:VK):Prop
 |mk (B:_) (O:_) (δ:_) (s:_) (δ':_) (h0:bN K ml B O H σ δ) (h1:f δ=ba (s,δ')) (h2:∀v H' B',bN K ml B' O H' σ δ'->St1 K B O H' B' v s->Fr (OA O) H H'->Q v H'):TXi K ml f σ H Q
def TX(K:Ag)(ml:List Nat)(f:VX):TE:=λσ H Q=>TXi K ml f σ H Q
def xV(f:VF):VX:=λδ=>(f δ).map λp=>(.va p.1,p.2)
def xO(f:VF):VX:=λδ=>(f δ).map λp=>(.ow p.1,p.2)
def aF(h:PE X e (TV K ml pu bc bc f)):PE X e (TX K ml (xV f)):=h.imp λσ H Q a=>by
 obtain⟨B,O,δ,o,δ',S,q,k⟩:=a;unfold xV at q;obtain⟨p,c,q⟩:=Ah.mp q;cases q;exact⟨B,O,δ,p.1,p.2,S,c,λv H' R=>k v H' _ (R.sta.keepV (ps:=[(v,p.1)]) λz b=>by rw[Au.mp b];exact R.rep) .va R.frm⟩
theorem XX{N:Up->Prop}:∀{xs:List V}{ds:List cZ},cG K N H xs ds->∀z∈xs.zip ds,bV K N H N z.1 z.2
 |_,_,.nil,z,a=>nomatch a
 |_,_,.cons h t,z,a=>by
  rcases Bj.mp a with e|e;rw[e];exact h;exact XX t z e
theorem UF{N:Up->Prop}:∀{xs:List V}{ds:List cZ},xs.length=ds.length->(∀z∈xs.zip ds,bV K N H N z.1 z.2)->cG K N H xs ds
 |[],[],_,_=>.nil
 |x::xs,d::ds,hl,h=>.cons (h (x,d) (Bu ..)) (UF (by simpa using hl) λz a=>h z (Ay _ a))
def KP(h:PE X e (TN K ml pu f)):PE X e (TX K ml (xO f)):=h.imp λσ H Q b=>by
 obtain⟨B,O,δ,o,δ',S,q,k⟩:=b;unfold xO at q;cases c:f δ with
 |none=>rw[c]at q;cases q
 |some p=>
  obtain⟨d,a⟩:=p;rw[c]at q;cases q;refine⟨B,O,δ,d,a,S,c,λp H' R=>?_⟩;have w:=R.own;cases w with
  |lst q r=>exact k _ H' _ (R.sta.keepV (XX r)) (.ol q r.length R.nz R.h0) R.frm
  |dct q r=>exact k _ H' _ (R.sta.keepV (XX r)) (.od q (by simpa using r.length) R.nz R.h0) R.frm
  |dcn q r=>exact k _ H' _ (R.sta.keepV (XX r)) (.on q (by simpa using r.length) R.nz R.h0) R.frm
  |shp q r=>exact k _ H' _ (R.sta.keepV (XX r)) (.os q r.length R.nz R.h0) R.frm
def St1.bind{d:Nat->Option Up}{s:Sl}{i:Nat}(h:St1 K B O H' B' v s)(S:bN K ml B' d H' σ δ)(b:i∉ml)(hl:i<δ.length):∃c,bN K ml B c H' (σ.set i (ba v)) (δ.set i s):=by
 cases h with
 |va=>
  refine⟨_,bN.unkeep (ps:=_) (S.setVa b (S.kep _ (Aq _ (Au.mpr rfl))))⟩
 |ol q l n z=>
  refine⟨_,bN.setOw (bN.unkeep (B:=B.add _) S) b hl (λw=>n (.inl w)) z (.lst q (UF l λz a=>S.kep z (Aq _ a)))⟩
 |od q l n z=>
  refine⟨_,bN.setOw (bN.unkeep (B:=B.add _) S) b hl (λw=>n (.inl w)) z (.dct q (UF (by simpa using l) λz a=>S.kep z (Aq _ a)))⟩
 |on q l n z=>
  refine⟨_,bN.setOw (bN.unkeep (B:=B.add _) S) b hl (λw=>n (.inl w)) z (.dcn q (UF (by simpa using l) λz a=>S.kep z (Aq _ a)))⟩
 |os q l n z=>
  refine⟨_,bN.setOw (bN.unkeep (B:=B.add _) S) b hl (λw=>n (.inl w)) z (.shp q (UF l λz a=>S.kep z (Aq _ a)))⟩
def aN(i:Nat)(x:VX):VS:=λδ=>(x δ).bind λp=>if i<p.2.length then ba (.nx (p.2.set i p.1))else bb
def bK{i:Nat}{y:Uq}{x:VX}{d:Pos}(m:X.N.Nodup)(l:PE X e (TX K ml x))(h:X.N[i]?=ba y:=by rfl)(f:Loc X.env.scope y:=by first|exact .inl rfl|exact .inr rfl)(g:i∉ml:=by decide)(hs:Va e (ba (.Name y d)) pos.line X.env=pure be:=by rfl)
  (j:LO X y:=by first|exact .inl rfl|exact .inr rfl|assumption):PS X (.Assign [.Name y d] e pos) (WZ K ml (aN i x)):=(nP m h f l hs j).imp λD σ H b=>by
 obtain⟨B,O,δ,o,S,q,k⟩:=b;unfold aN at q;obtain⟨⟨s,a⟩,n,q⟩:=Aa.mp q;have q:(if i<a.length then ba (Ou.nx (a.set i s))else bb)=ba o:=q;split at q;rename_i hl;cases q;refine⟨B,O,δ,s,a,S,n,λv H' B' r p u=>?_⟩;obtain⟨t,c⟩:=p.bind r g hl;exact k _ _ _ c;cases q
noncomputable def CO(i j:Nat)(x y:VX):VS:=λδ=>(x δ).bind λp=>(y p.2).bind λq=>if i<q.2.length/\j<q.2.length then ba (.nx ((q.2.set j q.1).set i p.1))else bb
def sG{i j:Nat}{y z:Uq}{t r:VX}{g f pt:Pos}{kt k2 pt2}(hc:X.calm=bc)(Q:X.N.Nodup)(J:X.N[i]?=ba y)(I:X.N[j]?=ba z)(d:i≠j)(G:X.env.scope.names.lookup y=ba .local)(F:X.env.scope.names.lookup z=ba .local)(P:PE X a (TX K ml t))(M:PE X b (TX K ml r))(hw:Ic [.Tuple [.Name y g,.Name z f] kt pt] (.Tuple [a,b] k2 pt2) X.env=pure (ba [y,z]))(m:i∉ml:=by decide)(l:j∉ml:=by decide)(hs:Ib [.Tuple [.Name y g,.Name z f] kt pt] (.Tuple [a,b] k2 pt2) pos.line X.env=pure be:=by rfl)(L:SE X a [b]:=by rfl)(n:SE X b []:=by rfl):
  PS X (.Assign [.Tuple [.Name y g,.Name z f] kt pt] (.Tuple [a,b] k2 pt2) pos) (WZ K ml (CO i j t r)):=(gC hc Q J I d G F (bA P (bA M ZX n) L) hw hs).imp λD σ H h=>by
 obtain⟨B,O,δ,o,S,q,k⟩:=h;unfold CO at q;obtain⟨⟨s,c⟩,R,q⟩:=Aa.mp q;cases p:r c with
 |none=>simp[p]at q
 |some E=>
  obtain⟨C,e⟩:=E;simp only[Ar,p]at q;split at q;rename_i hl;cases q;refine⟨B,O,δ,s,c,S,R,λv H1 W V x f1=>⟨W,O,c,C,e,V,p,λA H2 B2 U w f2=>⟨v,A,rfl,?_⟩⟩⟩;obtain⟨Z,T⟩:=w.bind U l hl.2;obtain⟨Y,u⟩:=(x.fr f2).bind T m (by rw[Ct];exact hl.1);rw[Te _ _ (Dm d)]at u;exact k _ _ _ u;cases q
abbrev VG:=cZ->Ev->Option Ev
inductive TGVi(K:Ag)(ml:List Nat)(h:VG)(v:V)(σ:St)(H:Hp)(Q:St->Hp->Prop):Prop
 |mk (B:_) (O:_) (δ:_) (d:_) (δ':_) (h0:bN K ml B O H σ δ) (h1:bV K (Nn B O) H (Nn B O) v d) (h2:h d δ=ba δ') (h3:∀σ' O',bN K ml B O' H σ' δ'->(∀i∈ml,σ'[i]?=σ[i]?)->Q σ' H):TGVi K ml h v σ H Q
def DC(K:Ag)(ml:List Nat)(h:VG):TG:=λv σ H Q=>TGVi K ml h v σ H Q
def PG.imp{t u:TG}(h:PG X e t)(k:∀v σ H Q,u v σ H Q->t v σ H Q):PG X e u:=λa s σ H v w Q I r z=>h a s σ H v w Q I r (k v σ H Q z)
def BA.imp{t u:TGs}(h:BA X es t)(k:∀v σ H Q,u v σ H Q->t v σ H Q):BA X es u:=λa s σ H v w Q I r z=>h a s σ H v w Q I r (k v σ H Q z)
def PG.or{t u:TG}(h:PG X e t)(h':PG X e u):PG X e (λv σ H Q=>t v σ H Q∨u v σ H Q):=λa s σ H v w Q I r z=>by
 rcases z with z|z;exact h a s σ H v w Q I r z;exact h' a s σ H v w Q I r z
def gN(i:Nat):VG:=λd δ=>ba (δ.set i (.va d))
def b5{i:Nat}{x:Uq}(h:X.N.Nodup)(f:X.N[i]?=ba x:=by rfl)(c:Loc X.env.scope x:=by first|exact .inl rfl|exact .inr rfl)(b:i∉ml:=by decide)(g:LO X x:=by first|exact .inl rfl|exact .inr rfl|assumption):PG X (.Name x pos) (DC K ml (gN i)):=
 (RZ h f c g).imp λv σ H Q a=>by obtain⟨B,O,δ,d,δ',S,r,q,k⟩:=a;cases q;exact k _ _ (S.setVa b r) λj e=>Az λ(z:i=j)=>b (z▸e)
abbrev VGs:=List cZ->Ev->Option Ev
inductive Yl(K:Ag)(ml:List Nat)(h:VGs)(vs:List V)(σ:St)(H:Hp)(Q:St->Hp->Prop):Prop
 |mk (B:_) (O:_) (δ:_) (ds:_) (δ':_) (h0:bN K ml B O H σ δ) (h1:cG K (Nn B O) H vs ds) (h2:h ds δ=ba δ') (h3:∀σ' O',bN K ml B O' H σ' δ'->(∀i∈ml,σ'[i]?=σ[i]?)->Q σ' H):Yl K ml h vs σ H Q
def TGVs(K:Ag)(ml:List Nat)(h:VGs):TGs:=λa σ H Q=>Yl K ml h a σ H Q
def P1:VGs:=λa δ=>match a with
 |[]=>ba δ
 |_=>bb
def ZG(g:VG)(gs:VGs):VGs:=λb δ=>match b with
 |d::r=>(g d δ).bind λa=>gs r a
 |[]=>bb
def UI:BA X [] (TGVs K ml P1):=CD.imp λb σ H Q a=>by
 obtain⟨B,O,δ,c,δ',S,r,q,k⟩:=a;cases r with
 |nil=>cases q;exact⟨rfl,k _ _ S λ_ _=>rfl⟩
 |cons _ _=>cases q
def aR{g:VG}{gs:VGs}(f:PG X e (DC K ml g))(w:BA X es (TGVs K ml gs))(hs:(Uz (e::es) X.env).map (·.2)=Hh e X.env::(Uz es X.env).map (·.2):=by rfl):BA X (e::es) (TGVs K ml (ZG g gs)):=
 (MF f w hs).imp λl σ H Q c => by
  obtain⟨B,O,δ,j,δ',S,r,q,k⟩:=c;cases r with
  |nil=>cases q
  | @cons v l d j h t=>
   have q:((g d δ).bind λa=>gs j a)=ba δ':=q;obtain⟨a,f,q⟩:=Aa.mp q;have y:=S.keepV (XX t);exact⟨v,l,rfl,_,O,δ,d,a,y,h,f,λo C n s=>⟨B,C,a,j,δ',n.unkeep,UF t.length λz u=>n.kep z (Aq _ u),q,λb A x p=>k b A x λi m=>(p i m).trans (s i m)⟩⟩
def gTp(n:Nat)(gs:VGs):VG:=λd δ=>(WW d).bind λa=>if a.length=n then gs a δ else bb
def Q7{gs:VGs}{k n:Nat}(l:X.K=K)(hc:X.calm=bc)(h:BA X es (TGVs K ml gs))(j:(Uz es X.env).length=n:=by rfl)(b:(Uz es X.env).findIdx? (·.1)=bb:=by rfl):PG X (.Tuple es k pos) (DC K ml (gTp n gs)):=
 ((uu (K := K) l hc h j b).or (uN (K := K) l hc h j b)).imp λv σ H Q g => by
  obtain⟨B,O,δ,d,δ',S,r,q,k⟩:=g;unfold gTp at q;obtain⟨i,m,q⟩:=Aa.mp q;have q:(if i.length=n then gs i δ else bb)=ba δ':=q;split at q;rename_i hl;obtain⟨a,e,rfl,sq,f⟩:=r.seq m;have c:TGVs K ml gs e σ H Q:=⟨B,O,δ,i,δ',S,f,q,k⟩;rcases sq with sq|sq;exact .inr ⟨a,e,rfl,sq,f.length.trans hl,c⟩;exact .inl ⟨a,e,rfl,sq,f.length.trans hl,c⟩;cases q
def AO(f:VF)(g:VG):VS:=λδ=>(f δ).bind λp=>(g p.1 p.2).map Ou.nx
def E4{tg:Uv}{i:VG}(l:PE X e (TV K ml pu bc bc f))(j:PG X tg (DC K ml i))(hs:Ib [tg] e pos.line X.env=pure be:=by rfl)(hw:Ic [tg] e X.env=pure bb:=by rfl)
  (h:(Uz [tg] X.env).map (·.2)=[Hh tg X.env]:=by rfl):PS X (.Assign [tg] e pos) (WZ K ml (AO f i)):=(EC l j hs hw h).imp λD σ H g=>by
 obtain⟨B,O,δ,o,S,q,k⟩:=g;unfold AO at q;obtain⟨⟨d,a⟩,h,q⟩:=Aa.mp q;have q:(i d a).map Ou.nx=ba o:=q;obtain⟨c,m,q⟩:=Ah.mp q;cases q;exact⟨B,O,δ,d,a,S,h,λv H' R=>⟨B,O,a,d,c,R.sta,R.rep,m,λb p n _=>k b H' p n⟩⟩
def MuV(K:Ag)(r:V->List V->Hp->VK->Prop)(m:List cZ->List cZ->Option (List cZ)):Prop:=∀(H:Hp) (N:Up->Prop) (l:Up) (c d:List V) (e es b:List cZ) (Q:VK),
 H l=ba (.lst c)->N l->cG K N H c e->cG K N H d es->m e es=ba b->(∀v a,cG K N H a b->Q v (upd H l (.lst a)))->r (.ref l) d H Q
noncomputable def NF(δ:Ev)(i:Nat):Option (List cZ):=match δ[i]? with
 |some (.ow (.lst a))=>ba a
 |_=>bb
def GH(i:Nat)(m:List cZ->List cZ->Option (List cZ))(fs:N8):VS:=λδ=>(NF δ i).bind λ_=>(fs δ).bind λp=>(NF p.2 i).bind λb=>(m b p.1).map λa=>.nx (p.2.set i (.ow (.lst a)))
def J7{i:Nat}{ds:List cZ}(h:NF δ i=ba ds):δ[i]?=ba (.ow (.lst ds)):=by
 unfold NF at h;split at h;cases h;assumption;cases h
def GG{N:Up->Prop}{l:Up}{o:HO}{xs:List V}{ds ys:List cZ}{zs:List V}(d:H l=ba (.lst zs))(e:N l)(h:cG K N H xs ds):cG K N (upd H l o) xs ds:=
 h.fr (P:=λb=>b=l) (λb u q n=>by
  by_cases c:b=l;subst c;rw[d]at q;cases q;exact absurd (n rfl) λz=>z;rw[cL c];exact q) λa z=>z▸e
def MT{i:Nat}{x:Uq}{name:Uq}{C g f:Pos}{id:String}{r:V->List V->Hp->VK->Prop}{m:List cZ->List cZ->Option (List cZ)}{fs:N8}(slot:Slot "list" name id)(n:Nt (.builtin id)=pure (.type "method_descriptor"))(N:MtR X id r)(u:MuV K r m)(M:PE X (.Name x f) (YV i))(P:PA X (e::es) (TAV K ml pu bc fs))(ay:Ca (.Name x f) name X.env (eval (.Name x f) X.env)=eval (.Name x f) X.env:=by rfl)(cf:((Co g (Us (e::es) X.env)).all (λx=> !x.1)&&(Ej g (Ck [] X.env)).all (λx=>x.1.isSome)&&decide ((e::es).length+([]:List Gr).length+(if([]:List Gr).isEmpty then 0 else 1)<30))=bc:=by rfl)(aw:(C.endLine==g.line)=bc:=by rfl)(hs:SE X e es:=by rfl)(au:(Co g (Us es X.env)).any (·.1)=be:=by rfl)(s:Va (.Call (.Attribute (.Name x f) name C) (e::es) [] g) bb pos.line X.env=pure be:=by rfl)(Q:X.K=K:=by rfl):PS X (.Expr (.Call (.Attribute (.Name x f) name C) (e::es) [] g) pos) (WZ K ml (GH i m fs)):=
 (QD (kBm (K := K) Q Et slot n N M P ay cf aw hs au) s).imp λD σ H t => by
  obtain⟨B,O,δ,o,S,q,k⟩:=t;unfold GH at q;obtain⟨Z,W,q⟩:=Aa.mp q;have q:((fs δ).bind λp=>(NF p.2 i).bind λd=>(m d p.1).map λa=>Ou.nx (p.2.set i (.ow (.lst a))))=ba o:=q;obtain⟨⟨b,c⟩,U,q⟩:=Aa.mp q;have q:((NF c i).bind λd=>(m d b).map λa=>Ou.nx (c.set i (.ow (.lst a))))=ba o:=q;obtain⟨d,T,q⟩:=Aa.mp q;have q:((m d b).map λa=>Ou.nx (c.set i (.ow (.lst a))))=ba o:=q;cases A:m d b with
  |none=>rw[A]at q;cases q
  |some a=>
   rw[A]at q;cases q;obtain⟨l,j,Y,w⟩:=S.ow i _ (J7 W);cases w with
   |lst y _=>
    refine⟨.ref l,Y,.inl ⟨rfl,_,W8.of y⟩,B,O,δ,b,c,S,U,λI H1 R=>?_⟩;obtain⟨l',E,_,G⟩:=R.sta.ow i _ (J7 T);rw[j]at E;cases E;cases G with
    |lst h L=>
     refine u H1 (Nn B O) l _ I d b a _ h (.inr ⟨i,j⟩) L R.rep A λv F J=>?_;exact k σ _ O (R.sta.wrote j (λz=>z) (.lst cM (GG (ys:=[]) h (.inr ⟨i,j⟩) J)))
def mApp:List cZ->List cZ->Option (List cZ)
 |a,[d]=>if a.length<16777216 then ba (a++[d])else bb
 |_,_=>bb
def Xi:MuV K IG mApp:=by
 intro H N l b c m es i Q hl j a e h k;cases e with
 |nil=>cases h
 | @cons v c d es g t=>
  cases t with
  |cons _ _=>cases h
  |nil=>
   simp only[mApp]at h;split at h;rename_i f;cases h;exact⟨l,b,v,rfl,rfl,hl,by rw[a.length,Bg];exact f,k _ _ (a.snoc g)⟩;cases h
end
section
variable{X:Cx}{K:Ag}{ml:List Nat}{e a b c:Uv}{es:List Uv}{pa ta ia pb tb ib pc tc ic pu bt bi ps bs:Bool}{fa fb fc f:VF}{B B':Bs}{O:Nat->Option Up}{H H1 H':Hp}{σ:St}{δ δ':Ev}{v:V}{d:cZ}{p:Up}{pos:Pos}{st:Vb}{rest:List Vb}{g g':VS}
def again(a:VS):Ou->Option Ou
 |.nx δ=>a δ
 |.ct δ=>a δ
 |.bk δ=>ba (.nx δ)
 |.rt d δ=>ba (.rt d δ)
def ZQ(t:VB)(g:VS):Nat->VS
 |0=>λ_=>bb
 |n+1=>λδ=>(t δ).bind λp=>if p.1=bc then(g p.2).bind (again (ZQ t g n))else ba (.nx p.2)
theorem TK{t:VB}:∀{n:Nat}{δ:Ev}{o:Ou},ZQ t g n δ=ba o->ZQ t g (n+1) δ=ba o
 |0,_,_,h=>by cases h
 | n + 1,δ,o,h => by
  dsimp only[ZQ]at h;show((t δ).bind λp=>if p.1=bc then(g p.2).bind (again (ZQ t g (n+1)))else ba (.nx p.2))=ba o;cases e:t δ with
  |none=>rw[e]at h;cases h
  |some p=>
   rw[e]at h;obtain⟨f,b⟩:=p;cases f with
   |false=>exact h
   |true=>
    have h:(g b).bind (again (ZQ t g n))=ba o:=h;show(g b).bind (again (ZQ t g (n+1)))=ba o;cases c:g b with
    |none=>rw[c]at h;cases h
    |some z=>
     rw[c]at h;cases z with
     |nx a=>exact TK (n:=n) h
     |ct a=>exact TK (n:=n) h
     |bk a=>exact h
     |rt d a=>exact h
theorem Q9{t:VB}{n:Nat}{o:Ou}(h:ZQ t g n δ=ba o):∀k,ZQ t g (n+k) δ=ba o
 |0=>h
 |k+1=>TK (Q9 h k)
def E6{t:VB}{n m:Nat}{o b:Ou}(h:ZQ t g n δ=ba o)(h':ZQ t g m δ=ba b):o=b:=by have c:=Q9 h m;have a:=Q9 h' n;rw[Nat.add_comm]at a;rw[c]at a;exact Cg a
open Classical in
noncomputable def Q5(t:VB)(g:VS):VS:=λδ=>if h:∃o n,ZQ t g n δ=ba o then ba (Classical.choose h)else bb
def AQ{t:VB}{n:Nat}{o:Ou}(h:ZQ t g n δ=ba o):Q5 t g δ=ba o:=by have a:∃o n,ZQ t g n δ=ba o:=⟨o,n,h⟩;unfold Q5;rw[dif_pos a];obtain⟨m,b⟩:=Mu a;rw[E6 b h]
def EK{t:VB}{o:Ou}(h:Q5 t g δ=ba o):∃n,ZQ t g n δ=ba o:=by
 unfold Q5 at h;split at h;rename_i a;cases h;exact Mu a;cases h
def fY{body:List Vb}{t:VB}(s:Mn (Uu X.prog X.w) X.A X.env X.xe)(hc:PT X c (TB K ml pc t))(x:X4 X body (WZ K ml g)):PS X (.While c body [] pos) (WZ K ml (Q5 t g)):=(gO s hc x).imp λD σ H j=>by
 obtain⟨B,O,δ,o,S,q,k⟩:=j;obtain⟨n,u⟩:=EK q;refine⟨λm σ H=>∃O δ,bN K ml B O H σ δ/\ZQ t g m δ=ba o,⟨n,O,δ,S,u⟩,?_⟩;rintro m σ H ⟨O,δ,S,b⟩;cases m with
 |zero=>cases b
 |succ m=>
  dsimp only[ZQ]at b;obtain⟨⟨l,f⟩,C,b⟩:=Aa.mp b;refine⟨B,O,δ,l,f,S,C,λH1 p=>?_⟩;cases l with
  |false=>
   have b:ba (Ou.nx f)=ba o:=b;cases b;exact P7 (k σ H1 O p.sta)
  |true=>
   have b:(g f).bind (again (ZQ t g m))=ba o:=b;obtain⟨z,y,b⟩:=Aa.mp b;refine P8 ⟨λa H'=>∃O δ,bN K ml B O H' a δ/\ZQ t g m δ=ba o,λa H' w=>⟨m,Gc _,w⟩,B,O,f,z,p.sta,y,?_⟩;cases z with
   |nx e=>exact λa H' i h=>⟨i,e,h,b⟩
   |ct e=>exact λa H' i h=>⟨i,e,h,b⟩
   |bk e=>cases b;exact λa H' i h=>k a H' i h
   |rt d e=>cases b;exact λv a H' i h r=>k v a H' i h r
def Walk(K:Ag)(J:It)(a:List (V×cZ))(ds:List cZ):Prop:=∀(N:Up->Prop) (H:Hp),(∀p∈a,bV K N H N p.1 p.2)->
 (∀(i:Nat) (d:cZ),ds[i]?=ba d->J.go i H/\∀x H',J.yld i H x H'->bI H H'/\bV K N H' N x d)/\J.stop ds.length H
abbrev VI:=Ev->Option (List cZ×Ev)
inductive TIVi(K:Ag)(ml:List Nat)(pu:Bool)(f:VI)(σ:St)(H:Hp)(R:It->Hp->Prop):Prop
 |mk (B:_) (O:_) (δ:_) (ds:_) (δ':_) (h0:bN K ml B O H σ δ) (h1:f δ=ba (ds,δ')) (h2:∀J kps H',bN K ml {B with kp:=kps++B.kp} O H' σ δ'->Fr (OA O) H H'->(pu=bc->bI H H')->Walk K J kps ds->R J H'):TIVi K ml pu f σ H R
def LD(K:Ag)(ml:List Nat)(pu:Bool)(f:VI):TI:=λσ H R=>TIVi K ml pu f σ H R
def PI.imp{tg:Uv}{t u:TI}(h:PI X tg e t)(k:∀σ H R,u σ H R->t σ H R):PI X tg e u:=λa s σ H R I w=>h a s σ H R I (k σ H R w)
def PI.or{tg:Uv}{t u:TI}(h:PI X tg e t)(h':PI X tg e u):PI X tg e (λσ H R=>t σ H R∨u σ H R):=λa s σ H R I z=>by
 rcases z with z|z;exact h a s σ H R I z;exact h' a s σ H R I z
def YJ(f:VF):VI:=λδ=>(f δ).bind λp=>(WW p.1).map λa=>(a,p.2)
def tV{a:Up}{ds:List cZ}:Walk K (Itl K a) [(.ref a,.lst ds)] ds:=by
 intro N H h;have r:=h _ (Au.mpr rfl);have c:∀b,W8 K H a b->cG K N H b ds->(∀(i:Nat) (d:cZ),ds[i]?=ba d->(Itl K a).go i H/\∀x H',(Itl K a).yld i H x H'->bI H H'/\bV K N H' N x d)/\(Itl K a).stop ds.length H:=λb sq r=>by
  refine⟨λi d e=>?_,b,sq,by rw[r.length];exact Am _⟩;obtain⟨x,f,g⟩:=r.get e;refine⟨⟨b,x,sq,f⟩,λy H' j=>?_⟩;obtain⟨l,k⟩:=j;subst l;have:=k b sq;rw[f]at this;cases this;exact⟨bI.refl _,g⟩
 cases r.onL with
 |lst q n r=>exact c _ (W8.of q) r
 |fzl q r=>exact c _ q.sq r
def uY{a:Up}{ds:List cZ}:Walk K (Itt K a) [(.ref a,.tup ds)] ds:=by
 intro N H h;have r:=h _ (Au.mpr rfl);cases r.onT with
 |tup sq r=>
  refine⟨λi d e=>?_,_,sq,by rw[r.length];exact Am _⟩;obtain⟨x,b,c⟩:=r.get e;refine⟨⟨_,x,sq,b⟩,λy H' f=>?_⟩;obtain⟨j,g⟩:=f;subst j;have:=g _ sq;rw[b]at this;cases this;exact⟨bI.refl _,c⟩
def aA{tg:Uv}(j:X.K=K)(h:PE X e (TV K ml pu bc bc f)):PI X tg e (LD K ml pu (YJ f)):=((iJ (K:=K) j h).or (pS (K:=K) j h)).imp λσ H R d=>by
 obtain⟨B,O,δ,m,δ',S,q,k⟩:=d;unfold YJ at q;obtain⟨⟨x,c⟩,l,q⟩:=Aa.mp q;cases x with
 |lst i=>
  cases q;refine .inl ⟨B,O,δ,_,c,S,l,λv H1 b=>?_⟩;obtain⟨a,n,rfl,sq,r⟩:=b.rep.seq rfl;refine⟨a,rfl,?_,k _ [(.ref a,.lst m)] H1 (b.sta.keepV λp g=>by rw[Au.mp g];exact b.rep) b.frm b.pur tV⟩;have r:=b.rep;cases r.onL with
  |lst q _ _=>exact⟨_,W8.of q⟩
  |fzl q _=>exact⟨_,q.sq⟩
 |tup i=>
  cases q;refine .inr ⟨B,O,δ,_,c,S,l,λv H1 b=>?_⟩;obtain⟨a,n,rfl,sq,r⟩:=b.rep.seq rfl;refine⟨a,rfl,?_,k _ [(.ref a,.tup m)] H1 (b.sta.keepV λp g=>by rw[Au.mp g];exact b.rep) b.frm b.pur uY⟩;have r:=b.rep;cases r.onT with
  |tup q _=>exact⟨_,q⟩
 |_=>cases q
def RQ(lo:Int)(n:Nat):List cZ:=(At n).map λk:Nat=>.int (lo+k)
noncomputable def iR1(f:VF):VI:=λδ=>(f δ).bind λp=>match p.1 with
 |.int j=>if -4611686018427387904<=j/\j<4611686018427387904 then ba (RQ 0 j.toNat,p.2)else bb
 |_=>bb
noncomputable def iR2(f g:VF):VI:=λδ=>(f δ).bind λp=>(g p.2).bind λq=>match p.1,q.1 with
 |.int i,.int j=>if(-4611686018427387904<=i/\i<4611686018427387904)/\ -4611686018427387904<=j/\j<4611686018427387904 then ba (RQ i (j-i).toNat,q.2)else bb
 |_,_=>bb
def nH{lo:Int}{n i:Nat}{d:cZ}(h:(RQ lo n)[i]?=ba d):i<n/\d=.int (lo+i):=by
 unfold RQ at h;rw[Bo]at h;obtain⟨k,a,h⟩:=Ah.mp h;cases h;have:=Ai.mp a;obtain⟨hl,e⟩:=this;rw[Le]at hl;rw[List.getElem_range]at e;subst e;exact⟨hl,rfl⟩
def G4{lo:Int}{n:Nat}:Walk K (Itr lo n) [] (RQ lo n):=by intro N H _;refine⟨λi d e=>?_,by simp[Itr,RQ]⟩;obtain⟨hl,rfl⟩:=nH e;refine⟨hl,λx H' a=>?_⟩;obtain⟨rfl,rfl⟩:=a;exact⟨bI.refl _,.int _⟩
def OY{tg:Uv}{i:Pos}(m:Gl X "range")(l:X.mg "range"=bb)(h:PE X a (TV K ml pa ta ia fa))(hs:Us [a] X.env=[(be,eval a X.env)]:=by rfl)(e:SE X a []:=by rfl):
  PI X tg (.Call (.Name "range" i) [a] [] pos) (LD K ml pa (iR1 fa)):=(AE m l (bA h ZX e) hs).imp λσ H R f=>by
 obtain⟨B,O,δ,o,δ',S,q,k⟩:=f;unfold iR1 at q;obtain⟨⟨x,d⟩,n,q⟩:=Aa.mp q;cases x with
 |int j=>
  have q:(if -4611686018427387904<=j/\j<4611686018427387904 then ba (RQ 0 j.toNat,d)else bb)=ba (o,δ'):=q;split at q;rename_i g;cases q;have b:(2:Int) ^ 62=4611686018427387904:=by decide
  refine⟨B,O,δ,_,_,S,n,λv H1 c=>⟨j,?_,by rw[b];exact g.1,by rw[b];exact g.2,k _ [] H1 (c.sta.keepV λ_ z=>nomatch z) c.frm c.pur G4⟩⟩;rw[c.rep.onI];cases q
 |_=>cases q
def A2{tg:Uv}{w:Pos}(C:Gl X "range")(A:X.mg "range"=bb)(h:PE X a (TV K ml pa ta ia fa))(h':PE X b (TV K ml pb tb ib fb))(hs:Us [a,b] X.env=[(be,eval a X.env),(be,eval b X.env)]:=by rfl)(l:Us [b] X.env=[(be,eval b X.env)]:=by rfl)(D:SE X a [b]:=by rfl)(n:SE X b []:=by rfl):
  PI X tg (.Call (.Name "range" w) [a,b] [] pos) (LD K ml (pa&&pb) (iR2 fa fb)):=(AF C A (bA h (bA h' ZX n) D) hs l).imp λσ H R m=>by
 obtain⟨B,O,δ,F,δ',S,q,k⟩:=m;unfold iR2 at q;obtain⟨⟨x,c⟩,E,q⟩:=Aa.mp q;cases o:fb c with
 |none=>simp[o]at q
 |some u=>
  obtain⟨y,f⟩:=u;simp only[Ar,o]at q;cases x with
  |int i=>
   cases y with
   |int j=>
    have q:(if(-4611686018427387904<=i/\i<4611686018427387904)/\ -4611686018427387904<=j/\j<4611686018427387904 then ba (RQ i (j-i).toNat,f)else bb)=ba (F,δ'):=q;split at q;rename_i d;cases q;have g:(2:Int) ^ 62=4611686018427387904:=by decide
    refine⟨B,O,δ,_,_,S,E,λv H1 e=>⟨B,O,c,_,_,e.sta,o,λI G R2=>⟨i,j,?_,by rw[g];exact⟨d.1.1,d.1.2,d.2.1,d.2.2⟩,k _ [] G (R2.sta.keepV λ_ z=>nomatch z) (e.frm.trans R2.frm) (λz=>by obtain⟨r,p⟩:=(Ae _ _).mp z;exact(e.pur r).trans (R2.pur p)) G4⟩⟩⟩;have t:=e.rep;have s:=R2.rep;cases t.onI;cases s.onI;rfl;cases q
   |_=>cases q
  |_=>cases q
def RO(b:VG)(s:VS):List cZ->VS
 |[]=>λδ=>ba (.nx δ)
 |d::r=>λδ=>(b d δ).bind λa=>(s a).bind (again (RO b s r))
def RS(b:VI)(a:VG)(s:VS):VS:=λδ=>(b δ).bind λp=>RO a s p.1 p.2
def TJ{tg iter:Uv}{body:List Vb}{F:VI}{j:VG}(C:Mn (Uu X.prog X.w) X.A X.env X.xe)(hc:X.calm=bc)(E:PI X tg iter (LD K ml pu F))(T:PG X tg (DC K ml j))(U:X4 X body (WZ K ml g))
  (hs:∀x,Ux iter X.env x=pure x:=by intro _;rfl):PS X (.For tg iter body [] pos) (WZ K ml (RS F j g)):=(ED C hc E T U hs).imp λD σ H y=>by
 obtain⟨B,O,δ,o,S,q,k⟩:=y;unfold RS at q;obtain⟨⟨c,h⟩,Y,q⟩:=Aa.mp q;have q:RO j g c h=ba o:=q;refine⟨B,O,δ,c,h,S,Y,λJ u H1 S1 _ _ L=>?_⟩;refine⟨λi m σ H=>m=c.length-i/\i<=c.length/\∃O δ,bN K ml {B with kp:=u++B.kp} O H σ δ/\RO j g (c.drop i) δ=ba o,⟨c.length,rfl,Bz _,O,h,S1,q⟩,?_⟩;rintro i m σ H ⟨rfl,E,O,δ,S,b⟩;have w:=L (Nn B O) H λp C=>S.kep p (Aq _ C);by_cases n:i<c.length;obtain ⟨Z,I⟩ := w.1 i c[i] (by simp [n]);rw[Cv n]at b;refine .inr ⟨Z,λa H'=>∃O δ,bN K ml {B with kp:=u++B.kp} O H' a δ/\RO j g (c.drop (i+1)) δ=ba o,λa H' M=>⟨c.length-(i+1),by lia,rfl,n,M⟩,λx H' R=>?_⟩;obtain⟨N,P⟩:=I x H' R;have b:((j c[i] δ).bind λh=>(g h).bind (again (RO j g (c.drop (i+1)))))=ba o:=b;obtain⟨l,W,b⟩:=Aa.mp b;have b:(g l).bind (again (RO j g (c.drop (i+1))))=ba o:=b;refine⟨_,O,δ,c[i],l,S.same N,P,W,λG O2 S2 _=>?_⟩;obtain⟨z,V,b⟩:=Aa.mp b;refine⟨_,O2,l,z,S2,V,?_⟩;cases z with
 |nx f=>exact λa H' t s=>⟨t,f,s,b⟩
 |ct f=>exact λa H' t s=>⟨t,f,s,b⟩
 |bk f=>cases b;exact λa H' t s=>k a H' t s.unkeep
 |rt d f=>cases b;exact λv a H' t s r=>k v a H' t s.unkeep r
 have e : i = c.length := by lia
 subst e;rw[Gd]at b;cases b;exact .inl ⟨w.2,k σ H O S.unkeep⟩
end
section
variable{X:Cx}{K:Ag}{ml:List Nat}{e a b c:Uv}{es:List Uv}{pa ta ia pb tb ib pc tc ic pu bt bi ps bs:Bool}{fa fb fc f:VF}{B B':Bs}{O:Nat->Option Up}{H H1 H':Hp}{σ:St}{δ δ':Ev}{v:V}{d:cZ}{p:Up}{pos:Pos}{st:Vb}{rest:List Vb}{g g':VS}
def bN.call{P:Up->Prop}(S:bN K ml B O H σ δ)(hl:δ'.length=δ.length)(h:∀i:Nat,(δ'[i]?=δ[i]? /\∀a,O i=ba a->¬P a)∨∃a d',O i=ba a/\δ'[i]?=ba (Sl.ow d')/\RM K (Nn B O) H' a d')
  (f:Fr P H H') (j:∀a,P a->OA O a):bN K ml B O H' σ δ' where
 len:=by rw[hl,S.len]
 va:=λi d e=>by
  rcases h i with⟨g,_⟩|⟨a,d',_,g,_⟩;rw[g]at e;obtain⟨v,c,r⟩:=S.va i d e;exact⟨v,c,r.fr f (λa z=>.inr (j a z)) λa z=>.inr (j a z)⟩;rw[g]at e;cases e
 ow:=λi d e=>by
  rcases h i with⟨g,n⟩|⟨a,d',c,g,w⟩;rw[g]at e;obtain⟨a,c,l,w⟩:=S.ow i d e;exact⟨a,c,l,w.fr f (λa z=>.inr (j a z)) (n a c)⟩;rw[g]at e;cases e;obtain⟨m,q0⟩:=S.dom i a c;obtain⟨x,l,u,_⟩:=S.ow i m q0;rw[c]at l;cases l;exact⟨a,c,u,w⟩
 dom:=λi a e=>by
  rcases h i with⟨g,n⟩|⟨a,d',c,g,w⟩;obtain⟨m,q0⟩:=S.dom i a e;exact⟨m,g.trans q0⟩;exact⟨d',g⟩
 inj:=S.inj
 old:=S.old
 zin:=λa k=>by
  obtain⟨o,q⟩:=S.zin a k;exact⟨o,f a o q λz=>by obtain⟨i,e⟩:=j a z;exact absurd k (S.old i a e).1⟩
 frm:=λb o q n=>by
  have t:=S.frm b o q n;refine f b o t λz=>?_;obtain⟨i,e⟩:=j b z;rcases(S.old i b e).2 with w|w
  exact n w;rw[q]at w;cases w
 par:=S.par
 pin:=λa k=>by
  obtain⟨o,q⟩:=S.pin a k;by_cases z:P a;obtain⟨i,e⟩:=j a z;rcases h i with⟨_,n⟩|⟨x,d',c,g,w⟩;exact absurd z (n a e);rw[e]at c;cases c;obtain⟨o,q,_⟩:=w.soft;exact⟨o,q⟩;exact⟨o,f a o q λy=>absurd y z⟩
 kep:=λp s=>(S.kep p s).fr f (λa z=>.inr (j a z)) λa z=>.inr (j a z)
abbrev bR:=List cZ->Option (cZ×List cZ)
def KY(ml:List Nat)(vs:List V):Up->Prop:=λa=>∃i∈ml,vs[i]?=ba (.ref a)
def Zp(Z:Up->Prop)(ml:List Nat)(vs:List V):Up->Prop:=λa=>Z a∨KY ml vs a
structure Vk(K:Ag)(ml:List Nat)(Z:Up->Prop)(H:Hp)(vs:List V)(ds:List cZ):Prop where
 len:vs.length=ds.length
 mem:∀i∈ml,i<ds.length
 va:∀(i:Nat) (d:cZ),i∉ml->ds[i]?=ba d->∃v,vs[i]?=ba v/\bV K (Zp Z ml vs) H (Zp Z ml vs) v d
 ow:∀(i:Nat) (d:cZ),i∈ml->ds[i]?=ba d->∃a,vs[i]?=ba (.ref a)/\RM K (Zp Z ml vs) H a d/\¬Z a
 inj:∀(i j:Nat) (a:Up),i∈ml->j∈ml->vs[i]?=ba (.ref a)->vs[j]?=ba (.ref a)->i=j
 zin:∀a,Z a->∃o,H a=ba o
inductive spVi(K:Ag)(ml:List Nat)(n:Nat)(F:bR)(vs:List V)(H:Hp)(Q:VK):Prop
 |mk (Z:Up->Prop) (ds:List cZ) (r:cZ) (os:List cZ) (h0:ds.length=n) (h1:Vk K ml Z H vs ds) (h2:F ds=ba (r,os)) (h3:∀v H',Fr (KY ml vs) H H'->(∀(k i:Nat) (a:Up) (o:cZ),ml[k]?=ba i->vs[i]?=ba (.ref a)->os[k]?=ba o->RM K (Zp Z ml vs) H' a o)->bV K (Zp Z ml vs) H' (Zp Z ml vs) v r->Q v H'):spVi K ml n F vs H Q
def spV(K:Ag)(ml:List Nat)(n:Nat)(F:bR):Sp:=λa H Q _=>spVi K ml n F a H Q
def WR(ml:List Nat)(n:Nat)(ds:List cZ):Ev:=ds.mapIdx (λi d=>if i∈ml then Sl.ow d else Sl.va d)++Av (n-ds.length) Sl.no
def SZ(ml:List Nat)(δ:Ev):Option (List cZ):=ml.mapM λ(i:Nat)=>match(δ[i]? :Option Sl)with
 |some (Sl.ow d)=>ba d
 |_=>bb
noncomputable def bC(n:Nat)(ml:List Nat)(g:VS):bR:=λa=>(g (WR ml n a)).bind λo=>match o with
 |.rt d δ=>(SZ ml δ).map λos=>(d,os)
 |.nx δ=>(SZ ml δ).map λos=>(.non,os)
 |_=>bb
theorem F6:∀{ml:List Nat}{δ:Ev}{os:List cZ},SZ ml δ=ba os->∀(k i:Nat) (o:cZ),ml[k]?=ba i->os[k]?=ba o->δ[i]?=ba (.ow o)
 |[],_,_,h,k,i,o,a,c=>by simp at a
 | j :: ml,δ,os,h,k,i,o,a,c => by
  unfold SZ at h;rw[Ss]at h;split at h;rename_i d f;cases b:(ml.mapM λ(i:Nat)=>match(δ[i]? :Option Sl)with
   |some (Sl.ow d)=>ba d
   |_=>bb:Option (List cZ))with
  |none=>rw[b]at h;cases h
  |some e=>
   rw[b]at h;cases h;cases k with
   |zero=>
    cases a;cases c;exact f
   |succ k=>exact F6 (ml:=ml) b k i o (by simpa using a) (by simpa using c)
  cases h
def OW{N:List Uq}{Z:Up->Prop}{vs:List V}{ds:List cZ}(A:Vk K ml Z H vs ds)(E:ds.length<=N.length):∃l:Nat->Option Up,(∀i a,l i=ba a↔i∈ml/\vs[i]?=ba (.ref a))/\bN K ml ⟨Z,KY ml vs,H,l,[]⟩ l H (start N vs) (WR ml N.length ds):=by
 classical
 let l:Nat->Option Up:=λi=>if i∈ml then(match vs[i]? with
  |some (.ref a)=>ba a
  |_=>bb)else bb
 have f:∀i a,l i=ba a↔i∈ml/\vs[i]?=ba (.ref a):=λi a=>by
  show(if i∈ml then(match vs[i]? with
   |some (.ref a)=>ba a
   |_=>bb)else bb)=ba a↔_
  by_cases c:i∈ml;rw[if_pos c];constructor;intro h;split at h;rename_i b C;cases h;exact⟨c,C⟩;cases h;rintro ⟨_,h⟩;rw[h];rw[if_neg c];exact⟨(λh=>nomatch h),λh=>absurd h.1 c⟩
 have u:∀a,Nn ⟨Z,KY ml vs,H,l,[]⟩ l a->Zp Z ml vs a:=λa h=>by
  rcases h with h|⟨i,h⟩;exact .inl h;exact .inr ⟨i,(f i a).mp h⟩
 have y:∀(i:Nat) (s:Sl),(WR ml N.length ds)[i]?=ba s->(∃d,ds[i]?=ba d/\s=if i∈ml then .ow d else .va d)∨s=.no:=λi s h=>by
  unfold WR at h;by_cases c:i<ds.length;rw [As (by simpa using c),Nj]at h;cases q:ds[i]? with
  |none=>rw[q]at h;cases h
  |some d=>rw[q]at h;cases h;exact .inl ⟨d,rfl,rfl⟩
  rw [Dk (by simpa using c),Dj]at h;split at h;cases h;exact .inr rfl;cases h
 have m:∀(i:Nat) (v:V),vs[i]?=ba v->(start N vs)[i]?=ba (ba v):=λi v h=>by unfold start;have c:i<vs.length:=(Ai.mp h).1;rw[As (by simpa using c),Bo,h];rfl
 refine⟨l,f,?_,λi d q=>?_,λi d q=>?_,λi a q=>?_,λi j a q1 q2=>?_,λi a q=>?_,A.zin,Fr.refl _ _,⟨λi a q=>((f i a).mp q).1,λi _=>rfl⟩,λa q=>?_,λp B=>nomatch B⟩;unfold start WR;have:=A.len
 simp;lia;rcases y i _ q with⟨e,x,k⟩|h;by_cases c:i∈ml;rw[if_pos c]at k;cases k;rw[if_neg c]at k;cases k;obtain⟨v,g,r⟩:=A.va i d c x;exact⟨v,m i v g,r.mono u u⟩;cases h;rcases y i _ q with⟨e,x,k⟩|h;by_cases c:i∈ml;rw[if_pos c]at k;cases k;obtain⟨a,g,w,_⟩:=A.ow i d c x;exact⟨a,(f i a).mpr ⟨c,g⟩,m i _ g,w.mono u⟩;rw[if_neg c]at k;cases k;cases h;obtain⟨c,g⟩:=(f i a).mp q;have hl:=A.mem i c;refine⟨ds[i],?_⟩;unfold WR;rw[As (by simpa using hl),Nj];simp[hl,c];exact A.inj i j a ((f i a).mp q1).1 ((f j a).mp q2).1 ((f i a).mp q1).2 ((f j a).mp q2).2;obtain⟨c,g⟩:=(f i a).mp q;refine⟨λz=>?_,.inl ⟨i,c,g⟩⟩;obtain⟨D,t,_,n⟩:=A.ow i (ds[i]'(A.mem i c)) c (by simp[A.mem i c]);rw[g]at t;cases t;exact n z;obtain⟨i,c,g⟩:=q;obtain⟨D,t,w,n⟩:=A.ow i (ds[i]'(A.mem i c)) c (by simp[A.mem i c]);rw[g]at t;cases t;obtain⟨o,q,_⟩:=w.soft;exact⟨o,q⟩
def Wm{N ps:List Uq}{vs:List V}{Q:VK}{E:XK}(y:ps.length<=N.length)(h:spV K ml ps.length (bC N.length ml g) vs H Q E):WZ K ml g {nx:=λ_ H'=>Q .non H',rt:=Q} (start N vs) H:=by
 obtain⟨Z,S,r,os,I,AV,c,k⟩:=h;obtain⟨s,n,R⟩:=OW (N:=N) AV (by rw[I];exact y);unfold bC at c;obtain⟨o,L,c⟩:=Aa.mp c;refine⟨_,s,_,o,R,L,?_⟩;have t:∀(δ':Ev) (v:V) (f:St) (H':Hp) (q:Nat->Option Up),SZ ml δ'=ba os->bN K ml ⟨Z,KY ml vs,H,s,[]⟩ q H' f δ'->bV K (rz ⟨Z,KY ml vs,H,s,[]⟩) H' (rz ⟨Z,KY ml vs,H,s,[]⟩) v r->Q v H':=λδ' v f H' q G l m=>by
  have A:∀a,Zp Z ml vs a->rz ⟨Z,KY ml vs,H,s,[]⟩ a:=λa h=>by
   rcases h with h|⟨i,u,e⟩;exact .inl h;exact .inr ⟨i,(n i a).mpr ⟨u,e⟩⟩
  refine k v H' l.frm (λF i a o D P O=>?_) (m.mono A A);have J:=F6 G F i o D O;obtain⟨T,C,_,w⟩:=l.ow i o J;have u:i∈ml:=Cn D;have:=(l.par.2 i u).trans ((n i a).mpr ⟨u,P⟩);rw[this]at C;cases C;refine w.mono λb z=>?_;rcases z with z|⟨j,B,M⟩
  exact .inl z;exact .inr ⟨j,(l.par.2 j B).trans ((n j b).mpr ⟨B,M⟩)⟩
 cases o with
 |rt d δ'=>
  have c:(SZ ml δ').map (λos=>(d,os))=ba (r,os):=c;cases p:SZ ml δ' with
  |none=>rw[p]at c;cases c
  |some x=>
   rw[p]at c;cases c;exact λv f H' q l m=>t δ' v f H' q p l m
 |nx δ'=>
  have c:(SZ ml δ').map (λos=>(cZ.non,os))=ba (r,os):=c;cases p:SZ ml δ' with
  |none=>rw[p]at c;cases c
  |some x=>
   rw[p]at c;cases c;exact λf H' q l=>t δ' .non f H' q p l .non
 |bk δ'=>cases c
 |ct δ'=>cases c
def aC.okV{P:Ao}{w:Uw}{mg:Uq->Option Uo}{base:Uy}{x qual:Uq}{st:Vb}{f:Up}{fd:Bq}{N ps:List Uq}{k:Nat}(F:aC K x qual st f fd)(S:cO N ps (c7 st))(b:ps.length<=N.length)(i:∀(a:Uo) (A:Bp) (outer:List Env) (s:Ad) (H:Hp) (E:XK),aT k (A.deeper (envOfC qual (c7 st) s.heap.objs.size f a))->X4 (TU CX0 P w K mg base N qual (c7 st) f a A outer s H E).nox (bT st) (WZ K ml g)):bZ P w K mg base CX0 (k+1) f fd ps (spV K ml ps.length (bC N.length ml g)):=by refine F.ok S (λc H Q E h=>?_) (λa A outer s H c Q E d h=>⟨_,i a A outer s H E d,Wm b h⟩);obtain⟨Z,j,r,os,e,AV,_⟩:=h;rw[AV.len,e]
inductive AV where
 |d (d:cZ)|o (j:Nat)
inductive YT(K:Ag)(N:Up->Prop)(H:Hp)(σ:St):List V->List AV->Prop
 |nil:YT K N H σ [] []
 |d {v:V}{vs:List V}{d:cZ}{as:List AV}:bV K N H N v d->YT K N H σ vs as->YT K N H σ (v::vs) (.d d::as)
 |o {v:V}{vs:List V}{j:Nat}{as:List AV}:σ[j]?=ba (ba v)->YT K N H σ vs as->YT K N H σ (v::vs) (.o j::as)
abbrev UL:=Ev->Option (List AV×Ev)
structure ResG(K:Ag)(ml:List Nat)(B:Bs)(O:Nat->Option Up)(H:Hp)(σ:St)(pu:Bool)(H':Hp)(δ':Ev)(vs:List V)(as:List AV):Prop where
 sta:bN K ml B O H' σ δ'
 frm:Fr (OA O) H H'
 pur:pu=bc->bI H H'
 rep:YT K (Nn B O) H' σ vs as
inductive TAGi(K:Ag)(ml:List Nat)(pu:Bool)(f:UL)(σ:St)(H:Hp)(Q:List V->Hp->Prop):Prop
 |mk (B:_) (O:_) (δ:_) (as:_) (δ':_) (h0:bN K ml B O H σ δ) (h1:f δ=ba (as,δ')) (h2:∀vs H',ResG K ml B O H σ pu H' δ' vs as->Q vs H'):TAGi K ml pu f σ H Q
def NI(K:Ag)(ml:List Nat)(pu:Bool)(f:UL):TA:=λσ H Q=>TAGi K ml pu f σ H Q
def cK:UL:=λδ=>ba ([],δ)
noncomputable def aE(f:VF)(fs:UL):UL:=λδ=>(f δ).bind λp=>(fs p.2).map λq=>(.d p.1::q.1,q.2)
noncomputable def slot(δ:Ev)(j:Nat):Option cZ:=match δ[j]? with
 |some (.va d)=>ba d
 |some (.ow d)=>ba d
 |_=>bb
def aO(j:Nat)(fs:UL):UL:=λδ=>(slot δ j).bind λ_=>(fs δ).map λq=>(.o j::q.1,q.2)
def cU:PA X [] (NI K ml bc cK):=ZX.imp λσ H Q a=>by obtain⟨B,O,δ,d,δ',S,q,k⟩:=a;cases q;exact k [] H ⟨S,Fr.refl _ _,λ_=>bI.refl _,.nil⟩
theorem YT.fr{N:Up->Prop}{P:Up->Prop}(f:Fr P H H')(b:∀a,P a->N a):∀{vs:List V}{as:List AV},YT K N H σ vs as->YT K N H' σ vs as
 |_,_,.nil=>.nil
 |_,_,.d h t=>.d (h.fr f b b) (YT.fr f b t)
 |_,_,.o h t=>.o h (YT.fr f b t)
def cY{fs:UL}(j:PE X a (TV K ml pa bc bc fa))(i:PA X es (NI K ml ps fs))(hs:SE X a es:=by rfl):PA X (a::es) (NI K ml (pa&&ps) (aE fa fs)):=(bA j i hs).imp λσ H Q f=>by obtain⟨B,O,δ,n,e,S,q,k⟩:=f;unfold aE at q;obtain⟨⟨x,b⟩,m,q⟩:=Aa.mp q;have q:((fs b).map λq=>(AV.d x::q.1,q.2))=ba (n,e):=q;obtain⟨s,l,q⟩:=Ah.mp q;cases q;refine⟨B,O,δ,x,b,S,m,λr H1 c=>⟨B,O,b,_,_,c.sta,l,λp o R2=>k _ o ⟨R2.sta,c.frm.trans R2.frm,λz=>?_,.d (c.rep.fr R2.frm (λa z=>.inr z) λa z=>.inr z) R2.rep⟩⟩⟩;obtain⟨h,g⟩:=(Ae _ _).mp z;exact(c.pur h).trans (R2.pur g)
def OV{j:Nat}{d:cZ}(h:slot δ j=ba d):δ[j]?=ba (.va d)∨δ[j]?=ba (.ow d):=by
 unfold slot at h;split at h;cases h;exact .inl (by assumption);cases h;exact .inr (by assumption);cases h
def bN.slot(S:bN K ml B O H σ δ){j:Nat}{d:cZ}(h:slot δ j=ba d):∃v,σ[j]?=ba (ba v):=by
 rcases OV h with h|h;obtain⟨v,e,_⟩:=S.va j d h;exact⟨v,e⟩;obtain⟨a,_,e,_⟩:=S.ow j d h;exact⟨_,e⟩
def Y1{fs:UL}{j:Nat}(g:PE X a (YV j))(f:PA X es (NI K ml ps fs))(hs:SE X a es:=by rfl):PA X (a::es) (NI K ml ps (aO j fs)):=(bA g f hs).imp λσ H Q c=>by obtain⟨B,O,δ,l,b,S,q,k⟩:=c;unfold aO at q;obtain⟨d,i,q⟩:=Aa.mp q;have q:((fs δ).map λq=>(AV.o j::q.1,q.2))=ba (l,b):=q;obtain⟨p,h,q⟩:=Ah.mp q;cases q;obtain⟨v,e⟩:=S.slot i;exact⟨v,e,B,O,δ,_,_,S,h,λn m R2=>k _ m ⟨R2.sta,R2.frm,R2.pur,.o e R2.rep⟩⟩
theorem YT.length:∀{N:Up->Prop}{vs:List V}{as:List AV},YT K N H σ vs as->vs.length=as.length
 |_,_,_,.nil=>rfl
 |_,_,_,.d _ t=>congrArg (· +1) (YT.length t)
 |_,_,_,.o _ t=>congrArg (· +1) (YT.length t)
theorem YT.getD:∀{N:Up->Prop}{vs:List V}{as:List AV}{i:Nat}{d:cZ},YT K N H σ vs as->as[i]?=ba (.d d)->∃v,vs[i]?=ba v/\bV K N H N v d
 |_,_,_,_,_,.nil,e=>by simp at e
 |_,_,_,0,_,.d h _,e=>by simp at e;subst e;exact⟨_,rfl,h⟩
 |_,_,_,0,_,.o h _,e=>by simp at e
 |_,_,_,i+1,_,.d _ t,e=>by obtain⟨u,b,a⟩:=YT.getD (i:=i) t (by simpa using e);exact⟨u,by simpa using b,a⟩
 |_,_,_,i+1,_,.o _ t,e=>by obtain⟨u,b,a⟩:=YT.getD (i:=i) t (by simpa using e);exact⟨u,by simpa using b,a⟩
theorem YT.getO:∀{N:Up->Prop}{vs:List V}{as:List AV}{i j:Nat},YT K N H σ vs as->as[i]?=ba (.o j)->∃v,vs[i]?=ba v/\σ[j]?=ba (ba v)
 |_,_,_,_,_,.nil,e=>by simp at e
 |_,_,_,0,_,.d h _,e=>by simp at e
 |_,_,_,0,_,.o h _,e=>by simp at e;subst e;exact⟨_,rfl,h⟩
 |_,_,_,i+1,_,.d _ t,e=>by obtain⟨u,b,a⟩:=YT.getO (i:=i) t (by simpa using e);exact⟨u,by simpa using b,a⟩
 |_,_,_,i+1,_,.o _ t,e=>by obtain⟨u,b,a⟩:=YT.getO (i:=i) t (by simpa using e);exact⟨u,by simpa using b,a⟩
def argD(δ:Ev):AV->Option cZ
 |.d d=>ba d
 |.o j=>slot δ j
noncomputable def VY(δ:Ev):List AV->Option (List cZ)
 |[]=>ba []
 |a::c=>(argD δ a).bind λd=>(VY δ c).map λb=>d::b
theorem OC:∀{as:List AV}{ds:List cZ},VY δ as=ba ds->as.length=ds.length/\∀(i:Nat) (d:cZ),ds[i]?=ba d->∃a,as[i]?=ba a/\argD δ a=ba d
 |[],ds,h=>by cases h;exact⟨rfl,λi d e=>by simp at e⟩
 | a :: as,ds,h => by
  unfold VY at h;obtain⟨d,j,h⟩:=Aa.mp h;cases c:VY δ as with
  |none=>simp[c]at h
  |some n=>
   simp only[Ar,c]at h;cases h;obtain⟨l,g⟩:=OC c;refine⟨by simp[l],λi e f=>?_⟩;cases i with
   |zero=>cases f;exact⟨a,rfl,j⟩
   |succ i=>
    obtain⟨b,m,k⟩:=g i e (by simpa using f);exact⟨b,by simpa using m,k⟩
def V4:List AV->List Nat
 |[]=>[]
 |.d _::a=>V4 a
 |.o j::a=>j::V4 a
theorem Q1:∀{as:List AV}{i j:Nat},as[i]?=ba (.o j)->j∈V4 as
 |[],_,_,e=>by simp at e
 |.d _::as,0,j,e=>by simp at e
 |.o k::as,0,j,e=>by simp at e;subst e;exact Bu
 |.d _::as,i+1,j,e=>Q1 (as:=as) (i:=i) (by simpa using e)
 |.o k::as,i+1,j,e=>Ay _ (Q1 (as:=as) (i:=i) (by simpa using e))
theorem FU:∀{as:List AV}{j:Nat},j∈V4 as->∃i:Nat,as[i]?=ba (AV.o j)
 |[],_,h=>nomatch h
 |.d _::as,j,h=>by obtain⟨i,e⟩:=FU (as:=as) h;exact⟨i+1,by simpa using e⟩
 | .o k :: as,j,h => by
  rcases Bj.mp h with e|e;exact⟨0,by rw[e];rfl⟩;obtain⟨i,e⟩:=FU (as:=as) e;exact⟨i+1,by simpa using e⟩
theorem HQ:∀{as:List AV}{i k j:Nat},(V4 as).Nodup->as[i]?=ba (.o j)->as[k]?=ba (.o j)->i=k
 |[],_,_,_,_,e,_=>by simp at e
 |.d _::as,0,_,j,_,e,_=>by simp at e
 |.d _::as,_+1,0,j,_,_,e=>by simp at e
 |.d _::as,i+1,k+1,j,n,b,a=>congrArg (· +1) (HQ (as:=as) n (by simpa using b) (by simpa using a))
 |.o x::as,0,0,j,_,_,_=>rfl
 |.o x::as,0,k+1,j,n,b,a=>by
  simp at b;subst b;have h:as[k]?=ba (.o x):=by simpa using a
  exact absurd (Q1 h) (El.mp n).1
 |.o x::as,i+1,0,j,n,b,a=>by
  simp at a;subst a;have h:as[i]?=ba (.o x):=by simpa using b
  exact absurd (Q1 h) (El.mp n).1
 |.o x::as,i+1,k+1,j,n,b,a=>congrArg (· +1) (HQ (as:=as) (El.mp n).2 (by simpa using b) (by simpa using a))
def BY(δ:Ev)(as:List AV)(i:Nat):Bool:=match as[i]? with
 |some (.o j)=>match δ[j]? with
  |some (.ow _)=>bc
  |_=>be
 |_=>be
noncomputable def VW(a:List Nat):List AV->Nat->Bool
 |[],_=>bc
 |.d _::b,i=>VW a b (i+1)
 |.o _::b,i=>decide (i∈a)&&VW a b (i+1)
theorem RV{a:List Nat}:∀{as:List AV}{k i j:Nat},VW a as k=bc->as[i]?=ba (.o j)->k+i∈a
 |[],_,_,_,_,e=>by simp at e
 |.d _::as,k,0,j,h,e=>by simp at e
 |.o _::as,k,0,j,h,e=>by simp only[VW,Ae,decide_eq_true_eq]at h;exact h.1
 |.d _::as,k,i+1,j,h,e=>by
  have:=RV (as:=as) (k:=k+1) (i:=i) (j:=j) h (by simpa using e)
  rwa[show k+(i+1)=k+1+i by lia]
 |.o _::as,k,i+1,j,h,e=>by
  simp only[VW,Ae]at h;have:=RV (as:=as) (k:=k+1) (i:=i) (j:=j) h.2 (by simpa using e);rwa[show k+(i+1)=k+1+i by lia]
def P9:cZ->Bool
 |.lst a=>P2 a
 |.dct _ a=>P2 a
 |.dcn _ a=>P2 a
 |_=>be
def RM.kids{N N':Up->Prop}{a:Up}(w:RM K N H a d)(h:P9 d=bc):RM K N' H a d:=by
 cases w with
 |lst q r=>exact .lst q (r.hard h)
 |dct q r=>exact .dct q (r.hard h)
 |dcn q r=>exact .dcn q (r.hard h)
 |shp _ _=>cases h
noncomputable def UW(as:List AV):List Nat->List cZ->Ev->Ev
 |i::is,o::os,δ=>match as[i]? with
  |some (.o j)=>UW as is os (δ.set j (.ow o))
  |_=>UW as is os δ
 |_,_,δ=>δ
theorem QE{as:List AV}:∀{is:List Nat}{os:List cZ}{δ:Ev},(UW as is os δ).length=δ.length
 |[],_,_=>rfl
 |_::_,[],_=>rfl
 |i::is,o::os,δ=>by
  unfold UW;split;rw[QE,Ct];rw[QE]
theorem MH{as:List AV}:∀{is:List Nat}{os:List cZ}{δ:Ev}(j:Nat),is.length=os.length->j<δ.length->(∃(k i:Nat) (o:cZ),is[k]?=ba i/\os[k]?=ba o/\as[i]?=ba (AV.o j)/\(UW as is os δ)[j]?=ba (Sl.ow o))∨((∀i∈is,as[i]? ≠ba (AV.o j))/\(UW as is os δ)[j]?=δ[j]?)
 |[],[],δ,j,_,_=>.inr ⟨(λi h=>nomatch h),rfl⟩
 | i :: is,o :: os,δ,j,hl,g => by
  unfold UW;split;rename_i n p;rcases MH (is:=is) (os:=os) (δ:=δ.set n (.ow o)) j (by simpa using hl) (by rw[Ct];exact g)with⟨k,b,f,e,a,m,l⟩|⟨e,a⟩;exact .inl ⟨k+1,b,f,by simpa using e,by simpa using a,m,l⟩;by_cases c:j=n;subst c;rw[Bx g]at a;exact .inl ⟨0,i,o,rfl,rfl,p,a⟩;rw[Az (Dm c)]at a;refine .inr ⟨λb d=>?_,a⟩;rcases Bj.mp d with z|z;rw[z,p];intro w;cases w;exact c rfl;exact e b z;rename_i q;rcases MH (is:=is) (os:=os) (δ:=δ) j (by simpa using hl) g with⟨k,b,f,e,a,m,l⟩|⟨e,a⟩;exact .inl ⟨k+1,b,f,by simpa using e,by simpa using a,m,l⟩;refine .inr ⟨λb d => ?_,a⟩;rcases Bj.mp d with z|z;rw[z];exact λw=>q j w;exact e b z
def UA(a:List Nat)(as:List AV)(δ:Ev):Bool:=a.all (BY δ as)&&decide (V4 as).Nodup
def U5(a:List Nat)(as:List AV)(r:cZ)(os:List cZ):Bool:=(VW a as 0 || r.hard)&&(VW a as 0 || os.all P9)&&decide (a.length=os.length)
def cE(n:Nat)(a:List Nat)(F:bR)(fs:UL):VF:=λδ=>(fs δ).bind λp=>(VY p.2 p.1).bind λb=>if b.length=n/\UA a p.1 p.2=bc then(F b).bind λq=>if U5 a p.1 q.1 q.2=bc then ba (q.1,UW p.1 a q.2 p.2)else bb else bb
def IW{n:Nat}{f:List Nat}{F:bR}{fs:UL}{Q:VK}(h:TV K ml (ps && f.isEmpty) bc bc (cE n f F fs) σ H Q):GP (spV K f n F) [] E0 (NI K ml ps fs) σ H Q:=by
 obtain⟨B,O,δ,d,T,S,q,k⟩:=h;unfold cE at q;obtain⟨⟨l,c⟩,h1,q⟩:=Aa.mp q;have q:((VY c l).bind λds=>if ds.length=n/\UA f l c=bc then(F ds).bind λq=>if U5 f l q.1 q.2=bc then ba (q.1,UW l f q.2 c)else bb else bb)=ba (d,T):=q;obtain⟨ds,h2,q⟩:=Aa.mp q;have q:(if ds.length=n/\UA f l c=bc then(F ds).bind λq=>if U5 f l q.1 q.2=bc then ba (q.1,UW l f q.2 c)else bb else bb)=ba (d,T):=q;split at q;rename_i hc;obtain⟨⟨r,os⟩,h3,q⟩:=Aa.mp q;have q:(if U5 f l r os=bc then ba (r,UW l f os c)else bb)=ba (d,T):=q;split at q;rename_i Z;cases q;obtain⟨hn,hc⟩:=hc;simp only[UA,Ae,decide_eq_true_eq,Fe]at hc;simp only[U5,Ae,decide_eq_true_eq]at Z;obtain⟨hmu,hnd⟩:=hc;obtain⟨⟨tu,u9⟩,ah⟩:=Z;refine⟨B,O,δ,l,c,S,h1,λX H1 R=>?_⟩;show spV K f n F (X++[]) H1 Q E0;rw[Bi];obtain⟨hal,hag⟩:=OC h2;have M:∀i∈f,∃j a x,l[i]?=ba (.o j)/\c[j]?=ba (.ow x)/\O j=ba a/\X[i]?=ba (.ref a)/\RM K (Nn B O) H1 a x:=λi s=>by
  have:=hmu i s
  unfold BY at this;split at this;rename_i j ej;split at this;rename_i x ex;obtain⟨a,g,p,w⟩:=R.sta.ow j x ex;obtain⟨v,t,D⟩:=R.rep.getO ej;rw[p]at D;cases D;exact⟨j,a,x,ej,ex,g,t,w⟩;cases this;cases this
 have hP:∀a,KY f X a->∃i j,i∈f/\l[i]?=ba (.o j)/\O j=ba a:=λa q0=>by obtain⟨i,s,e⟩:=q0;obtain⟨j,a',x,g,_,p,t,_⟩:=M i s;rw[e]at t;cases t;exact⟨i,j,s,g,p⟩
 have U:∀a,KY f X a->OA O a:=λa h=>by obtain⟨i,j,_,_,e⟩:=hP a h;exact⟨j,e⟩
 have C:∀a,Zp (λa=>Nn B O a/\∀j∈V4 l,O j≠ba a) f X a->Nn B O a:=λa h=>by
  rcases h with h|h;exact h.1;exact .inr (U a h)
 refine⟨λa=>Nn B O a/\∀j∈V4 l,O j≠ba a,ds,_,os,hn,⟨by rw[<-hal,R.rep.length],λi s=>?_,λi x s e=>?_,λi x s e=>?_,λi j a s hj g p=>?_,λa h=>R.sta.nin h.1⟩,h3,λv H2 f2 w2 r2=>?_⟩;obtain⟨j,a,x,g,_⟩:=M i s;rw[<-hal];exact(Ai.mp g).1;obtain⟨a,g,p⟩:=hag i x e;cases a with
 |d y=>
  cases p;obtain⟨v,t,r⟩:=R.rep.getD g;exact⟨v,t,r.mono C C⟩
 |o j=>
  obtain⟨v,t,D⟩:=R.rep.getO g;refine⟨v,t,?_⟩;rcases OV p with I|I;obtain⟨v',G,r⟩:=R.sta.va j x I;rw[D]at G;cases G;exact r.mono C C;obtain⟨a,P,G,w⟩:=R.sta.ow j x I;rw[D]at G;cases G;refine(w.mono C).rep λz=>?_;rcases z with z|z
  exact z.2 j (Q1 g) P;obtain⟨Y,u,m,N,V⟩:=hP a z;have:j=u:=R.sta.inj j u a P V
  subst this;have:=HQ hnd g N;subst this;exact s m
 obtain⟨a,g,p⟩:=hag i x e;obtain⟨j,b,y,t,D,I,G,w⟩:=M i s;rw[t]at g;cases g;have P:slot c j=ba y:=by unfold slot;rw[D]
 have p:slot c j=ba x:=p;rw[P]at p;cases p;exact⟨b,G,w.mono C,λz=>z.2 j (Q1 t) I⟩;obtain⟨j1,b1,_,t,_,D,I,_⟩:=M i s;obtain⟨j2,b2,_,G,_,P,N,_⟩:=M j hj;rw[g]at I;cases I;rw[p]at N;cases N;have:j1=j2:=R.sta.inj j1 j2 a D P;subst this;exact HQ hnd t G;have S2:bN K ml B O H2 σ (UW l f os c):=by
  refine R.sta.call QE (λj=>?_) f2 U;by_cases hj:j<c.length;rcases MH (as:=l) (is:=f) (os:=os) (δ:=c) j ah hj with⟨kk,i,o,g,p,t,D⟩|⟨g,p⟩;obtain⟨u,a,x,I,_,G,P,_⟩:=M i (Cn g);rw[t]at I;cases I;have w:=w2 kk i a o g P p;refine .inr ⟨a,o,G,D,?_⟩;rcases(Jy _ _).mp u9 with z|z;refine w.mono λb Z => ?_;by_cases E:∃u∈V4 l,O u=ba b;obtain⟨u,A,N⟩:=E;obtain⟨Y,V⟩:=FU A;have m:=RV z V;rw[Qn]at m;obtain⟨j'',a'',_,L,_,J,W,_⟩:=M Y m;rw[V]at L;cases L;rw[N]at J;cases J;exact .inr ⟨Y,m,W⟩;exact .inl ⟨Z,λu A e=>E ⟨u,A,e⟩⟩;exact w.kids (Fe.mp z o (Cn p));refine .inl ⟨p,λa ea hPa => ?_⟩;obtain⟨i,u,s,t,D⟩:=hP a hPa;have:j=u:=R.sta.inj j u a ea D;subst this;exact g i s t;refine .inl ⟨?_,λa ea => ?_⟩;rw[Cj (by rw[QE];lia),Cj (by lia)];obtain⟨x,ex⟩:=R.sta.dom j a ea;exact absurd (Ai.mp ex).1 hj
 refine k v H2 ⟨S2,R.frm.trans (f2.mono U),λz=>?_,?_⟩;obtain⟨z1,z2⟩:=(Ae _ _).mp z;refine(R.pur z1).trans λb o e=>f2 b o e λw=>?_;obtain⟨i,s,_⟩:=w;rw[Ra.mp z2]at s;cases s;rcases(Jy _ _).mp tu with z|z;have hN : ∀ a,Nn B O a -> Zp (λa => Nn B O a /\ ∀ j ∈ V4 l,O j ≠ ba a) f X a := λb Z => by
  by_cases E:∃u∈V4 l,O u=ba b;obtain⟨u,A,N⟩:=E;obtain⟨Y,V⟩:=FU A;have m:=RV z V;rw[Qn]at m;obtain⟨j'',a'',_,L,_,J,W,_⟩:=M Y m;rw[V]at L;cases L;rw[N]at J;cases J;exact .inr ⟨Y,m,W⟩;exact .inl ⟨Z,λu A e=>E ⟨u,A,e⟩⟩
 exact r2.mono hN hN;exact r2.hard z;cases q;cases q
def qC{x:Uq}{d j n:Nat}{f:List Uq}{a:List Nat}{F:bR}{q:Up}{g:Pos}{fs:UL}(p:X.K=K)(D:Def X.prog X.w K X.mg X.base x d f (spV K a n F) q)(i:aT j X.A)(k:d<=j)(l:Gl X x)(o:PA X (e::es) (NI K ml ps fs))(c:ND x:=by decide)(m:SE X e es:=by rfl)(b:(Co pos (Us es X.env)).any (·.1)=be:=by rfl):PE X (.Call (.Name x g) (e::es) [] pos) (TV K ml (ps&&a.isEmpty) bc bc (cE n a F fs)):=by subst p;exact(F8 D i k l o c m b).imp λ_ _ _ h=>IW h
end
section
variable{X:Cx}{K:Ag}{ml:List Nat}{e a b c:Uv}{es:List Uv}{pi pt pe pu bt bi ps bs:Bool}{f:VF}{B B':Bs}{O:Nat->Option Up}{H H0 H1 H':Hp}{σ:St}{δ δ':Ev}{v:V}{d:cZ}{p:Up}{pos:Pos}{ix:List Nat}{nl:Nat}
section
variable{D:Up}{kp:List (V×cZ)}{j i:Nat}{Q:VK}{Y:Cx}
def V2(ix:List Nat)(δ:Ev):Ev:=ix.map λi=>(δ[i]?).getD .no
def J4(nl:Nat):Ev:=Av nl Sl.no
noncomputable def X6(n nl:Nat)(e:VG)(c:VB)(f:VF):List cZ->List cZ->Ev->Option (List cZ×Ev)
 |[],a,δ=>ba (a,δ)
 |d::r,a,δ=>(e d (δ++J4 nl)).bind λb=>(c b).bind λp=>if p.1=bc then(f p.2).bind λq=>if a.length<16777216 then X6 n nl e c f r (a++[q.1]) (q.2.take n)else bb else X6 n nl e c f r a (p.2.take n)
noncomputable def ZB:List Nat->Ev->Ev->Ev
 |i::is,s::a,δ=>match s with
  |.ow d=>ZB is a (δ.set i (.ow d))
  |_=>ZB is a δ
 |_,_,δ=>δ
def X7(ix:List Nat)(nl:Nat)(c:VI)(b:VG)(a:VB)(d:VF):VF:=λδ=>(c δ).bind λp=>(X6 ix.length nl b a d p.1 [] (V2 ix p.2)).map λq=>(.lst q.1,ZB ix q.2 p.2)
def T9:VB:=λδ=>ba (bc,δ)
theorem OD:∀{ix:List Nat}{ss δ:Ev},(ZB ix ss δ).length=δ.length
 |[],_,_=>rfl
 |_::_,[],_=>rfl
 |i::is,s::ss,δ=>by
  cases s<;>simp only[ZB]<;>rw[OD]<;>try rw[Ct]
theorem RW:∀{ix:List Nat}{ss δ:Ev}(i:Nat),i<δ.length->ix.length=ss.length->(∃(j:Nat) (d:cZ),ix[j]?=ba i/\ss[j]?=ba (Sl.ow d)/\(ZB ix ss δ)[i]?=ba (Sl.ow d))∨((∀(j:Nat) (d:cZ),ix[j]?=ba i->ss[j]? ≠ba (Sl.ow d))/\(ZB ix ss δ)[i]?=δ[i]?)
 |[],ss,δ,i,g,hl=>.inr ⟨(λj d h=>by simp at h),rfl⟩
 |k::is,[],δ,i,g,hl=>by cases hl
 | k :: is,s :: ss,δ,i,g,hl => by
  have f:is.length=ss.length:=by simpa using hl
  cases s with
  |ow d=>
   simp only[ZB];rcases RW (ix:=is) (ss:=ss) (δ:=δ.set k (.ow d)) i (by rw[Ct];exact g) f with⟨j,c,b,a,l⟩|⟨b,a⟩;exact .inl ⟨j+1,c,by simpa using b,by simpa using a,l⟩;by_cases m:i=k;subst m;rw[Bx g]at a;exact .inl ⟨0,d,rfl,rfl,a⟩;rw[Az (Dm m)]at a;refine .inr ⟨λj c e=>?_,a⟩;cases j with
   |zero=>cases e;exact absurd rfl m
   |succ j=>simpa using b j c (by simpa using e)
  |va d=>
   simp only[ZB];rcases RW (ix:=is) (ss:=ss) (δ:=δ) i g f with⟨j,c,b,a,l⟩|⟨b,a⟩;exact .inl ⟨j+1,c,by simpa using b,by simpa using a,l⟩;refine .inr ⟨λj c e => ?_,a⟩;cases j with
   |zero=>simp
   |succ j=>simpa using b j c (by simpa using e)
  |no=>
   simp only[ZB];rcases RW (ix:=is) (ss:=ss) (δ:=δ) i g f with⟨j,c,b,a,l⟩|⟨b,a⟩;exact .inl ⟨j+1,c,by simpa using b,by simpa using a,l⟩;refine .inr ⟨λj c e => ?_,a⟩;cases j with
   |zero=>simp
   |succ j=>simpa using b j c (by simpa using e)
def Oc(ix:List Nat)(O:Nat->Option Up):Nat->Option Up:=λj=>(ix[j]?).bind O
def Bc(ix:List Nat)(B:Bs)(O:Nat->Option Up)(H0:Hp)(D:Up)(kp:List (V×cZ)):Bs:=
 ⟨λa=>(B.Z a∨a=D)∨∃i,O i=ba a/\i∉ix,OA (Oc ix O),H0,Oc ix O,kp⟩
def NX:∀a,Nn (Bc ix B O H0 D kp) (Oc ix O) a->Nn B O a∨a=D:=λa h=>by
 rcases h with((h|h)|⟨i,h,_⟩)|⟨j,h⟩;exact .inl (.inl h);exact .inr h;exact .inl (.inr ⟨i,h⟩);unfold Oc at h;cases q:ix[j]? with
 |none=>rw[q]at h;cases h
 |some i=>rw[q]at h;exact .inl (.inr ⟨i,h⟩)
def DY:∀a,Nn (B.add D) O a->Nn (Bc ix B O H0 D kp) (Oc ix O) a:=λa h=>by
 rcases h with h|⟨i,h⟩;exact .inl (.inl h);by_cases b:i∈ix;obtain⟨j,c⟩:=Jh.mp b;exact .inr ⟨j,by unfold Oc;rw[c];exact h⟩;exact .inl (.inr ⟨i,h,b⟩)
def bN.withKp(S:bN K ml B O H σ δ)(h:∀p∈kp,bV K (Nn B O) H (Nn B O) p.1 p.2):bN K ml {B with kp:=kp} O H σ δ:=
 ⟨S.len,S.va,S.ow,S.dom,S.inj,S.old,S.zin,S.frm,S.par,S.pin,h⟩
def bN.writeZ{o:HO}{l:List V}(S:bN K ml B O H σ δ)(k:B.Z D)(hl:H D=ba (.lst l))(s:B.H0 D=bb):bN K ml B O (upd H D o) σ δ:=by
 have j:Fr (λb=>b=D) H (upd H D o):=λb u q n=>by
  by_cases c:b=D;subst c;rw[hl]at q;cases q;exact absurd (n rfl) λz=>z;rw[cL c];exact q
 have g:∀b,b=D->Nn B O b:=λb z=>.inl (z▸k);have f:∀b,(∃u,H b=ba u)->∃u,upd H D o b=ba u:=λb q0=>by
  obtain⟨u,q⟩:=q0;by_cases c:b=D;exact⟨o,by rw[c];exact cM⟩;exact⟨u,by rw[cL c];exact q⟩
 refine⟨S.len,λi d q=>?_,λi d q=>?_,S.dom,S.inj,S.old,λb h=>f b (S.zin b h),λb u q n=>?_,S.par,λb h=>f b (S.pin b h),λp m=>(S.kep p m).fr j g g⟩;obtain⟨v,e,r⟩:=S.va i d q;exact⟨v,e,r.fr j g g⟩;obtain⟨a,e,t,w⟩:=S.ow i d q;exact⟨a,e,t,w.fr j g λz=>(S.old i a e).1 (z▸k)⟩;have c : b ≠ D := λz => by rw [z,s]at q;cases q
 rw[cL c];exact S.frm b u q n
def JO{s:Sl}(h:(V2 ix δ++J4 nl)[j]?=ba s):(∃i,ix[j]?=ba i/\s=(δ[i]?).getD .no)∨s=.no:=by
 unfold V2 J4 at h;by_cases a:j<ix.length;rw [As (by simpa using a),Bo]at h;cases q:ix[j]? with
 |none=>rw[q]at h;cases h
 |some i=>rw[q]at h;cases h;exact .inl ⟨i,rfl,rfl⟩
 rw [Dk (by simpa using a),Dj]at h;split at h;cases h;exact .inr rfl;cases h
def FI{v:V}(a:ix[j]?=ba i)(h:σ[i]?=ba (ba v)):(ZF ix σ++Av nl bb)[j]?=ba (ba v):=by have b:j<ix.length:=(Ai.mp a).1;unfold ZF;rw[As (by simpa using b),Bo,a];show ba ((σ[i]?).join)=_;rw[h];rfl
def bN.inner(S:bN K ml B O H0 σ δ)(b:H0 D=bb)(hnd:ix.Nodup){t:List (V×cZ)}(x:∀p∈t,bV K (Nn B O) H0 (Nn B O) p.1 p.2):
  bN K (At ix.length) (Bc ix B O H0 D t) (Oc ix O) (upd H0 D (.lst [])) (ZF ix σ++Av nl bb) (V2 ix δ++J4 nl) where
 len:=by simp[ZF,V2,J4]
 va := λj d e => by
  rcases JO e with⟨i,c,q⟩|q;have q:δ[i]? =ba (.va d):=by
   cases w:δ[i]? with
   |none=>rw[w]at q;cases q
   |some s=>rw[w]at q;rw[show s=.va d from q.symm]
  obtain⟨v,f,r⟩:=S.va i d q;exact⟨v,FI c f,(r.away b _ _ NX NX).same (cR b)⟩;cases q
 ow := λj d e => by
  rcases JO e with⟨i,c,q⟩|q;have q:δ[i]? =ba (.ow d):=by
   cases w:δ[i]? with
   |none=>rw[w]at q;cases q
   |some s=>rw[w]at q;rw[show s=.ow d from q.symm]
  obtain⟨a,f,l,w⟩:=S.ow i d q;refine⟨a,by unfold Oc;rw[c];exact f,FI c l,?_⟩;cases w with
  |lst g r=>exact .lst (cR b _ _ g) ((r.away b _ _ NX).same (cR b))
  |dct g r=>exact .dct (cR b _ _ g) ((r.away b _ _ NX).same (cR b))
  |dcn g r=>exact .dcn (cR b _ _ g) ((r.away b _ _ NX).same (cR b))
  |shp g r=>exact .shp (g.kept λo e=>cR b _ _ e) ((r.away b _ _ NX).same (cR b))
  cases q
 dom:=λj a e=>by unfold Oc at e;obtain⟨i,c,e⟩:=Aa.mp e;obtain⟨d,q⟩:=S.dom i a e;refine⟨d,?_⟩;have A:j<ix.length:=(Ai.mp c).1;unfold V2;rw[As (by simpa using A),Bo,c];show ba ((δ[i]?).getD .no)=_;rw[q];rfl
 inj:=λj k a f l=>by
  unfold Oc at f l;cases c:ix[j]? with
  |none=>rw[c]at f;cases f
  |some i=>
   cases x:ix[k]? with
   |none=>rw[x]at l;cases l
   |some u=>
    rw[c]at f;rw[x]at l;have:i=u:=S.inj i u a f l;subst this;obtain⟨E,q1⟩:=Ai.mp c;obtain⟨C,q2⟩:=Ai.mp x;exact(Jj hnd).mp (q1.trans q2.symm)
 old:=λj a e=>by
  have m:=e;unfold Oc at m;cases c:ix[j]? with
  |none=>rw[c]at m;cases m
  |some i=>
   rw[c]at m;refine⟨λz=>?_,.inl ⟨j,e⟩⟩;rcases z with(z|z)|⟨u,z,n⟩;exact(S.old i a m).1 z;obtain⟨o,q⟩:=S.nin (.inr ⟨i,m⟩);rw[z,b]at q;cases q;have:i=u:=S.inj i u a m z
   subst this;exact n (Cn c)
 zin:=λa h=>by
  rcases h with(h|h)|⟨i,h,_⟩;obtain⟨o,q⟩:=S.zin a h;exact⟨o,cR b _ _ q⟩;exact⟨_,by rw[h];exact cM⟩;obtain⟨o,q⟩:=S.nin (.inr ⟨i,h⟩);exact⟨o,cR b _ _ q⟩
 frm:=(cR b).fr
 par:=⟨λj a e=>by
  have e:(ix[j]?).bind O=ba a:=e;cases c:ix[j]? with
  |none=>rw[c]at e;cases e
  |some i=>exact Dx.mpr (Ai.mp c).1,λj _=>rfl⟩
 pin:=λa q0=>by obtain⟨j,e⟩:=q0;unfold Oc at e;obtain⟨i,c,e⟩:=Aa.mp e;obtain⟨o,q⟩:=S.nin (.inr ⟨i,e⟩);exact⟨o,cR b _ _ q⟩
 kep:=λp y=>((x p y).away b _ _ NX NX).same (cR b)
def bN.turn{l:Nat->Option Up}{f:St}{n:Nat}{m:St}(S:bN K (At n) B l H f δ)(C:∀j,n<=j->B.mu j=bb)(x:m.length=n)(o:f.take n=m)(D:n<=δ.length):bN K (At n) B B.mu H (m++Av nl bb) (δ.take n++J4 nl):=by
 have z:∀j,j<n->l j=B.mu j:=λj b=>S.par.2 j (Dx.mpr b);have c:∀j a,B.mu j=ba a->l j=ba a:=λj a e=>by rw[z j (Dx.mp (S.par.1 j a e))];exact e
 have g:∀a,Nn B B.mu a->Nn B l a:=λa h=>by
  rcases h with h|⟨j,h⟩;exact .inl h;exact .inr ⟨j,c j a h⟩
 have y:∀(j:Nat) (s:Sl),(δ.take n++J4 nl)[j]?=ba s->(j<n/\δ[j]?=ba s)∨s=.no:=λj s h=>by
  have hl:(δ.take n).length=n:=by rw[Cc];lia
  by_cases b:j<n;rw [As (by rw [hl];exact b),Db b]at h;exact .inl ⟨b,h⟩;unfold J4 at h;rw[Dk (by rw[hl];lia),Dj]at h;split at h;cases h;exact .inr rfl;cases h
 have u:∀(j:Nat) (v:V),j<n->f[j]?=ba (ba v)->(m++Av nl bb)[j]?=ba (ba v):=λj v b e=>by rw[As (by rw[x];exact b),<-o,Db b];exact e
 refine⟨?_,λj d e=>?_,λj d e=>?_,λj a e=>?_,λj k a i t=>S.inj j k a (c j a i) (c k a t),λj a e=>S.old j a (c j a e),S.zin,S.frm,⟨S.par.1,λj _=>rfl⟩,S.pin,λp A=>(S.kep p A).mono g g⟩;simp[x,J4,Cc];lia;rcases y j _ e with⟨b,e⟩|e;obtain⟨v,i,r⟩:=S.va j d e;exact⟨v,u j v b i,r.mono g g⟩;cases e;rcases y j _ e with⟨b,e⟩|e;obtain⟨a,i,t,w⟩:=S.ow j d e;exact⟨a,(z j b)▸i,u j _ b t,w.mono g⟩;cases e;have b:=Dx.mp (S.par.1 j a e);obtain⟨d,q⟩:=S.dom j a (c j a e);refine⟨d,?_⟩;rw[As (by rw[Cc];lia),Db b];exact q
def XS(ix:List Nat)(σ:St):(ZF ix σ).length=ix.length:=by simp[ZF]
def KJ{a:St}(hl:ix.length<=a.length)(h:∀i∈At ix.length,a[i]?=(ZF ix σ++Av nl bb)[i]?):a.take ix.length=ZF ix σ:=by
 refine He λj=>?_;by_cases b:j<ix.length;rw[Db b,h j (Dx.mpr b),As (by rw[XS];exact b)];rw[Cj (by rw[Cc];lia),Cj (by rw[XS];lia)]
def BJ{a:St}(d:∀i∈At ix.length,a[i]?=(ZF ix σ++Av nl bb)[i]?):ix.length<=a.length:=by
 by_cases f:ix.length=0;lia;have b : ix.length-1 < ix.length := by lia
 have:=d (ix.length-1) (Dx.mpr b)
 have c:(ZF ix σ++Av nl bb)[ix.length-1]? ≠bb:=by rw[As (by rw[XS];exact b)];simp[ZF,b]
 rw[<-this]at c;have e:ix.length-1<a.length:=Nat.lt_of_not_le λz=>c (List.getElem?_eq_none_iff.mpr z);lia
def oV(K:Ag)(J:It)(a:List (V×cZ))(ds:List cZ)(H0:Hp)(b:Bool):Prop:=∀(N:Up->Prop) (H:Hp),(∀p∈a,bV K N H N p.1 p.2)->(b=bc->bI H0 H)->
 (∀(i:Nat) (d:cZ),ds[i]?=ba d->J.go i H/\∀x H',J.yld i H x H'->bI H H'/\bV K N H' N x d)/\J.stop ds.length H
inductive TIVq(K:Ag)(ml:List Nat)(pu b:Bool)(f:VI)(σ:St)(H:Hp)(R:It->Hp->Prop):Prop
 |mk (B:_) (O:_) (δ:_) (ds:_) (δ':_) (h0:bN K ml B O H σ δ) (h1:f δ=ba (ds,δ')) (h2:∀J kps H',bN K ml {B with kp:=kps++B.kp} O H' σ δ'->Fr (OA O) H H'->(pu=bc->bI H H')->oV K J kps ds H' b->R J H'):TIVq K ml pu b f σ H R
def FK{B:Bs}{O:Nat->Option Up}{H H0 H1:Hp}{σ:St}{δ1 c:Ev}{h:List (V×cZ)}{g:List V}{res:List cZ}{pi pr:Bool}{u:St}(q:bN K ml {B with kp:=h++B.kp} O H0 σ δ1)(v:H0 D=bb)(R:Fr (OA O) H H0)(M:pi=bc->bI H H0)(t:bN K (At ix.length) (Bc ix B O H0 D (h++g.zip res)) (Oc ix O) H1 u (c++J4 nl))(W:g.length=res.length)(k:c.length=ix.length)(m:H1 D=ba (.lst g))(U:pr=bc->bI H0 H1):ResN K ml B O H σ (pi&&pr) H1 (ZB ix c δ1) D (.lst res):=by
 have I:Fr (OA (Oc ix O)) H0 H1:=t.frm;have l:∀a,OA (Oc ix O) a->OA O a:=λa q0=>by
  obtain⟨j,e⟩:=q0;unfold Oc at e;cases d:ix[j]? with
  |none=>rw[d]at e;cases e
  |some i=>rw[d]at e;exact⟨i,e⟩
 have SL:=q.unkeep.laid (o:=.lst g) v;have Q:Fr (OA (Oc ix O)) (upd H0 D (.lst g)) H1:=λb o e n=>by
  by_cases G:b=D;subst G;rw[cM]at e;cases e;exact m;rw[cL G]at e;exact I b o e n
 refine⟨SL.call (OD) (λi=>?_) Q l,R.trans (I.mono l),λz=>?_,.lst m (UF W λp N=>(t.kep p (Ax _ N)).mono DY DY),q.unkeep.new v,q.fresh v⟩;by_cases E:i<δ1.length;rcases RW (ix:=ix) (ss:=c) (δ:=δ1) i E k.symm with⟨j,x,C,s,T⟩|⟨C,s⟩;have S:(c++J4 nl)[j]? =ba (.ow x):=by rw[As (Ai.mp s).1];exact s
 obtain⟨a,A,_,w⟩:=t.ow j x S;refine .inr ⟨a,x,?_,T,w.mono DY⟩;unfold Oc at A;rw[C]at A;exact A;refine .inl ⟨s,λa y ⟨j,f⟩ => ?_⟩;obtain⟨x,r⟩:=t.dom j a f;unfold Oc at f;cases d:ix[j]? with
 |none=>rw[d]at f;cases f
 |some F=>
  rw[d]at f;have:i=F:=q.inj i F a y f;subst this;have P:j<c.length:=by rw[k];exact(Ai.mp d).1
  rw[As P]at r;exact C j x d r
 refine .inl ⟨?_,λa y => ?_⟩;rw[Cj (by rw[OD];lia),Cj (by lia)];obtain⟨x,r⟩:=q.dom i a y;exact absurd (Ai.mp r).1 E;obtain⟨L,J⟩:=(Ae _ _).mp z;exact(M L).trans (U J)
def uL{fi:VI}{U:VG}{M:VB}{W:VF}(hnd:ix.Nodup)(h:TN K ml (pi&&pt&&pe) (X7 ix nl fi U M W) σ H Q):Xl ix nl (TIVq K ml pi (pt&&pe) fi) (DC K (At ix.length) U) (TB K (At ix.length) pt M) (TV K (At ix.length) pe bc bc W) σ H Q:=by
 obtain⟨B,O,δ,d,δ2,S,q,k⟩:=h;unfold X7 at q;obtain⟨⟨r,t⟩,h1,q⟩:=Aa.mp q;have q:((X6 ix.length nl U M W r [] (V2 ix t)).map λq=>(cZ.lst q.1,ZB ix q.2 t))=ba (d,δ2):=q;obtain⟨⟨N,I⟩,h2,q⟩:=Ah.mp q;cases q;refine⟨B,O,δ,r,t,S,h1,λJ f H0 S0 f0 p0 wk D G=>?_⟩;have hDO:∀j,Oc ix O j≠ba D:=λj e=>by unfold Oc at e;obtain⟨i,hi,e⟩:=Aa.mp e;obtain⟨o,q⟩:=S0.nin (.inr ⟨i,e⟩);rw[G]at q;cases q
 have j5:∀kp j,ix.length<=j->(Bc ix B O H0 D kp).mu j=bb:=λkp j hj=>by show(ix[j]?).bind O=bb;rw[Cj hj];rfl
 refine⟨λi m H1=>m=r.length-i/\i<=r.length/\∃(l:List V) (g:List cZ) (c:Ev),c.length=ix.length/\l.length=g.length∧
   bN K (At ix.length) (Bc ix B O H0 D (f++l.zip g)) (Oc ix O) H1 (ZF ix σ++Av nl bb) (c++J4 nl)/\H1 D=ba (.lst l)/\((pt&&pe)=bc->bI H0 H1)∧
   X6 ix.length nl U M W (r.drop i) g c=ba (N,I),
  r.length,⟨rfl,Bz _,[],[],V2 ix t,by simp[V2],rfl,by rw[Qc,Bi];exact S0.unkeep.inner G hnd λp F=>S0.kep p (Aq _ F),cM,λ_=>cR G,h2⟩,?_⟩
 rintro i m H1 ⟨rfl,hi,l,g,c,hlc,Y,S1,T,d3,hc⟩;have w:=wk (Nn (Bc ix B O H0 D (f++l.zip g)) (Oc ix O)) H1 (λp F=>S1.kep p (Aq _ F)) d3;by_cases C:i<r.length;obtain ⟨go,yl⟩ := w.1 i r[i] (by simp [C]);rw[Cv C]at hc;simp only[X6]at hc;obtain⟨L,g1,hc⟩:=Aa.mp hc;obtain⟨⟨kk,s⟩,g2,hc⟩:=Aa.mp hc;refine .inr ⟨go,λH'=>∃(cy:List V) (g:List cZ) (c:Ev),c.length=ix.length/\cy.length=g.length∧
  bN K (At ix.length) (Bc ix B O H0 D (f++cy.zip g)) (Oc ix O) H' (ZF ix σ++Av nl bb) (c++J4 nl)/\H' D=ba (.lst cy)/\((pt&&pe)=bc->bI H0 H')∧
  X6 ix.length nl U M W (r.drop (i+1)) g c=ba (N,I),λH' w'=>⟨r.length-(i+1),by lia,rfl,C,w'⟩,λx H2 hy=>?_⟩
 obtain⟨Z,rx⟩:=yl x H2 hy;refine⟨_,_,_,r[i],L,S1.same Z,rx,g1,λσ3 O3 S3 m3=>?_⟩;have A:=BJ m3;have n:=KJ A m3;refine⟨n,_,_,L,kk,s,S3,g2,λH4 E=>?_⟩;have R:H4 D=ba (.lst l):=E.frm _ _ (Z _ _ T) λz=>by
  obtain⟨j,e⟩:=z;have:=(E.sta.old j D e).1;exact absurd (.inl (.inr rfl)) this
 have ln4:ix.length<=s.length:=by rw[<-E.sta.len];exact A
 cases kk with
 |false=>
  rw[if_neg Bw]at hc;refine P7 ⟨l,g,s.take ix.length,by rw[Cc];lia,Y,E.sta.turn (j5 _) (XS ix σ) n ln4,R,λz=>?_,hc⟩;exact((d3 z).trans Z).trans (E.pur ((Ae _ _).mp z).1)
 |true=>
  rw[if_pos rfl]at hc;obtain⟨⟨X,y⟩,g3,hc⟩:=Aa.mp hc;split at hc;rename_i hz;refine P8 ⟨_,_,s,X,y,E.sta,g3,λv H5 u=>?_⟩;have P:H5 D=ba (.lst l):=u.frm _ _ R λz=>by
   obtain⟨j,e⟩:=z;have:=(u.sta.old j D e).1;exact absurd (.inl (.inr rfl)) this
  have ln5:ix.length<=y.length:=by rw[<-u.sta.len];exact A
  have S6:=u.sta.turn (nl:=nl) (j5 _) (XS ix σ) n ln5;have hv:bV K (Nn (Bc ix B O H0 D (f++l.zip g)) (Oc ix O)) H5 (Nn (Bc ix B O H0 D (f++l.zip g)) (Oc ix O)) v X:=by
   have hN:∀a,Nn (Bc ix B O H0 D (f++l.zip g)) (Oc ix O) a->av (Bc ix B O H0 D (f++l.zip g)) O3 bc a:=λa h=>by
    rcases h with h|⟨j,h⟩;exact .inl h;refine .inr ⟨j,?_⟩;have hj:j∈At ix.length:=u.sta.par.1 j a h;rw[u.sta.par.2 j hj];exact h
   exact u.rep.mono hN hN
  have S7:=S6.withKp (kp:=f++(l++[v]).zip (g++[X])) λp F=>by
   rw[Mv Y,<-Cw]at F;rcases Ez.mp F with z|z;exact S6.kep p z;rw[Au.mp (show p∈[(v,X)] from z)];exact hv
  refine⟨l,P,by rw[Y,Bg];exact hz,n,l++[v],g++[X],y.take ix.length,by rw[Cc];lia,by simp[Y],?_,cM,λz=>?_,hc⟩;exact S7.writeZ (.inl (.inr rfl)) P G;intro b o e;have hb:b≠D:=λz=>by rw[z,G]at e;cases e
  rw[cL hb];obtain⟨z1,z2⟩:=(Ae _ _).mp z;exact(((d3 z).trans Z).trans ((E.pur z1).trans (u.pur z2))) b o e;cases hc
 have e : i = r.length := by lia
 subst e;rw[Gd]at hc;cases hc;refine .inl ⟨w.2,k D H1 ?_⟩;rw[Nw];exact FK S0 G f0 p0 S1 Y hlc T d3
def nK{d:VI}{c:VG}{b:VB}{g:VF}(hnd:ix.Nodup)(h:TN K ml (pi&&pt&&pe) (X7 ix nl d c b g) σ H Q):Xl ix nl (LD K ml pi d) (DC K (At ix.length) c) (TB K (At ix.length) pt b) (TV K (At ix.length) pe bc bc g) σ H Q:=
 let ⟨B,O,δ,i,δ',S,e,k⟩:=uL hnd h
 ⟨B,O,δ,i,δ',S,e,λJ a H' j f p w=>k J a H' j f p λN H1 z _=>w N H1 z⟩
def tG{Q:Bool->Hp->Prop}(h:TB K ml bc T9 σ H Q):IS σ H Q:=by obtain⟨B,O,δ,k,δ',S,q,w⟩:=h;cases q;exact w H (ResB.refl S)
def E1{t:VB}(h:PT Y c (TB K ml pt t)):PTs Y [c] (TB K ml pt t):=pV h
def Y5:PTs Y [] (TB K ml bc T9):=λa s σ H Q I hw=>M7 a s σ H Q I (tG hw)
def Wp{o:Bool}(h:TX K ml (if o then xO f else xV f) σ H Q):TN K ml pu f σ H Q:=by
 obtain⟨B,O,δ,s,δ',S,q,k⟩:=h;have e:∃d,f δ=ba (d,δ')/\s=if o then .ow d else .va d:=by
  cases o with
  |true=>
   have q:(f δ).map (λp=>(Sl.ow p.1,p.2))=ba (s,δ'):=q;cases a:f δ with
   |none=>rw[a]at q;cases q
   |some p=>rw[a]at q;cases q;exact⟨p.1,rfl,rfl⟩
  |false=>
   have q:(f δ).map (λp=>(Sl.va p.1,p.2))=ba (s,δ'):=q;cases a:f δ with
   |none=>rw[a]at q;cases q
   |some p=>rw[a]at q;cases q;exact⟨p.1,rfl,rfl⟩
 obtain⟨d,a,b⟩:=e;refine⟨B,O,δ,d,δ',S,a,λp H' R=>?_⟩;cases o with
 |true=>
  cases b;have w:=R.own;cases w with
  |lst q1 r=>exact k _ H' _ (R.sta.keepV (XX r)) (.ol q1 r.length R.nz R.h0) R.frm
  |dct q1 r=>exact k _ H' _ (R.sta.keepV (XX r)) (.od q1 (by simpa using r.length) R.nz R.h0) R.frm
  |dcn q1 r=>exact k _ H' _ (R.sta.keepV (XX r)) (.on q1 (by simpa using r.length) R.nz R.h0) R.frm
  |shp q1 r=>exact k _ H' _ (R.sta.keepV (XX r)) (.os q1 r.length R.nz R.h0) R.frm
 |false=>
  cases b;exact k _ H' _ (R.sta.unadd.keepV (ps:=[(.ref p,d)]) λz c=>by rw[Au.mp c];exact(R.own.mono SW).rep R.nz) .va R.frm
def Xb{x:VX}{d:TE}(b:∀σ H Q,TX K ml x σ H Q->d σ H Q)(e:i∉ml){D:N5}(h:WZ K ml (aN i x) D σ H):tAsg d (W0 i) D σ H:=by
 obtain⟨B,O,δ,o,S,q,k⟩:=h;unfold aN at q;obtain⟨⟨s,a⟩,f,q⟩:=Aa.mp q;have q:(if i<a.length then ba (Ou.nx (a.set i s))else bb)=ba o:=q;split at q;rename_i hl;cases q;refine b _ _ _ ⟨B,O,δ,s,a,S,f,λv H' B' j g m=>?_⟩;obtain⟨l,c⟩:=g.bind j e hl;exact k _ _ _ c;cases q
end
end
abbrev b7(P:Ao)(w:Uw)(K:Ag)(mg:Uq->Option Uo)(base:Uy)(x:Uq)(k:Nat)(ps:List Uq)(a:List Nat)(F:bR)(f:Up):Prop:=Def P w K mg base x k ps (spV K a ps.length F) f
section
variable{X:Cx}{K:Ag}{ml:List Nat}{e a b c:Uv}{es:List Uv}{pa ta ia pb tb ib pc tc ic pu bt bi ps bs:Bool}{fa fb fc f:VF}{B B':Bs}{O:Nat->Option Up}{H H0 H1 H':Hp}{σ:St}{δ δ':Ev}{v:V}{d:cZ}{p:Up}{pos:Pos}
section
variable{N M:Up->Prop}{ds:List cZ}{i:Nat}
def b4{x:Uq}(a:Gl X x)(h:∃u v,X.mg x=ba u/\b3 v u/\∀N H M,bV K N H M v d)(b:ND x:=by decide):PE X (.Name x pos) (TV K ml bc bc bc (fC d)):=by obtain⟨u,v,f,e,c⟩:=h;exact A1 (lB a f e b) c
def Zm(K:Ag):R2:=λx y H Q=>∃a b c d,x=.ref a/\y=.ref b/\UN K H a c/\UN K H b d/\c.length+d.length<=sizeLine∧
 (c=[]->Q (.ref b) H)/\(c≠[]->d=[]->Q (.ref a) H)/\(c≠[]->d≠[]->∀p,H p=bb->Q (.ref p) (upd H p (.tup (c++d))))
def sP:XR X (Fg .Add) (Zm X.K):=by
 intro T s σ H x y v u Q I F E h;obtain⟨a,b,m,C,rfl,rfl,L,J,t,q0,q1,q2⟩:=h;cases F;cases E;obtain⟨k,g,r,_⟩:=I.tuple L;obtain⟨O,f,p,_⟩:=I.tuple J;by_cases i:m=[];subst i;have M:k=[]:=g.nil_iff.mpr rfl;subst M;obtain⟨⟨P,N,data,D⟩,A,hc,n,B⟩:=id r;obtain⟨⟨R,l,data2,j⟩,c,e,G,d⟩:=id p;simp only at hc B e d;subst hc B e d;exact Mq ⟨_,A,rfl⟩ ⟨_,c,rfl⟩ Mb Pa Iu Ij (Hu _ _)
  (tuple_addW0 a b _ O.toArray n G N l D j (by simp)) ⟨A,c,⟨.ref b,H,I,rfl,q0 rfl⟩⟩
 refine HT.zH6 r p (λz => i (g.nil_iff.mp z)) (λz => ⟨.ref a,H,I,rfl,q1 i (f.nil_iff.mp z)⟩) (λz => ?_) (by rw [<- g.length,<- f.length];exact t);refine⟨.ref s.heap.objs.size,_,I.laid (t':=s.toks) (o:=.tup (m++C)) (λb S q=>Ac _ q) (Am _) ?_,rfl,q2 i (λw=>z (f.nil_iff.mpr w)) _ (I.hok.fresh (Am _))⟩;exact⟨by rw[Be];exact t,_,g.append f,Ov _ _⟩
def Yx(K:Ag):R2:=λx y H Q=>∃l b c a,x=.ref l/\y=.ref b/\W8 K H l c/\W8 K H b a/\c.length+a.length<=sizeLine/\∀p,H p=bb->Q (.ref p) (upd H p (.lst (c++a)))
def iH:XR X (Fg .Add) (Yx X.K):=by
 intro P s σ H x y v u Q I w t h;obtain⟨l,b,N,M,rfl,rfl,D,E,C,q⟩:=h;cases w;cases t;obtain⟨a,r,A,_⟩:=I.list D;obtain⟨j,k,z,_⟩:=I.list E;obtain⟨⟨L,J,data,p⟩,n,m,hc,_,o⟩:=id A;obtain⟨⟨O,i,data2,f⟩,B,c,e,_,d⟩:=id z;simp only at hc o e d;subst hc o e d;have G:a.toArray++j.toArray=(a++j).toArray:=by simp
 have hl:=r.length;have g:=k.length;refine Mq ⟨_,m,rfl⟩ ⟨_,c,rfl⟩ noFill_list_add seq_list_add PySem.F.slot_list_add PySem.F.entry_list_add (PySem.F.args_list_add_2 _ _) (list_addW l b a.toArray j.toArray n B J i p f (by rw[Ak,Ak,<-hl,<-g];exact C)) ⟨m,c,?_⟩;rw[G];exact⟨.ref _,_,I.lnew (t':=s.toks) (r.append k) (by rw[Be];lia),rfl,q _ I.fresh⟩
def Xc(K:Ag):R2:=λx y H Q=>((EF (λi j=>.int (i+j)) x y H Q∨Zm K x y H Q)∨Yx K x y H Q)∨∃i j,x=.str i/\y=.str j/\i.length+j.length<=sizeLine/\Q (.str (i++j)) H
def VN(h:X.K=K:=by rfl):XR X (Fg .Add) (Xc K):=by subst h;exact((zKF.or sP).or iH).or D6
noncomputable def Y0:cZ->cZ->Option cZ
 |.int i,.int j=>ba (.int (i+j))
 |.tup ds,.tup es=>if ds.length+es.length<=16777216 then ba (.tup (ds++es))else bb
 |.lst ds,.lst es=>if ds.length+es.length<=16777216 then ba (.lst (ds++es))else bb
 |.str x,.str y=>if x.length+y.length<=16777216 then ba (.str (x++y))else bb
 |_,_=>bb
def bV.tupE(h:bV K N H M v (.tup ds)):∃a xs,v=.ref a/\UN K H a xs/\cG K N H xs ds:=by
 cases h.onT with
 |tup q r=>exact⟨_,_,rfl,q,r⟩
def bV.lstE(h:bV K N H M v (.lst ds)):∃a xs,v=.ref a/\W8 K H a xs/\cG K N H xs ds:=by
 cases h.onL with
 |lst q n r=>exact⟨_,_,rfl,W8.of q,r⟩
 |fzl q r=>exact⟨_,_,rfl,q.sq,r⟩
def YD:OpC K (Xc K) Y0:=by
 intro H N M B x y d e c Q n m h k;cases d with
 |int i=>
  cases e with
  |int j=>
   cases h;cases n.onI;cases m.onI;exact .inl (.inl (.inl ⟨_,_,rfl,rfl,k _ _ (bI.refl _) λ_ _=>.int _⟩))
  |_=>cases h
 |str i=>
  cases e with
  |str j=>
   simp only[Y0]at h;split at h;cases h;cases n.onS;cases m.onS;exact .inr ⟨_,_,rfl,rfl,by rw[Bg];assumption,k _ _ (bI.refl _) λ_ _=>.str _⟩;cases h
  |_=>cases h
 |tup w=>
  cases e with
  |tup es=>
   simp only[Y0]at h;split at h;rename_i u;cases h;obtain⟨a,t,rfl,q1,g⟩:=n.tupE;obtain⟨b,s,rfl,q2,f⟩:=m.tupE;refine .inl (.inl (.inr ⟨a,b,t,s,rfl,rfl,q1,q2,by rw[g.length,f.length,Bg];exact u,λz=>?_,λA v=>?_,λA v p l=>?_⟩));subst z;have:w=[]:=Ls.mp g.length.symm
   subst this;exact k _ _ (bI.refl _) λM r=>.tup q2 f;subst v;have:es=[]:=Ls.mp f.length.symm
   subst this;rw[Bi]at k;exact k _ _ (bI.refl _) λM r=>.tup q1 g;exact k _ _ (cR l) λM r=>.tup (UN.of cM) ((g.append f).same (cR l));cases h
  |_=>cases h
 |lst w=>
  cases e with
  |lst es=>
   simp only[Y0]at h;split at h;rename_i u;cases h;obtain⟨a,t,rfl,q1,g⟩:=n.lstE;obtain⟨b,s,rfl,q2,f⟩:=m.lstE;exact .inl (.inr ⟨a,b,t,s,rfl,rfl,q1,q2,by rw[g.length,f.length,Bg];exact u,λp l=>k _ _ (cR l) λM r=>.lst cM (λz=>by obtain⟨o,q⟩:=r _ z;rw[l]at q;cases q) ((g.append f).same (cR l))⟩);cases h
  |_=>cases h
 |_=>cases h
def Yc:Ag->R2:=λ_=>rI CMul λi j=>.int (i*j)
def HR(h:X.K=K:=by rfl):XR X (Fg .Mult) (Yc K):=oA
abbrev MB:=oMul
def M0:OpC K (Yc K) MB:=by intro H N M g x y d e c Q b a h k;exact qX H N N M g x y d e c Q b a h λv f=>k v H (bI.refl _) λM _=>f _ _ _
def L6:cZ->Option Z2
 |.int i=>ba (.inl i)
 |.str x=>ba (.inr x)
 |_=>bb
def bV.key{k:Z2}(h:bV K N H M v d)(e:L6 d=ba k):v=kV k:=by
 cases h<;>first
  |(cases e;rfl)
  |cases e
def YO(ks:List Z2)(ds:List cZ)(k:Z2):Option cZ:=match ks,ds with
 |a::ks,d::ds=>if a=k then ba d else YO ks ds k
 |_,_=>bb
theorem L8{N:Up->Prop}{k:Z2}:∀{kvs:List (Z2×V)}{ds:List cZ},cG K N H (kvs.map By) ds->(∃v d,TY kvs k=ba v/\YO (kvs.map Br) ds k=ba d/\bV K N H N v d)∨(TY kvs k=bb/\YO (kvs.map Br) ds k=bb)
 |[],_,.nil=>.inr ⟨rfl,rfl⟩
 | (k',v) :: kvs,_,.cons h t => by
  by_cases a:k'=k;refine .inl ⟨v,_,U1 (p:=(k',v)) a,?_,h⟩;simp[YO,a];rcases L8 (k:=k) t with⟨e,g,c,b,f⟩|⟨c,b⟩;exact .inl ⟨e,g,(WA (p:=(k',v)) a).trans c,by simpa[YO,a]using b,f⟩;exact .inr ⟨(WA (p:=(k',v)) a).trans c,by simpa[YO,a]using b⟩
def Vn(f:X.A.units+1<cLine):IxR X (λx y H Q=>∃a v,x=.ref a/\U4 H a y (ba v)/\Q v H):=by intro value b m s σ H x y v u Q I e d h i;obtain⟨a,w,rfl,g,q⟩:=h;cases e;exact Tk (FN I g) PySem.F.slot_dict_getitem.lookup (kX f I g d λk l j c=>⟨w,H,j,c,q⟩) i
def rIxA(K:Ag):R2:=λx y H Q=>(rIx K x y H Q∨∃a v,x=.ref a/\U4 H a y (ba v)/\Q v H)∨∃a k D v,x=.ref a/\y=.str k/\KTab K a D/\Eb k D=ba v/\Q v H
def kIxA(a:X.A.units+1<cLine)(h:X.K=K:=by rfl):IxR X (rIxA K):=by subst h;exact(zM0.or (Vn a)).or jD
noncomputable def aL:cZ->cZ->Option cZ
 |.tup a,.int i=>G8 a i
 |.lst a,.int i=>G8 a i
 |.dct ks a,e=>(L6 e).bind (YO ks a)
 |.str z,.int i=>if z.length<=16777216 then(G8 z.cps.toList i).map λc=>.str ⟨#[c]⟩else bb
 |_,_=>bb
theorem OG{N:Up->Prop}{k:Uq}:∀{D:List (Uq×V)}{ds:List cZ},cG K N H (D.map By) ds->(∃v d,Eb k D=ba v/\YO (D.map λp=>.inr p.1) ds (.inr k)=ba d/\bV K N H N v d)∨(Eb k D=bb/\YO (D.map λp=>.inr p.1) ds (.inr k)=bb)
 |[],_,.nil=>.inr ⟨rfl,rfl⟩
 | (k',v) :: D,_,.cons h t => by
  by_cases a:k'=k;subst a;exact .inl ⟨v,_,by simp[Eb],by simp[YO],h⟩;have b : ¬ k = k' := λz => a z.symm;rcases OG (k:=k) t with⟨f,i,e,c,g⟩|⟨e,c⟩;exact .inl ⟨f,i,by simpa[Eb,a,b]using e,by simpa[YO,a]using c,g⟩;exact .inr ⟨by simpa[Eb,a,b]using e,by simpa[YO,a]using c⟩
theorem FZ{i:Int}:∀{D:List (Uq×V)}{ds:List cZ},YO (D.map λp=>.inr p.1) ds (.inl i)=bb
 |[],_=>by simp[YO]
 |_::_,[]=>by simp[YO]
 |p::D,d::ds=>by simpa[YO]using FZ (D:=D) (ds:=ds)
def oP:OpI K (rIxA K) aL:=by
 intro H N E M F x y d e c Q o m h k;have seq:∀f i,WW d=ba f->e=.int i->G8 f i=ba c->rIxA K x y H Q:=λf i g b j=>by
  subst b;cases m.onI;obtain⟨a,s,rfl,sq,r⟩:=o.seq g;obtain⟨v,u,t⟩:=nS r j;rcases sq with sq|sq;exact .inl (.inl (.inl ⟨a,s,i,v,rfl,rfl,sq,u,k v t⟩));exact .inl (.inl (.inr (.inl ⟨a,s,i,v,rfl,rfl,sq,u,k v t⟩)))
 cases d with
 |tup f=>
  cases e with
  |int i=>exact seq f i rfl rfl h
  |_=>cases h
 |lst f=>
  cases e with
  |int i=>exact seq f i rfl rfl h
  |_=>cases h
 |str z=>
  cases e with
  |int i=>
   simp only[aL]at h;split at h;obtain⟨D,hc,h⟩:=Ah.mp h;cases h;cases o.onS;cases m.onI;exact .inl (.inl (.inr (.inr ⟨z,i,D,rfl,rfl,by rw[Bg];assumption,hc,k _ (.str _)⟩)));cases h
  |_=>cases h
 |dct w f=>
  simp only[aL]at h;obtain⟨l,A,h⟩:=Aa.mp h;have h:YO w f l=ba c:=h;have B:=m.key A;subst B;cases o.onD with
  |dct q n r p=>
   subst p;rcases L8 (k:=l) r with⟨v,C,g,b,j⟩|⟨g,b⟩;rw[h]at b;cases b;exact .inl (.inr ⟨_,v,rfl,g▸U4.k q,k v j⟩);rw[h]at b;cases b
  |ktb T r p=>
   subst p;cases l with
   |inl i=>rw[FZ]at h;cases h
   |inr x=>
    rcases OG (k:=x) r with⟨v,C,g,b,j⟩|⟨g,b⟩;rw[h]at b;cases b;exact .inr ⟨_,x,_,v,rfl,rfl,T,g,k v j⟩;rw[h]at b;cases b
 |_=>cases h
noncomputable def QC(δ:Ev)(i:Nat):Option (List Z2×List cZ):=match δ[i]? with
 |some (.ow (.dct a b))=>ba (a,b)
 |_=>bb
def J6{ks:List Z2}(h:QC δ i=ba (ks,ds)):δ[i]?=ba (.ow (.dct ks ds)):=by
 unfold QC at h;split at h;cases h;assumption;cases h
noncomputable def V7:List Z2->List cZ->Z2->cZ->List Z2×List cZ
 |a::b,d::c,k,v=>if a=k then(a::b,v::c)else let r:=V7 b c k v;(a::r.1,d::r.2)
 |_,_,k,v=>([k],[v])
def CN(i:Nat)(fk a:VF):VS:=λδ=>(a δ).bind λp=>(QC p.2 i).bind λ_=>(fk p.2).bind λq=>(L6 q.1).bind λk=>(QC q.2 i).bind λz=>if z.1.length<16777216/\z.1.Nodup then ba (.nx (q.2.set i (.ow (let r:=V7 z.1 z.2 k p.1;.dct r.1 r.2))))else bb
theorem J9{N:Up->Prop}{k:Z2}{v:V}(h:bV K N H N v d):∀{kvs:List (Z2×V)}{ds:List cZ},(kvs.map Br).Nodup->cG K N H (kvs.map By) ds->(W9 kvs k v).map Br=(V7 (kvs.map Br) ds k d).1/\cG K N H ((W9 kvs k v).map By) (V7 (kvs.map Br) ds k d).2
 |[],_,_,.nil=>⟨rfl,.cons h .nil⟩
 | (k',u) :: kvs,_,b,.cons g t => by
  obtain⟨f,c⟩:=El.mp b;by_cases a:k'=k;subst a;have e:W9 ((k',u)::kvs) k' v=(k',v)::kvs:=by
   unfold W9;rw[if_pos (by simp)];simp only[Ch,if_true];congr 1;refine(List.map_congr_left λp i=>?_).trans (List.map_id _);have:p.1≠k':=λz=>f (Hv.mpr ⟨p,i,z⟩);simp[this]
  rw[e];exact⟨by simp[V7],by simpa[V7]using cG.cons h t⟩;obtain⟨l,j⟩:=J9 (k:=k) h c t;have e:W9 ((k',u)::kvs) k v=(k',u)::W9 kvs k v:=by
   unfold W9;simp only[Hd,a,decide_false,Pd];split;simp[a];rfl
  rw[e];exact⟨by simpa[V7,a]using l,by simpa[V7,a]using cG.cons g j⟩
def IJ{l:Up}{o:HO}{xs:List V}{kvs:List (Z2×V)}(d:H l=ba (.dK kvs))(e:N l)(h:cG K N H xs ds):cG K N (upd H l o) xs ds:=
 h.fr (P:=λb=>b=l) (λb u q n=>by
  by_cases c:b=l;subst c;rw[d]at q;cases q;exact absurd (n rfl) λz=>z;rw[cL c];exact q) λa z=>z▸e
def uw{fk E:VF}{G:Pos}(R:X.A.units+1<cLine)(T:PE X a (YV i))(U:PE X b (TV K ml pa ta ia fk))(Q:PE X c (TV K ml pb bc bc E))(hs:Va c (ba (.Subscript a b G)) pos.line X.env=pure be):
  PS X (.Assign [.Subscript a b G] c pos) (WZ K ml (CN i fk E)):=(CH R T U Q hs).imp λD σ H h=>by
 obtain⟨B,O,δ,o,S,q,k⟩:=h;unfold CN at q;obtain⟨⟨z,d⟩,V,q⟩:=Aa.mp q;have q:((QC d i).bind λ_=>(fk d).bind λq=>(L6 q.1).bind λk=>(QC q.2 i).bind λe=>if e.1.length<16777216/\e.1.Nodup then ba (Ou.nx (q.2.set i (.ow (let r:=V7 e.1 e.2 k z;.dct r.1 r.2))))else bb)=ba o:=q;cases p:QC d i with
 |none=>rw[p]at q;cases q
 |some J=>
 obtain⟨N,ds0⟩:=J;rw[p]at q;cases n:fk d with
 |none=>simp[n]at q
 |some M=>
  obtain⟨y,f⟩:=M;simp only[Ar,n]at q;cases m:L6 y with
  |none=>simp[m]at q
  |some g=>
   simp only[Ar,m]at q;cases j:QC f i with
   |none=>simp[j]at q
   |some I=>
    obtain⟨P,ds⟩:=I;simp only[j,Ar]at q;split at q;rename_i C;cases q;refine⟨B,O,δ,z,d,S,V,λv H1 t=>?_⟩;obtain⟨l,s,e2,_⟩:=t.sta.ow i _ (J6 p);refine⟨.ref l,e2,B,O,d,y,f,t.sta,n,λv2 H2 R2=>?_⟩;have Z:=R2.rep.key m;subst Z;obtain⟨l',F,_,u⟩:=R2.sta.ow i _ (J6 j);rw[s]at F;cases F;generalize hw:cZ.dct P ds=dd at u;cases u with
    |lst _ _=>cases hw
    |dcn _ _=>cases hw
    |shp _ _=>cases hw
    |dct x r=>
     cases hw;have L:=t.rep.fr R2.frm (λa z=>.inr z) λa z=>.inr z;obtain⟨Y,W⟩:=J9 (k:=g) L C.2 r;refine⟨l,_,rfl,KQ.k x (by rw[Bg];simpa using C.1),k σ _ O (R2.sta.wrote s (λz=>z) ?_)⟩;have w:RM K (Nn B O) (upd H2 l (.dK (W9 _ g v))) l (.dct ((W9 _ g v).map Br) _):=.dct cM (IJ x (.inr ⟨i,s⟩) W);rw[Y]at w;exact w
    cases q
end
end
section
variable{prog:Ao}{w:Uw}{A:Bp}{E:Uo->Ad->Prop}{s:Ad}
def K3{it t:Up}{i:Nat}{items:Array Uo}{x:Uo}{Q:Uo->Ad->Prop}(a:s.heap.IsTupleIter it t i)(f:s.heap.IsTuple t items)(e:items[i]?=ba x)(g:∀h',h'.IsTupleIter it t (i+1)->Ek it s.heap h'->Q x {s with heap:=h'}):Ut (Uu prog w) A (Bt (.ref it)) Q E s:=by obtain⟨m,c,k,b⟩:=id a;obtain⟨l,h,_,n,j⟩:=f;unfold Bt;refine Ab (Ci (name:=Ef "__next__") a.typeIs Fd (Cf Fd a.typeIs Jz ?_ (Jo _)));show Ut _ _ (field (An it) 0>>=_) _ _ s;refine Ab (Ea c b (x:=.ref t) rfl ?_);show Ut _ _ (if(An t== .none)=bc then _ else _) _ _ s;rw[if_neg (show¬(An t==Value.none)=bc from Bw)];show Ut _ _ (field (An it) 1>>=_) _ _ s;refine Ab (Ea c b (x:=.int i 0) rfl ?_);show Ut _ _ (Pf (An t)>>=_) _ _ s;refine Ab (Fo h j ?_);simp only[e,Lf];refine Ab (Kt c b (by simp) (Af ⟨x,rfl,Af (g _ ⟨_,Gv _ c (Mw (Im b _)),(Qd ..).trans k,?_⟩ (Hs ..))⟩));rw[Im b];simp[rawInt]
def HY{it t:Up}{i:Nat}{items:Array Uo}{Q:Uo->Ad->Prop}(f:A.handled=bb)(b:s.heap.IsTupleIter it t i)(j:s.heap.IsTuple t items)(h:items[i]?=bb)(k:∀h' e,Ja it s.heap h'->(∃o,h'.get? e=ba o/\o.cls=.type "StopIteration")->E (.ref e) {s with heap:=h'}):Ut (Uu prog w) A (Bt (.ref it)) Q E s:=by
 obtain⟨q,c,u,d⟩:=id b;obtain⟨p,l,_,r,n⟩:=j;unfold Bt;refine Ab (Ci (name:=Ef "__next__") b.typeIs Fd (Cf Fd b.typeIs Jz ?_ (Jo _)));show Ut _ _ (field (An it) 0>>=_) _ _ s;refine Ab (Ea c d (x:=.ref t) rfl ?_);show Ut _ _ (if(An t== .none)=bc then _ else _) _ _ s;rw[if_neg (show¬(An t==Value.none)=bc from Bw)];show Ut _ _ (field (An it) 1>>=_) _ _ s;refine Ab (Ea c d (x:=.int i 0) rfl ?_);show Ut _ _ (Pf (An t)>>=_) _ _ s;refine Ab (Fo l n ?_);simp only[h,Lf];refine Ab (Lb (Ab (Kt c d (by simp) ?_)));show Ut _ _ (newExc (Gz "StopIteration") []>>=_) _ _ _;refine Ab ?_;unfold newExc newTuple;refine Ab (Bv ?_ (by size_fits));refine Ab (m:=Ku _ _) (Of (a:=Value.none) (by first|rfl|(unfold Ku;rfl)) (Bv ?_ (by size_fits)));unfold raiseNew;refine Ab (wpAny_handled ?_);first|rw[f]|rw[show A.in1.handled=bb from f]
 refine Ab (Af (wpAny_throw (k _ _ (((Hs ..).extBut.push _).push _) ⟨_,Al _ rfl,rfl⟩)))
end
section
variable{X:Cx}{aa:List (Up×Vc)}{σ:St}{H:Hp}{s:Ad}{h':Uy}
def cI.turnedL{t':Nat}{fp:List Up}(I:cI X aa σ H s)(k:∀b o,b∉fp->s.heap.get? b=ba o->h'.get? b=ba o)(there:∀b∈fp,∃o,h'.get? b=ba o)(d:∀b∈fp,K9 X aa H b):cI X aa σ H {s with heap:=h',toks:=t'}:=by
 have a:∀b u,H b=ba u->b∉fp:=λb u e z=>by rw[(d b z).1]at e;cases e
 have j:X.env.locals∉fp:=λz=>(d _ z).2.1 rfl;refine I.step (g':=s.gens) (d':=s.drawn) (ch:=fp) (λb i=>?_) (λb o _ _ hc e _=>k b o hc e) (λb o _ _ hc e _=>⟨o.slots,k b o hc e⟩) (λ_ _ _ _ n=>n)
  (λb o hc e=>⟨o,k b o hc e⟩) (λ_ _ e=>e) (λ_ _ _ e=>e) (λb x e=>⟨#[],by rw[e];simp⟩) (λm h=>?_) (λb u e=>?_) I.bare
 obtain⟨_,f1,f2,f3,p,l⟩:=d b i;exact⟨f3,f1,p,l⟩;obtain⟨o,t,w,g,r⟩:=h;exact⟨o,t,w,k _ o j g,r⟩;refine (I.hok b u e).stay (λc v hc q => k c v ?_ q) (λ_ q => q) λ_ _ q => q;rcases hc with z|z;rw[z];exact a b u e;exact a c _ z
end
section
variable{X:Cx}{aa:List (Up×Vc)}{σ:St}{H:Hp}{s:Ad}{h':Uy}
def cI.turnedL'{t':Nat}{fp:List Up}(I:cI X aa σ H s)(k:∀b o,b∉fp->s.heap.get? b=ba o->h'.get? b=ba o)(d:∀b∈fp,K9 X aa H b):cI X aa σ H {s with heap:=h',toks:=t'}:=by
 have a:∀b u,H b=ba u->b∉fp:=λb u e z=>by rw[(d b z).1]at e;cases e
 have j:X.env.locals∉fp:=λz=>(d _ z).2.1 rfl;refine I.step (g':=s.gens) (d':=s.drawn) (ch:=fp) (λb i=>?_) (λb o _ _ hc e _=>k b o hc e) (λb o _ _ hc e _=>⟨o.slots,k b o hc e⟩) (λ_ _ _ _ n=>n)
  (λb o hc e=>⟨o,k b o hc e⟩) (λ_ _ e=>e) (λ_ _ _ e=>e) (λb x e=>⟨#[],by rw[e];simp⟩) (λm h=>?_) (λb u e=>?_) I.bare
 obtain⟨_,f1,f2,f3,p,l⟩:=d b i;exact⟨f3,f1,p,l⟩;obtain⟨o,t,w,g,r⟩:=h;exact⟨o,t,w,k _ o j g,r⟩;refine (I.hok b u e).stay (λc v hc q => k c v ?_ q) (λ_ q => q) λ_ _ q => q;rcases hc with z|z;rw[z];exact a b u e;exact a c _ z
end
def BB(K:Ag)(tup:Bool)(H:Hp)(a:Up)(xs:List V):Prop:=if tup=bc then UN K H a xs else W8 K H a xs
def N7(tup:Bool)(h:Uy)(a:Up)(items:Array Uo):Prop:=if tup=bc then h.IsTuple a items else h.IsList a items
def QR(tup:Bool)(h:Uy)(it a:Up)(i:Nat):Prop:=if tup=bc then h.IsTupleIter it a i else h.IsListIter it a i
def N7.lt{tup:Bool}{h:Uy}{a:Up}{items:Array Uo}(s:N7 tup h a items):a<h.objs.size:=by
 cases tup with
 |true=>obtain⟨o,e,_⟩:=s;exact Aj e
 |false=>obtain⟨o,e,_⟩:=s;exact Aj e
def cI.srcA{X:Cx}{d:List (Up×Vc)}{c:St}{H:Hp}{s:Ad}{a:Up}{xs:List V}{tup:Bool}(I:cI X d c H s)(h:BB X.K tup H a xs):∃b:List Uo,bS xs b/\N7 tup s.heap a b.toArray/\xs.length<=sizeLine:=by
 cases tup with
 |true=>
  obtain⟨b,r,p,z⟩:=I.tuple h;exact⟨b,r,p,z⟩
 |false=>
  obtain⟨b,r,p,z⟩:=I.list h;exact⟨b,r,p.isList,z⟩
def cI.sq_inj{X:Cx}{c:List (Up×Vc)}{b:St}{H:Hp}{s:Ad}{a:Up}{xs ys:List V}{tup:Bool}(I:cI X c b H s)(h:BB X.K tup H a xs)(h':BB X.K tup H a ys):xs=ys:=by
 cases tup with
 |true=>exact I.tuple_inj h h'
 |false=>exact I.list_inj h h'
def QR.at{tup:Bool}{h h':Uy}{it a:Up}{i:Nat}(st:QR tup h it a i)(k:∀o,h.get? it=ba o->h'.get? it=ba o):QR tup h' it a i:=by
 cases tup with
 |true=>exact Heap.IsTupleIter.at st k
 |false=>exact Heap.IsListIter.at st k
def QR.obj{tup:Bool}{h:Uy}{it a:Up}{i:Nat}(st:QR tup h it a i):∃o,h.get? it=ba o/\∀v,o.data≠ .cell v:=by
 cases tup with
 |true=>
  obtain⟨o,e,c,d⟩:=st;exact⟨o,e,λv z=>by rw[d]at z;cases z⟩
 |false=>
  obtain⟨o,e,c,d⟩:=st;exact⟨o,e,λv z=>by rw[d]at z;cases z⟩
def lM:Bm "zip"=ba (.type "zip"):=by decide+kernel
section
variable{prog:Ao}{w:Uw}{A:Bp}{E:Uo->Ad->Prop}{s:Ad}
section
variable{h':Uy}{it a z i1 i2:Up}{i:Nat}{xs ys:Array Uo}{x y:Uo}{Q:Uo->Ad->Prop}{t1 t2:Bool}
def QR.ext{tup:Bool}{h:Uy}{b:Up}(x:QR tup h it a i)(hs:Ja b h h')(c:it≠b):QR tup h' it a i:=x.at λo e=>hs _ _ c e
def N7.ext{tup:Bool}{h:Uy}{b:Up}(x:N7 tup h a xs)(hs:Ja b h h')(c:a≠b):N7 tup h' a xs:=by
 cases tup with
 |true=>obtain⟨o,e,r⟩:=x;exact⟨o,hs _ _ c e,r⟩
 |false=>obtain⟨o,e,r⟩:=x;exact⟨o,hs _ _ c e,r⟩
def Q4{tup:Bool}(c:QR tup s.heap it a i)(hs:N7 tup s.heap a xs)(b:xs[i]?=ba x)(e:∀h',QR tup h' it a (i+1)->Ek it s.heap h'->Q x {s with heap:=h'}):Ut (Uu prog w) A (Bt (.ref it)) Q E s:=by
 cases tup with
 |true=>exact K3 c hs b e
 |false=>exact wpAny_nextOf_list_item c hs b e
def J1{tup:Bool}(d:A.handled=bb)(c:QR tup s.heap it a i)(hs:N7 tup s.heap a xs)(b:xs[i]?=bb)(g:∀h' e,Ja it s.heap h'->(∃o,h'.get? e=ba o/\o.cls=.type "StopIteration")->E (.ref e) {s with heap:=h'}):Ut (Uu prog w) A (Bt (.ref it)) Q E s:=by
 cases tup with
 |true=>exact HY d c hs b g
 |false=>exact wpAny_nextOf_list_end d c hs b g
structure ZSt(t1 t2:Bool)(h:Uy)(z p q i1 i2 a b:Up)(k:Nat)(f0:Uo):Prop where
 zip:IsZip h z p q f0
 its:IsPair h p (.ref i1) (.ref i2)
 res:∃u v,IsPair h q u v
 one:QR t1 h i1 a k
 two:QR t2 h i2 b k
def A7{p q b:Up}{k:Nat}(D:Ng z p q i1 i2 a b)(S:ZSt t1 t2 s.heap z p q i1 i2 a b k .none)(s1:N7 t1 s.heap a xs)(Z:N7 t2 s.heap b ys)(hx:xs[k]?=ba x)(hy:ys[k]?=ba y)(hQ:∀h',ZSt t1 t2 h' z p q i1 i2 a b (k+1) (rawInt s.heap.objs.size)->IsPair h' s.heap.objs.size x y->h'.objs.size=s.heap.objs.size+1->(∀c o,c≠z->c≠q->c≠i1->c≠i2->s.heap.get? c=ba o->h'.get? c=ba o)->Q (.ref s.heap.objs.size) {s with heap:=h'}):Ut (Uu prog w) A (Ey.«zip.__next__» ⟨[.ref z],[]⟩) (λL s'=>∃v,L=.done (.ret v)/\Q v s') E s:=by
 obtain⟨t,X,⟨u,v,gr⟩,g1,g2⟩:=S;show Ut _ _ (field (An z) 2>>=_) _ _ _;refine Ab (Ea t rfl (x:=.bool be) rfl ?_);show Ut _ _ (field (An z) 3>>=_) _ _ _;refine Ab (Ea t rfl (x:=.ref p) rfl (Ab (Fo X rfl ?_)));show Ut _ _ (Dt (An z)>>=_) _ _ _;refine Ab ?_
 (unfold Dt)
 refine Ab (Ea t rfl (x:=.none) rfl (Af ?_));simp only[if_true];refine Ab (Lb (Ab (Ea t rfl (x:=.ref q) rfl (Ab (Fk t (by simp) λha J h=>Ab ?_)))));have J:IsZip ha z p q .ellipsis:=J;simp only[Se,Rb,Nx,Jx];refine Ab (Ab (Lu ?_));show Ut _ _ (Bt (An i1)>>=_) _ _ _;refine Ab (Q4 (g1.ext h.extBut D.i1z) (s1.ext h.extBut D.l1z) hx λhb n1 j=>Af ?_);have U:IsPair hb q u v:=j.extBut _ _ D.TOi1 (h.extBut _ _ D.TOz gr);refine Ab (Fo U rfl (Ab (Jn U λhc K i=>Ab (Og (Af ?_)))));have K:IsPair hc q x v:=K;refine Ab (Ab (Lu ?_));show Ut _ _ (Bt (An i2)>>=_) _ _ _;refine Ab (Q4 (((g2.ext h.extBut D.i2z).ext j.extBut D.i12.symm).ext i.extBut D.TOi2.symm) (((Z.ext h.extBut D.l2z).ext j.extBut D.l2i1).ext i.extBut D.l2TO) hy λhd n2 C=>Af ?_);have T:IsPair hd q x v:=C.extBut _ _ D.TOi2 K;refine Ab (Fo T rfl (Ab (Jn T λd G B=>Ab (Og (Af (Af ?_))))));have G:IsPair d q x y:=G;refine Ab (Fo G rfl (Ab (wpAny_newTuple ?_)));have e:d.objs.size=s.heap.objs.size:=by rw[B.1,C.1,i.1,j.1,h.1]
 have P:IsZip d z p q .ellipsis:=B.extBut _ _ D.TOz.symm (C.extBut _ _ D.i2z.symm (i.extBut _ _ D.TOz.symm (j.extBut _ _ D.i1z.symm J)));have V:∀c o,c≠z->c≠q->c≠i1->c≠i2->s.heap.get? c=ba o->d.get? c=ba o:=λc o f H N M g=>B.extBut _ _ H (C.extBut _ _ M (i.extBut _ _ H (j.extBut _ _ N (h.extBut _ _ f g))));have e1:QR t1 d i1 a (k+1):=((n1.ext i.extBut D.TOi1.symm).ext C.extBut D.i12).ext B.extBut D.TOi1.symm;have e2:QR t2 d i2 b (k+1):=n2.ext B.extBut D.TOi2.symm;have ie:IsPair d p (.ref i1) (.ref i2):=V _ _ D.TIz D.TITO D.TIi1 D.TIi2 X;have l:z<d.objs.size:=Aj P;show Ut _ _ (Ho (An z) (.ref d.objs.size)>>=_) _ _ _;refine Ab ?_
 (unfold Ho)
 have Y:IsZip (d.push {cls:=.type "tuple",data:=.seq #[x,y]}) z p q .ellipsis:=Ac _ P;refine Ab (Fk Y (by simp) λhg I O=>?_);have I:IsZip hg z p q (rawInt d.objs.size):=I;refine Fk I (by simp) λr F bk=>?_;have F:IsZip r z p q (rawInt d.objs.size):=F;have m:∀c o,c≠z->d.get? c=ba o->r.get? c=ba o:=λc o f g=>bk.extBut _ _ f (O.extBut _ _ f (Ac _ g));have R:IsPair r d.objs.size x y:=bk.extBut _ _ (Je l) (O.extBut _ _ (Je l) (Al _ rfl));have n:r.objs.size=d.objs.size+1:=by rw[bk.1,O.1,Cb]
 rw[e]at F R n;refine Af ⟨_,rfl,?_⟩;show Q (.ref d.objs.size) _;rw[e];exact hQ r ⟨F,m _ _ D.TIz ie,⟨x,y,m _ _ D.TOz G⟩,e1.at λo g=>m _ o D.i1z g,e2.at λo g=>m _ o D.i2z g⟩ R n λc o f H N M g=>m c o f (V c o f H N M g)
def qL{p q b:Up}{k:Nat}{Q:Fin->Ad->Prop}(J:A.handled=bb)(D:Ng z p q i1 i2 a b)(S:ZSt t1 t2 s.heap z p q i1 i2 a b k .none)(H:N7 t1 s.heap a xs)(P:N7 t2 s.heap b ys)(R:xs[k]?=bb∨ys[k]?=bb)(L:∀h' e,(∀c o,c≠z->c≠q->c≠i1->c≠i2->s.heap.get? c=ba o->h'.get? c=ba o)->(∃o,h'.get? e=ba o/\o.cls=.type "StopIteration")->E (.ref e) {s with heap:=h'}):Ut (Uu prog w) A (Ey.«zip.__next__» ⟨[.ref z],[]⟩) Q E s:=by
 obtain⟨j,Y,⟨u,v,X⟩,M,Z⟩:=S;show Ut _ _ (field (An z) 2>>=_) _ _ _;refine Ab (Ea j rfl (x:=.bool be) rfl ?_);show Ut _ _ (field (An z) 3>>=_) _ _ _;refine Ab (Ea j rfl (x:=.ref p) rfl (Ab (Fo Y rfl ?_)));show Ut _ _ (Dt (An z)>>=_) _ _ _;refine Ab ?_
 (unfold Dt)
 refine Ab (Ea j rfl (x:=.none) rfl (Af ?_));simp only[if_true];refine Ab (Lb (Ab (Ea j rfl (x:=.ref q) rfl (Ab (Fk j (by simp) λW n d=>Ab ?_)))));have n:IsZip W z p q .ellipsis:=n;simp only[Se,Rb,Nx,Jx];refine Ab (Ab (Lu ?_));show Ut _ _ (Bt (An i1)>>=_) _ _ _;cases y:xs[k]? with
 |none=>
  refine Ab (J1 J (M.ext d.extBut D.i1z) (H.ext d.extBut D.l1z) y λB e f ⟨r,h,l⟩=>?_);have G:IsZip B z p q .ellipsis:=f _ _ D.i1z.symm n;have t:e≠z:=λw=>by subst w;rw[G]at h;cases h;simp at l
  exact Fk G (by simp) λhc _ i=>L hc e (λc o m _ C _ g=>i.extBut _ _ m (f _ _ C (d.extBut _ _ m g))) ⟨r,i.extBut _ _ t h,l⟩
 |some x=>
  have T:ys[k]?=bb:=R.resolve_left λw=>by rw[y]at w;cases w
  refine Ab (Q4 (M.ext d.extBut D.i1z) (H.ext d.extBut D.l1z) y λB n1 f=>Af ?_);have I:IsPair B q u v:=f.extBut _ _ D.TOi1 (d.extBut _ _ D.TOz X);refine Ab (Fo I rfl (Ab (Jn I λhc rc i=>Ab (Og (Af (Ab (Ab (Lu ?_))))))));show Ut _ _ (Bt (An i2)>>=_) _ _ _;refine Ab (J1 J (((Z.ext d.extBut D.i2z).ext f.extBut D.i12.symm).ext i.extBut D.TOi2.symm) (((P.ext d.extBut D.l2z).ext f.extBut D.l2i1).ext i.extBut D.l2TO) T λV e O ⟨r,h,l⟩=>?_);have F:IsZip V z p q .ellipsis:=O _ _ D.i2z.symm (i.extBut _ _ D.TOz.symm (f.extBut _ _ D.i1z.symm n));have t:e≠z:=λw=>by subst w;rw[F]at h;cases h;simp at l
  exact Fk F (by simp) λU _ N=>L U e (λc o m c2 C c4 g=>N.extBut _ _ m (O _ _ c4 (i.extBut _ _ c2 (f.extBut _ _ C (d.extBut _ _ m g))))) ⟨r,N.extBut _ _ t h,l⟩
def DX{p q b:Up}{k:Nat}{Q:Option Uo->Ad->Prop}(D:Ng z p q i1 i2 a b)(S:ZSt t1 t2 s.heap z p q i1 i2 a b k .none)(f:N7 t1 s.heap a xs)(e:N7 t2 s.heap b ys)(h:xs[k]?=ba x)(g:ys[k]?=ba y)(i:∀h',ZSt t1 t2 h' z p q i1 i2 a b (k+1) (rawInt s.heap.objs.size)->IsPair h' s.heap.objs.size x y->h'.objs.size=s.heap.objs.size+1->(∀c o,c≠z->c≠q->c≠i1->c≠i2->s.heap.get? c=ba o->h'.get? c=ba o)->Q (ba (.ref s.heap.objs.size)) {s with heap:=h'}):Ut (Uu prog w) A (pyNext (.ref z)) Q E s:=by
 have ty:s.TypeIs (.ref z) "zip":=⟨_,S.zip,rfl⟩
 (unfold pyNext)
 exact Ab (Lv (Ci (name:=Ef "__next__") ty Ka (Cf Ka ty Rc (A7 D S f e h g λh' m l j a4=>Af (i h' m l j a4)) (Qe _))))
def dN{p q b:Up}{k:Nat}{Q:Option Uo->Ad->Prop}(j:A.handled=bb)(D:Ng z p q i1 i2 a b)(S:ZSt t1 t2 s.heap z p q i1 i2 a b k .none)(g:N7 t1 s.heap a xs)(f:N7 t2 s.heap b ys)(i:xs[k]?=bb∨ys[k]?=bb)(l:∀h',(∀c o,c≠z->c≠q->c≠i1->c≠i2->s.heap.get? c=ba o->h'.get? c=ba o)->Q bb {s with heap:=h'}):Ut (Uu prog w) A (pyNext (.ref z)) Q E s:=by
 have ty:s.TypeIs (.ref z) "zip":=⟨_,S.zip,rfl⟩
 (unfold pyNext)
 refine Ab (Lv (Ci (name:=Ef "__next__") ty Ka (Cf Ka ty Rc (qL j D S g f i λh' e h ⟨o,m,n⟩=>?_) (Qe _))));exact Ab (wpAny_isInstance (T:= "StopIteration") (b:=bc) ⟨o,m,n⟩ isSubtype_stop (Af (l _ h)))
end
end
section
variable{prog:Ao}{w:Uw}{E Q:Uo->Ad->Prop}{a:Up}{xs:Array Uo}{t1 t2:Bool}
def gZ(tup:Bool):String:=if tup=bc then "tuple_iterator" else "list_iterator"
abbrev zO(tup:Bool)(a:Up):Vc:={cls:=.type (gZ tup),data:=.fields #[.ref a,.int 0 0]}
def Yw{A:Bp}{s:Ad}{tup:Bool}(h:N7 tup s.heap a xs)(c:Q (.ref s.heap.objs.size) {s with heap:=s.heap.push (zO tup a)}):Ut (Uu prog w) A (Rz (.ref a)) Q E s:=by
 cases tup with
 |true=>exact Ow h c
 |false=>exact Fs h c
def N7.push{tup:Bool}{h:Uy}(x:N7 tup h a xs)(o:Vc):N7 tup (h.push o) a xs:=by
 cases tup with
 |true=>obtain⟨o,e,r⟩:=x;exact⟨o,Ac _ e,r⟩
 |false=>obtain⟨o,e,r⟩:=x;exact⟨o,Ac _ e,r⟩
def jE(t1 t2:Bool)(a b:Up)(xs ys:Array Uo):Meets (Ey.«zip.__new__» ⟨[.type "zip",.ref a,.ref b],[]⟩) (λ_ R s=>N7 t1 s.heap a xs/\N7 t2 s.heap b ys/\∀i f e c n,i=s.heap.push (zO t1 a)->f=i.push (zO t2 b)->e=f.push {cls:=.type "tuple",data:=.seq #[.ref s.heap.objs.size,.ref i.objs.size]}->c=e.push {cls:=.type "tuple",data:=.seq #[.none,.none]}->n=c.push {cls:=.type "zip",data:=.fields #[.none,.bool be,.bool be,.ref f.objs.size,.ref e.objs.size]}->R (.ok (.ret (.ref c.objs.size))) {s with heap:=n}):=by
 refine .of_wp λk w A R s h=>?_;obtain⟨l,g,d,j,os⟩:=s;obtain⟨r,q,h⟩:=h;have t:=sub_zip;have p:N7 t1 (Uh ⟨l,g,d,j,os⟩) a xs:=r;have o:N7 t2 (Uh ⟨l.push (zO t1 a),g,d,j,os⟩) b ys:=N7.push q _;wp_walk using Yw p,Yw o
 exact⟨_,rfl,h _ _ _ _ _ rfl rfl rfl rfl rfl⟩
def tN{A:Bp}{s:Ad}{b:Up}{ys:Array Uo}(L:N7 t1 s.heap a xs)(K:N7 t2 s.heap b ys)(h:∀h',ZSt t1 t2 h' (s.heap.objs.size+4) (s.heap.objs.size+2) (s.heap.objs.size+3) s.heap.objs.size (s.heap.objs.size+1) a b 0 .none->(∀c o,s.heap.get? c=ba o->h'.get? c=ba o)->Q (.ref (s.heap.objs.size+4)) {s with heap:=h'}):Ut (Uu prog w) A (call (.type "zip") [.ref a,.ref b]) Q E s:=by
 refine callType_new F.called_zip (by decide) (F.typeCall_zip_2 _ _) (F.newCall_zip_2 _ _) (λobj=>F.args_object_init_3 obj _ _) F.entry_zip_new (jE t1 t2 a b xs ys) ⟨L,K,?_⟩;rintro g f e n d u t r p I;have k:g.objs.size=s.heap.objs.size+1:=by rw[u,Cb]
 have j:f.objs.size=s.heap.objs.size+2:=by rw[t,Cb,k]
 have i:e.objs.size=s.heap.objs.size+3:=by rw[r,Cb,j]
 have v:n.objs.size=s.heap.objs.size+4:=by rw[p,Cb,i]
 have x:∀c o,n.get? c=ba o->d.get? c=ba o:=λc o q=>by rw[I];exact Ac _ q
 have y:∀c o,e.get? c=ba o->d.get? c=ba o:=λc o q=>x c o (by rw[p];exact Ac _ q);have z:∀c o,f.get? c=ba o->d.get? c=ba o:=λc o q=>y c o (by rw[r];exact Ac _ q);have B:∀c o,g.get? c=ba o->d.get? c=ba o:=λc o q=>z c o (by rw[t];exact Ac _ q);have J:∀c o,s.heap.get? c=ba o->d.get? c=ba o:=λc o q=>B c o (by rw[u];exact Ac _ q);have l:d.get? n.objs.size=ba {cls:=.type "zip",data:=.fields #[.none,.bool be,.bool be,.ref f.objs.size,.ref e.objs.size]}:=by rw[I];exact Al _ rfl
 have C:d.get? e.objs.size=ba {cls:=.type "tuple",data:=.seq #[.none,.none]}:=x _ _ (by rw[p];exact Al _ rfl);have D:d.get? f.objs.size=ba {cls:=.type "tuple",data:=.seq #[.ref s.heap.objs.size,.ref g.objs.size]}:=y _ _ (by rw[r];exact Al _ rfl);have m:d.get? g.objs.size=ba (zO t2 b):=z _ _ (by rw[t];exact Al _ rfl);have G:d.get? s.heap.objs.size=ba (zO t1 a):=B _ _ (by rw[u];exact Al _ rfl);show _/\_;rw[j,i,v]at l;rw[i]at C;rw[k,j]at D;rw[k]at m;rw[v];refine⟨⟨_,l,rfl⟩,h _ ⟨l,D,⟨_,_,C⟩,?_,?_⟩ J⟩;cases t1 with
 |true=>exact⟨_,G,rfl,rfl⟩
 |false=>exact⟨_,G,rfl,rfl⟩
 cases t2 with
 |true=>exact⟨_,m,rfl,rfl⟩
 |false=>exact⟨_,m,rfl,rfl⟩
def fN(n a b:Nat)(d:a<n)(c:b<n):Ng (n+4) (n+2) (n+3) n (n+1) a b:=by
 have f:∀x y:Nat,x<y∨y<x->x≠y:=λx y h=>by lia
 exact⟨f _ _ (by lia),f _ _ (by lia),f _ _ (by lia),f _ _ (by lia),f _ _ (by lia),f _ _ (by lia),f _ _ (by lia),f _ _ (by lia),f _ _ (by lia),f _ _ (by lia),f _ _ (by lia),f _ _ (by lia),f _ _ (by lia),f _ _ (by lia),f _ _ (by lia),f _ _ (by lia),f _ _ (by lia),f _ _ (by lia)⟩
def Itz(K:Ag)(t1 t2:Bool)(a b:Up):It:=
  ⟨λi H=>∃d c x y,BB K t1 H a d/\BB K t2 H b c/\d[i]?=ba x/\c[i]?=ba y,λi H v e=>∃p x y,(∀d,BB K t1 H a d->d[i]?=ba x)/\(∀c,BB K t2 H b c->c[i]?=ba y)/\H p=bb/\e=upd H p (.tup [x,y])/\v=.ref p,λi H=>∃d c,BB K t1 H a d/\BB K t2 H b c/\(d.length<=i∨c.length<=i)⟩
def ZSt.all{h:Uy}{z p q i1 i2 b c:Up}{k:Nat}{d:Uo}(st:ZSt t1 t2 h z p q i1 i2 a b k d)(hc:c∈[z,p,q,i1,i2]):∃o,h.get? c=ba o/\∀v,o.data≠ .cell v:=by
 simp only[Bj,Hr,or_false]at hc;rcases hc with rfl|rfl|rfl|rfl|rfl;exact⟨_,st.zip,λv e=>by cases e⟩;exact⟨_,st.its,λv e=>by cases e⟩;obtain⟨u,v,g⟩:=st.res;exact⟨_,g,λv e=>by cases e⟩;exact st.one.obj;exact st.two.obj
def dM{P:Ao}{K:Ag}{es:List Uv}{k:Nat}{pos:Pos}(t1 t2:Bool)(z p q i1 i2 a b:Up)(D:Ng z p q i1 i2 a b):
  FD P w K (.Tuple es k pos) (Itz K t1 t2 a b) [z,p,q,i1,i2] z (λi h=>ZSt t1 t2 h z p q i1 i2 a b i .none) where
 mem:=by simp
 obj:=λ_ _ st _ hc=>st.all hc
 keep:=λi h h' st t=>by obtain⟨u,v,g⟩:=st.res;exact⟨t z (by simp) _ st.zip,t p (by simp) _ st.its,⟨u,v,t q (by simp) _ g⟩,st.one.at λo e=>t i1 (by simp) o e,st.two.at λo e=>t i2 (by simp) o e⟩
 item:=by
  intro X R hw S hc i V s F H E I A st O;subst R hw S;obtain⟨xs,ys,x,y,l,j,hx,Z⟩:=O;obtain⟨Y,L,U,_⟩:=I.srcA l;obtain⟨W,J,T,_⟩:=I.srcA j;obtain⟨u,hu,ru⟩:=L.get hx;obtain⟨v,hv,rv⟩:=J.get Z;refine DX D st U T (by simpa using hu) (by simpa using hv) λC d hp hsz N=>⟨_,rfl,?_⟩;refine wpAny_letOwnedTupleGo_zip (s:={s with heap:=C}) d.zip λn z2 G=>?_;have G:Ek z C n:=G;have lt:∀c∈[z,p,q,i1,i2],c<s.heap.objs.size:=λc hc=>let ⟨_,e,_⟩:=st.all hc;Aj e
  have m:∀c o,c≠z->C.get? c=ba o->n.get? c=ba o:=λc o Q e=>(G.2 c Q).trans e;have r:ZSt t1 t2 n z p q i1 i2 a b (i+1) .none:=by obtain⟨u',v',g⟩:=d.res;exact⟨z2,m _ _ D.TIz d.its,⟨u',v',m _ _ D.TOz g⟩,d.one.at λo e=>m _ o D.i1z e,d.two.at λo e=>m _ o D.i2z e⟩
  have j4:n.get? s.heap.objs.size=ba {cls:=.type "tuple",data:=.seq #[u,v]}:=m _ _ (Je (lt z (by simp))) hp;have cv:H s.heap.objs.size=bb:=I.hok.fresh (Am _);have I0:cI X V F (upd H s.heap.objs.size (.tup [x,y])) {s with heap:=s.heap.push {cls:=.type "tuple",data:=.seq #[u,v]},toks:=s.toks}:=
   I.laid (λc o e=>Ac _ e) (Am _) ⟨by show 2<=sizeLine;decide,[u,v],.cons ru (.cons rv .nil),Ov _ _⟩
  have I1:cI X V F (upd H s.heap.objs.size (.tup [x,y])) {s with heap:=n,toks:=s.toks}:=by
   refine cI.turnedL (s:={s with heap:=s.heap.push {cls:=.type "tuple",data:=.seq #[u,v]},toks:=s.toks}) (h':=n) (t':=s.toks) (fp:=[z,p,q,i1,i2]) I0 (λc o hc e=>?_) (λc hc=>?_) λc hc=>⟨by rw[cL (Ap (lt c hc))];exact(A c hc).1,(A c hc).2⟩;by_cases B:c=s.heap.objs.size;subst B;have e:(s.heap.push {cls:=.type "tuple",data:=.seq #[u,v]}).get? s.heap.objs.size=ba o:=e;rw[Al _ rfl]at e;cases e;exact j4;have e':=(Lg _ _ _ B).symm.trans e;exact m c o (λw=>hc (by simp[w])) (N c o (λw=>hc (by simp[w])) (λw=>hc (by simp[w])) (λw=>hc (by simp[w])) (λw=>hc (by simp[w])) e');exact let ⟨o,e,_⟩:=r.all hc;⟨o,e⟩
  exact⟨.ref s.heap.objs.size,_,I1,rfl,⟨_,x,y,λzs M=>by rw[I.sq_inj M l];exact hx,λzs M=>by rw[I.sq_inj M j];exact Z,cv,rfl,rfl⟩,r,λc hc=>by rw[cL (Ap (lt c hc))];exact(A c hc).1⟩
 done:=by
  intro X R hw S hc i V s F H E I A st O;subst R hw S;obtain⟨xs,ys,l,j,j7⟩:=O;obtain⟨Y,L,U,_⟩:=I.srcA l;obtain⟨W,J,T,_⟩:=I.srcA j;have l1:=L.length;have l2:=J.length;have he:Y.toArray[i]?=bb∨W.toArray[i]?=bb:=by
   rcases j7 with z|z;exact .inl (by simp;lia);exact .inr (by simp;lia)
  refine dN (I.ok.hd hc) D st U T he λC N=>⟨rfl,?_⟩;have fq:∀c∈[z,q,i1,i2],c∈[z,p,q,i1,i2]:=λc hc=>by simp only[Bj,Hr,or_false]at hc⊢;rcases hc with w|w|w|w<;>simp[w]
  have I':=cI.turnedL' (s:=s) (h':=C) (t':=s.toks) (fp:=[z,q,i1,i2]) I (λc o hc e=>N c o (λw=>hc (by simp[w])) (λw=>hc (by simp[w])) (λw=>hc (by simp[w])) (λw=>hc (by simp[w])) e) λc hc=>A c (fq c hc);exact I'
 self:=λ_ i _ _ _ st h=>wpAny_pyIter_zip st.zip h
end
section
variable{X:Cx}{K:Ag}{ml:List Nat}{l m:Uv}{pa ta ia pb tb ib:Bool}{f g:VF}{p pos kf:Pos}{es:List Uv}{tk:Nat}{δ:Ev}
def iZp(K:Ag)(i tm:TE):TI:=λd H R=>i d H λx j=>tm d j λy c=>∃a b f e,x=.ref a/\y=.ref b/\(∃h,BB K f c a h)/\(∃g,BB K e c b g)/\R (Itz K f e a b) c
def uS{C tm:TE}(T:Gl X "zip")(S:X.mg "zip"=bb)(hl:PE X l C)(Q:PE X m tm)(F:SE X l [m]:=by rfl)(t:SE X m []:=by rfl)(r:(Co pos (Us [m] X.env)).any (·.1)=be:=by rfl):PI X (.Tuple es tk kf) (.Call (.Name "zip" p) [l,m] [] pos) (iZp X.K C tm):=by
 intro L s z H R I h;refine Dz (OL I T S lM ?_ (by decide) (by decide));refine Fa (aD (bA hl (bA Q ZX t) F pos L s z H (λk e=>match k with
  |[x,y]=>∃a b g f,x=.ref a/\y=.ref b/\(∃B,BB X.K g e a B)/\(∃A,BB X.K f e b A)/\R (Itz X.K g f a b) e
  |_=>False) I h) λM d ⟨k,e,j,n,q1⟩=>?_) F r
 match k,n,q1 with
 |[x,y],n,q1=>
  obtain⟨a,b,g,f,rfl,rfl,⟨B,q⟩,⟨A,o⟩,W⟩:=q1;obtain⟨u,v,rfl,O,N⟩:=GY n;cases O;cases N;obtain⟨M,w1,J,_⟩:=j.srcA q;obtain⟨k,w2,G,_⟩:=j.srcA o;refine tN J G λY st P=>?_;have Z:cI X L z e {d with heap:=Y}:=j.kept (t':=d.toks) P;have V:=J.lt;have U:=G.lt;have D:Ng (d.heap.objs.size+4) (d.heap.objs.size+2) (d.heap.objs.size+3) d.heap.objs.size (d.heap.objs.size+1) a b:=by exact fN _ a b V U
  refine wpAny_pyIter_zip st.zip ⟨d.heap.objs.size+4,[d.heap.objs.size+4,d.heap.objs.size+2,d.heap.objs.size+3,d.heap.objs.size,d.heap.objs.size+1],_,Itz X.K g f a b,e,rfl,Z,dM g f _ _ _ _ _ a b D,st,λc hc=>?_,W⟩;have i:d.heap.objs.size<=c:=by simp only[Bj,Hr,or_false]at hc;rcases hc with w|w|w|w|w<;>rw[w]<;>first|exact Nat.le_add_right _ _|exact Am _
  exact j.fpOk i (j.hok.fresh i)
def iX(h:X.K=K){c tm:TE}(f:Gl X "zip")(e:X.mg "zip"=bb)(hl:PE X l c)(d:PE X m tm)(g:SE X l [m]:=by rfl)(b:SE X m []:=by rfl)(a:(Co pos (Us [m] X.env)).any (·.1)=be:=by rfl):PI X (.Tuple es tk kf) (.Call (.Name "zip" p) [l,m] [] pos) (iZp K c tm):=by subst h;exact uS f e hl d g b a
noncomputable def O0:List cZ->List cZ->List cZ
 |d::a,e::es=>.tup [d,e]::O0 a es
 |_,_=>[]
def iZip(f g:VF):VI:=λδ=>(f δ).bind λp=>(g p.2).bind λq=>(WW p.1).bind λa=>(WW q.1).map λes=>(O0 a es,q.2)
theorem G6:∀{ds es:List cZ}{i:Nat}{d:cZ},(O0 ds es)[i]?=ba d->∃x y,ds[i]?=ba x/\es[i]?=ba y/\d=.tup [x,y]
 |[],_,_,_,h=>by simp[O0]at h
 |_::_,[],_,_,h=>by simp[O0]at h
 |x::ds,y::es,0,d,h=>by simp[O0]at h;exact⟨x,y,rfl,rfl,h.symm⟩
 |x::ds,y::es,i+1,d,h=>by obtain⟨b,a,f,e,c⟩:=G6 (ds:=ds) (es:=es) (i:=i) (d:=d) (by simpa[O0]using h);exact⟨b,a,by simpa using f,by simpa using e,c⟩
theorem G7:∀{ds es:List cZ},ds.length<=(O0 ds es).length∨es.length<=(O0 ds es).length
 |[],_=>.inl (Bz _)
 |_::_,[]=>.inr (Bz _)
 |x::ds,y::es=>by
  rcases G7 (ds:=ds) (es:=es)with h|h;exact .inl (Rf h);exact .inr (Rf h)
def pU:cZ->Bool
 |.tup _=>bc
 |_=>be
def bV.sqA{N M:Up->Prop}{H:Hp}{v:V}{d:cZ}{ds:List cZ}(h:bV K N H M v d)(e:WW d=ba ds):∃a tup xs,v=.ref a/\BB K tup H a xs/\cG K N H xs ds/\tup=pU d:=by
  cases d<;>first
    | (cases e
       obtain⟨a,xs,f,c,b⟩:=h.tupE;exact⟨a,bc,xs,f,c,b,rfl⟩)
    | (cases e
       obtain⟨a,xs,f,c,b⟩:=h.lstE;exact⟨a,be,xs,f,c,b,rfl⟩)
    |cases e
def E3(hK:X.K=K)(hg:Gl X "zip")(hm:X.mg "zip"=bb)(h:PE X l (TV K ml pa bc bc f))(h':PE X m (TV K ml pb bc bc g))(he:SE X l [m]:=by rfl)(I:SE X m []:=by rfl)
  (F:(Co pos (Us [m] X.env)).any (·.1)=be:=by rfl):PI X (.Tuple es tk kf) (.Call (.Name "zip" p) [l,m] [] pos) (LD K ml (pa&&pb) (iZip f g)):=(iX (K:=K) hK hg hm h h' he I F).imp λσ H R E=>by
 obtain⟨B,O,δ,ds,u,S,q,k⟩:=E;unfold iZip at q;obtain⟨⟨x,c⟩,h1,q⟩:=Aa.mp q;cases J:g c with
 |none=>simp[J]at q
 |some p2=>
  obtain⟨y,t⟩:=p2;simp only[Ar,J]at q;obtain⟨Q,Y,q⟩:=Aa.mp q;have q:(WW y).map (λes=>(O0 Q es,t))=ba (ds,u):=q;obtain⟨ys,W,q⟩:=Ah.mp q;cases q;refine⟨B,O,δ,x,c,S,h1,λA H1 s=>⟨B,O,c,y,_,s.sta,J,λv H2 R2=>?_⟩⟩;have V:=s.rep.fr R2.frm (λa z=>.inr z) λa z=>.inr z;obtain⟨a,U,us,e1,q1,w1,P⟩:=V.sqA Y;obtain⟨b,T,vs,e2,q2,w2,M⟩:=R2.rep.sqA W;refine⟨a,b,U,T,e1,e2,⟨us,q1⟩,⟨vs,q2⟩,k _ [(A,x),(v,y)] H2 (R2.sta.keepV λz o=>?_) (s.frm.trans R2.frm) (λz=>?_) ?_⟩;simp only[Bj,Hr,or_false]at o;rcases o with rfl|rfl;exact V;exact R2.rep;obtain⟨z1,z2⟩:=(Ae _ _).mp z;exact(s.pur z1).trans (R2.pur z2);intro N H h;obtain⟨a',D,n,f1,f2,f3,f4⟩:=(h (A,x) (by simp)).sqA Y;obtain⟨b',C,j,r,L,Z,g4⟩:=(h (v,y) (by simp)).sqA W;have f1:A=.ref a':=f1;have r:v=.ref b':=r;rw[e1]at f1;rw[e2]at r;cases f1;cases r;have:D=U:=f4.trans P.symm;subst this;have:C=T:=g4.trans M.symm;subst this;refine⟨λi d e=>?_,n,j,f2,L,?_⟩;obtain⟨dx,dy,hx,hy,rfl⟩:=G6 e;obtain⟨ux,ex,rx⟩:=f3.get hx;obtain⟨uy,ey,ry⟩:=Z.get hy;refine⟨⟨n,j,ux,uy,f2,L,ex,ey⟩,λz H' o=>?_⟩;obtain⟨pp,x',y',c1,c2,G,rfl,rfl⟩:=o;have d1:=c1 n f2;have d2:=c2 j L;rw[ex]at d1;rw[ey]at d2;cases d1;cases d2;exact⟨cR G,.tup (UN.of cM) (.cons (rx.same (cR G)) (.cons (ry.same (cR G)) .nil))⟩;rcases G7 (ds:=Q) (es:=ys)with w|w;exact .inl (by rw[f3.length];exact w);exact .inr (by rw[Z.length];exact w)
end
end L2
namespace L2
open PySem PySem.Spec PyProof.Rows PySem.W
section
variable{prog:Ao}{w:Uw}{A:Bp}{E:Uo->Ad->Prop}{s:Ad}
def ET{t:Up}{items:Array Uo}{Q:List Uo->Ad->Prop}(z:A.handled=bb)(f:IsTup s.heap t items)(C:1<=items.size)(hz:items.size<=16777216)(B:∀(x:Uo) (c:Uy) (tk:Nat),items[0]?=ba x->(∀b o,s.heap.get? b=ba o->c.get? b=ba o)->Q [x,.ref c.objs.size] {s with heap:=c.push {cls:=.type "list",data:=.seq (items.toList.drop 1).toArray},toks:=tk}):Ut (Uu prog w) A (Lp (.ref t) 2 (ba 1)) Q E s:=by
 have a:t≠s.heap.objs.size:=by obtain⟨o,e,_⟩:=f;exact Ap (Aj e)
 (unfold Lp)
 refine Ab ?_
 (unfold notIterableAtAll)
 refine Ab (Ms f.typeIs slot_tuple_iter.lookup (Af ?_));simp only[Eo,if_false];refine Ab (Bf (iter_tuple f (Ab (Bf (draw_tuple a 1 0 _ _ ⟨_,Al _ rfl,rfl,rfl⟩ (f.push _) (by lia) λi h l=>?_)))));have m:IsTup i t items:=(f.push _).extBut l.extBut a;have h:i.IsTupleIter s.heap.objs.size t 1:=h;obtain⟨L,F,_⟩:=id h;obtain⟨K,D,_⟩:=id m;have v:i.objs.size=s.heap.objs.size+1:=by rw[l.1,Cb]
 have p:((items.toList.drop 0).take 1).length=1:=by simp;lia
 rw[if_neg (show¬((items.toList.drop 0).take 1).length<1 by rw[p];exact Di _)];refine Ab (Bf (kun_collect (s:={s with heap:=i}) (T:= "tuple_iterator") (.inr (.inr (.inr rfl))) (Walks.tuple (A:=A.in1) z s.heap.objs.size t a items) (λj u st=>st.1.typeIs) (k:=1) C ⟨h,m⟩ (Aj F) (Aj D) (λc tk q=>?_) (by rw[Bg];exact hz)));have J:(items.toList.drop 1).length=items.size-1:=by simp
 show Ut _ _ (if(items.toList.drop 1).length<2-1-1 then _ else _) _ _ _;rw[if_neg (Sf _)];show Ut _ _ (newList ((items.toList.drop 1).take ((items.toList.drop 1).length-(2-1-1)))>>=λd=>pure ((items.toList.drop 0).take 1++[d]++(items.toList.drop 1).drop ((items.toList.drop 1).length-(2-1-1)))) _ _ _;have I:(items.toList.drop 1).take ((items.toList.drop 1).length-(2-1-1))=items.toList.drop 1:=Fc (Am _);have H:(items.toList.drop 1).drop ((items.toList.drop 1).length-(2-1-1))=[]:=Gd;rw[I,H];refine Ab (Bv (Af ?_) (by show _<=sizeLine;rw[Bg];simp;lia));obtain⟨x,n⟩:∃x,items[0]?=ba x:=⟨items[0],by simp[show 0<items.size by lia]⟩;have G:(items.toList.drop 0).take 1=[x]:=by
  rw[Sr];have:items.toList[0]?=ba x:=by simpa using n
  cases hl:items.toList with
  |nil=>rw[hl]at this;cases this
  |cons y r=>rw[hl]at this;cases this;rfl
 rw[G];have keep:∀b o,s.heap.get? b=ba o->c.get? b=ba o:=λb o e=>q b o (Ap (Aj e)) (l.extBut b o (Ap (Aj e)) (Ac _ e));exact B x c tk n keep
end
section
variable{X:Cx}{K:Ag}{ml:List Nat}{e a b c:Uv}{es:List Uv}{pa ta ia pb tb ib pc tc ic pu bt bi ps bs:Bool}{fa fb fc f:VF}{B B':Bs}{O:Nat->Option Up}{H H0 H1 H':Hp}{σ:St}{δ δ':Ev}{v:V}{d:cZ}{p:Up}{pos:Pos}
def uG(K:Ag)(i j:Nat):TG:=λv σ H Q=>∃a x b,v=.ref a/\UN K H a (x::b)/\∀p,H p=bb->Q ((σ.set i (ba x)).set j (ba (.ref p))) (upd H p (.lst b))
def kG{i j:Nat}{x y:Uq}{d c ps B:Pos}{k:Nat}(hc:X.calm=bc)(t:X.N.Nodup)(O:X.N[i]?=ba x)(M:X.N[j]?=ba y)(F:Loc X.env.scope x)(E:Loc X.env.scope y)(R:X.fn x=bc∨X.env.scope.names.lookup x=ba .local)(P:X.fn y=bc∨X.env.scope.names.lookup y=ba .local)(hl:(Uz [.Name x d,.Starred (.Name y c) ps] X.env).map (·.2)=[Hh (.Name x d) X.env,Hh (.Name y c) X.env])(L:(Uz [.Name x d,.Starred (.Name y c) ps] X.env).length=2)(m:(Uz [.Name x d,.Starred (.Name y c) ps] X.env).findIdx? (·.1)=ba 1):PG X (.Tuple [.Name x d,.Starred (.Name y c) ps] k B) (uG X.K i j):=by
 intro T s σ H v u Q I r hw;obtain⟨a,z,Y,S,J,q⟩:=hw;subst S;cases r;obtain⟨h,p,G,D⟩:=I.tuple J;rw[assign_Tuple];refine Ab (Ds ?_)
 (unfold unpack)
 rw[L,m];have o:=p.length;rw[Cs]at o;have e:h.length<=16777216:=by rw[<-Bg,<-o];exact D
 refine Ab (Bf (ET (I.ok.hd hc) G (by rw[Ak];lia) (by rw[Ak];exact e) λu n g l C=>?_));rw[hl];cases p with
 | @cons _ w _ Z rz b=>
  have l:ba w=ba u:=by simpa using l
  cases l;have A:cI X T σ H {s with heap:=n,toks:=g}:=I.kept C;have W:=cI.lnew (s:={s with heap:=n,toks:=g}) (t':=g) A b (by rw[Bg];simp only[Cs]at e o;have:=b.length;lia);refine Gh (Iw (V9 W t O F rz (λs3 V=>?_) R));refine Gh (Iw (V9 V t M E (v:=.ref n.objs.size) rfl (λs4 U=>La ⟨_,_,U,q _ (A.hok.fresh (Am _))⟩) P))
noncomputable def CP(i j:Nat)(f:VF):VS:=λδ=>(f δ).bind λp=>match p.1 with
 |.tup (d::a)=>ba (.nx ((p.2.set i (.va d)).set j (.va (.lst a))))
 |_=>bb
def C7{i j:Nat}{x y:Uq}{g b sp h:Pos}{k:Nat}(W:X.K=K)(hc:X.calm=bc)(V:X.N.Nodup)(T:X.N[i]?=ba x)(P:X.N[j]?=ba y)(Q:i≠j)(L:Loc X.env.scope x)(J:Loc X.env.scope y)(U:PE X e (TV K ml pu bc bc f))(w:i∉ml:=by decide)(u:j∉ml:=by decide)(Z:LO X x:=by first|exact .inl rfl|exact .inr rfl|assumption)(Y:LO X y:=by first|exact .inl rfl|exact .inr rfl|assumption)(hl:(Uz [.Name x g,.Starred (.Name y b) sp] X.env).map (·.2)=[Hh (.Name x g) X.env,Hh (.Name y b) X.env]:=by rfl)(M:(Uz [.Name x g,.Starred (.Name y b) sp] X.env).length=2:=by rfl)(s:(Uz [.Name x g,.Starred (.Name y b) sp] X.env).findIdx? (·.1)=ba 1:=by rfl)(hs:Ib [.Tuple [.Name x g,.Starred (.Name y b) sp] k h] e pos.line X.env=pure be:=by rfl)(hw:Ic [.Tuple [.Name x g,.Starred (.Name y b) sp] k h] e X.env=pure bb:=by rfl)(A:(Uz [.Tuple [.Name x g,.Starred (.Name y b) sp] k h] X.env).map (·.2)=[Hh (.Tuple [.Name x g,.Starred (.Name y b) sp] k h) X.env]:=by rfl):PS X (.Assign [.Tuple [.Name x g,.Starred (.Name y b) sp] k h] e pos) (WZ K ml (CP i j f)):=by
 subst W;refine(EC U (kG hc V T P L J Z Y hl M s) hs hw A).imp λD σ H t=>?_;obtain⟨B,O,δ,o,S,q,k⟩:=t;unfold CP at q;obtain⟨⟨z,m⟩,A,q⟩:=Aa.mp q;refine⟨B,O,δ,z,m,S,A,λv H1 R=>?_⟩;cases z with
 |tup C=>
  cases C with
  |nil=>cases q
  |cons d C=>
   cases q;obtain⟨a,xs,rfl,sq,r⟩:=R.rep.tupE;cases r with
   | @cons F n _ _ I G=>
    refine⟨a,F,n,rfl,sq,λp l=>?_⟩;have S1:=(R.sta.same (cR (o:=.lst n) l)).setVa w (I.same (cR (o:=.lst n) l));have E:∀c,Nn B (λj=>if j=i then bb else O j) c->Nn B O c:=RJ (o:=bb);refine k _ _ _ (S1.setVa u (.lst cM (λz=>R.sta.new l (E _ z)) ((G.same (cR l)).mono E)))
 |_=>cases q
end
end L2
namespace L2
open PySem PySem.Spec PyProof.Rows
section
variable{X:Cx}{K:Ag}{ml:List Nat}{e a b c:Uv}{es:List Uv}{pa ta ia pb tb ib pc tc ic pu bt bi ps bs:Bool}{fa fb fc f:VF}{B B':Bs}{O:Nat->Option Up}{H H0 H1 H':Hp}{σ:St}{δ δ':Ev}{v:V}{d:cZ}{p:Up}{pos:Pos}
def rInD(K:Ag)(neg:Bool):R2:=λx y H Q=>∃d e a,Dp K H x d/\Dp K H y e/\(e=.list a∨e=.tuple a)/\Ew d=bc/\Ew e=bc/\Q (.bl (if neg then !a.any (λz=>Jr z d)else a.any λz=>Jr z d)) H
def QG{d:Nv}(h:Ew d=bc):d.canLay0=bc/\d.depth<=64:=by unfold Ew at h;simp only[Ae,decide_eq_true_eq]at h;exact h
def Zc(neg:Bool)(D:X.A.units+64<cLine):XR X (Cd (if neg then .NotIn else .In)) (rInD X.K neg):=by
 intro C s σ H x y v u Q I r p h;obtain⟨d,e,a,B,w,j,o,n,q⟩:=h;obtain⟨F,g⟩:=I.reads B r;obtain⟨bs,f⟩:=I.reads w p;obtain⟨i,E⟩:=QG o;obtain⟨m,l⟩:=QG n;have b:∀k,(k=if neg then !a.any (λz=>Jr z d)else a.any λz=>Jr z d)->EP X C σ Q (.bool k) s:=λk j=>by subst j;exact⟨.bl _,H,I,rfl,q⟩
 rcases j with rfl|rfl;have hc : Qf a = bc := by simpa [Ks]using m
 have t:Gw a<=63:=by simp only[Mt]at l;lia
 have c:X.A.units+1+min (Gw a) d.depth<cLine:=by have:=Sg (Gw a) d.depth;lia
 cases neg with
 |false=>exact SeqAt.in_list_reads f g hc i c (b _ rfl)
 |true=>exact SeqAt.notIn_list_reads f g hc i c (b _ rfl)
 have hc : Qf a = bc := by simpa [Ks]using m
 have t:Gw a<=63:=by simp only[Mt]at l;lia
 have c:X.A.units+1+min (Gw a) d.depth<cLine:=by have:=Sg (Gw a) d.depth;lia
 cases neg with
 |false=>exact SeqAt.in_tuple_reads f g hc i c (b _ rfl)
 |true=>exact SeqAt.notIn_tuple_reads f g hc i c (b _ rfl)
def kInD(a:X.A.units+64<cLine)(h:X.K=K:=by rfl):XR X (Cd .In) (rInD K be):=by subst h;exact Zc be a
def BV(a:X.A.units+64<cLine)(h:X.K=K:=by rfl):XR X (Cd .NotIn) (rInD K bc):=by subst h;exact Zc bc a
def inE(d:cZ)(ds:List cZ):Bool:=(pds ds).any λz=>Jr z d.pd
def K4(neg:Bool)(d e:cZ):Option cZ:=(WW e).bind λa=>if(F5 d&&F5 e)=bc then ba (.bl (if neg then !inE d a else inE d a))else bb
def NZ{neg:Bool}:O9 K (rInD K neg) (K4 neg):=by
 intro H N j M l x y d e c Q i g h k;unfold K4 at h;obtain⟨f,b,h⟩:=Aa.mp h;have h:(if(F5 d&&F5 e)=bc then ba (cZ.bl (if neg then !inE d f else inE d f))else bb)=ba c:=h;split at h
 ·rename_i a
  cases h;simp only[F5,Ae]at a;refine⟨d.pd,e.pd,pds f,i.dp a.1.1,g.dp a.2.1,?_,a.1.2,a.2.2,k _ λ_ _ _=>.bl _⟩;cases e<;>first
   |(cases b;exact .inr rfl)
   |(cases b;exact .inl rfl)
   |cases b
 cases h
def rY(K:Ag)(c ty:TE):TE:=λσ H Q=>c σ H λx H1=>∃a,x=.ref a/\((IsD H1 a/\ty σ H1 λy b=>∃o,U4 b a y o/\Q (o.getD .non) b)∨∃D,KTab K a D/\ty σ H1 λy b=>∃k,y=.str k/\Q ((Eb k D).getD .non) b)
def tT{B C:Pos}{v ty:TE}(P:X.A.units+1<cLine)(R:PE X a v)(z:PE X e ty)(m:M1 X a "get" B e C):PE X (.Call (.Attribute a "get" B) [e] [] C) (rY X.K v ty):=by
 intro r s σ H Q I h;refine wpAny_Call_method m.base m.few m.line PySem.F.plainAttrs_dict Gu PySem.F.type_dict_get (aD (R r s σ H _ I h) λu w ⟨x,H1,d,M,l,Z,q1⟩=>?_);subst Z;obtain rfl:u=An l:=M;rcases q1 with⟨U,q1⟩|⟨D,T,q1⟩;obtain⟨L,J,_⟩:=gJ d U;refine⟨L,J,?_⟩;rw[m.trees];refine Eh rfl (Ed (Gi (aD (z r w σ H1 _ d q1) λN i ⟨y,f,c,j,ov,g,q2⟩=>Ix ?_)));exact iA P c g j λw' s3 I3 n=>⟨_,f,I3,n,q2⟩;obtain⟨G,o,um,ep,p,hex,cr,_⟩:=id T;refine⟨⟨o,d.kIn _ _ p,hex.1⟩,λb q=>?_,?_⟩;cases q;exact⟨o,d.kIn _ _ p,hex.2.1⟩;rw[m.trees];refine Eh rfl (Ed (Gi (aD (z r w σ H1 _ d q1) λN i ⟨y,f,c,j,k,Y,q2⟩=>Ix ?_)));subst Y;obtain⟨t,rfl⟩:=j;have W:i.TypeIs (.ref l) "dict":=⟨o,c.kIn _ _ p,hex.1⟩;refine Cf Gu W Iv ?_ (Il _ _);show Ut _ _ (Tn l (.str k t)>>=_) _ _ i;refine Ab (L7 c.kIn T (λd' E V O=>Af ⟨E,rfl,?_⟩) λS=>?_);rw[V]at q2;exact⟨d',f,c.tok _,O,q2⟩;rw[S]at q2;show Ut _ _ (Oh l (.str k t)>>=_) _ _ _;unfold Oh;rw[if_neg (by rw[G];exact Bw)];exact Ab (Af (Af ⟨.none,rfl,.non,f,c.tok _,rfl,q2⟩))
def Wg:cZ->cZ->Option cZ
 |.dct ks a,.str x=>ba ((YO ks a (.inr x)).getD .non)
 |_,_=>bb
def C3{P R:Pos}(hK:X.K=K)(W:X.A.units+1<cLine)(ha:PE X a (TV K ml pa ta ia fa))(Z:PE X b (TV K ml pb tb ib fb))(m:M1 X a "get" P b R)(hs:(pb || (ta&&ia))=bc:=by rfl):PE X (.Call (.Attribute a "get" P) [b] [] R) (TV K ml (pa&&pb) ia ia (f2 Wg fa fb)):=by
 subst hK;refine(tT W ha Z m).imp λσ H Q F=>?_;obtain⟨B,O,δ,d,e,S,q,k⟩:=F;obtain⟨x,f,y,h1,M,G⟩:=OH q;refine⟨B,O,δ,x,f,S,h1,λv1 H1 t=>?_⟩;have s:∀u c (R2:Res X.K ml B O H1 σ pb tb ib c e u y) o,bV X.K (av B O ia) c (av B O ia) o d->Q o c:=λu c R2 o Y=>k o c ⟨R2.sta,t.frm.trans R2.frm,λz=>by obtain⟨j,i⟩:=(Ae _ _).mp z;exact(t.pur j).trans (R2.pur i),Y.mono (λ_ z=>z) BD⟩;cases x with
 |dct ks N=>
  cases y with
  |str z=>
   cases G;have U:=t.rep;cases U.onD with
   | @dct l p E n r J=>
    subst J;refine⟨l,rfl,.inl ⟨.inl ⟨_,.inl E⟩,B,O,f,_,e,t.sta,M,λu c R2=>?_⟩⟩;have C:=R2.rep;cases C.onS;have L:c l=ba (.dK p)/\cG X.K (av B O ia) c (p.map By) N:=by
     cases pb with
     |true=>exact⟨R2.pur rfl _ _ E,r.same (R2.pur rfl)⟩
     |false=>
      have hs:(ta&&ia)=bc:=by simpa using hs
      obtain⟨j,i⟩:=(Ae _ _).mp hs;subst j i;exact⟨R2.frm _ _ E λw=>absurd (.inr w) n,r.fr R2.frm λa z=>.inr z⟩
    refine⟨_,U4.k (k:=.inr z) L.1,s _ _ R2 _ ?_⟩;rcases L8 (k:=.inr z) L.2 with⟨v,d',h,g,I⟩|⟨h,g⟩;rw[h,g];exact I;rw[h,g];exact .non
   | @ktb l D T r J=>
    subst J;refine⟨l,rfl,.inr ⟨D,T,B,O,f,_,e,t.sta,M,λu c R2=>?_⟩⟩;have C:=R2.rep;cases C.onS;refine⟨z,rfl,s _ _ R2 _ ?_⟩;have V:cG X.K (av B O ia) c (D.map By) N:=by
     cases pb with
     |true=>exact r.same (R2.pur rfl)
     |false=>
      have hs:(ta&&ia)=bc:=by simpa using hs
      obtain⟨j,i⟩:=(Ae _ _).mp hs;subst j i;exact r.fr R2.frm λa z=>.inr z
    rcases OG (k:=z) V with⟨v,d',h,g,I⟩|⟨h,g⟩;rw[h,g];exact I;rw[h,g];exact .non
  |_=>cases G
 |_=>cases G
end
def QT:Bm "all"=ba (.builtin "all"):=by decide+kernel
def gS:Bm "any"=ba (.builtin "any"):=by decide+kernel
def oQ:Bm "dict"=ba (.type "dict"):=by decide+kernel
section
variable{X:Cx}{K:Ag}{ml:List Nat}{e a b c:Uv}{es:List Uv}{pa ta ia pb tb ib pc tc ic pu bt bi ps bs:Bool}{fa fb fc f:VF}{B B':Bs}{O:Nat->Option Up}{H H0 H1 H':Hp}{σ:St}{δ δ':Ev}{v:V}{d:cZ}{p:Up}{pos:Pos}
def oB{ks:List Bool}{us:List Uo}(r:bS (ks.map V.bl) us){i:Nat}{u:Uo}(h:us[i]?=ba u):∃k,ks[i]?=ba k/\u=.bool k:=by
 have hl:=r.length;rw[Bb]at hl;have a:i<us.length:=(Ai.mp h).1;have e:(ks.map V.bl)[i]?=ba (.bl ks[i]):=by simp[hl▸a]
 obtain⟨w,b,c⟩:=r.get e;rw[h]at b;cases b;exact⟨ks[i],by simp[hl▸a],c⟩
def AK{ks:List Bool}:(At ks.length).all (λi=>(ks[i]?).getD bc)=ks.all id:=by
 induction ks with
 |nil=>rfl
 |cons k ks a=>
  rw[Cs,Mi,To,List.all_map,To,<-a];rfl
def AL{ks:List Bool}:(At ks.length).any (λi=>(ks[i]?).getD bc)=ks.any id:=by
 induction ks with
 |nil=>rfl
 |cons k ks a=>
  rw[Cs,Mi,Hd,Qu,Hd,<-a];rfl
def MI(K:Ag)(g:List Bool->Bool):RC:=λb H Q=>∃p a,b=[.ref p]/\W8 K H p (a.map V.bl)/\Q (.bl (g a)) H
def GS{prog:Ao}{w:Uw}{A:Bp}{ks:List Bool}{us:List Uo}(r:bS (ks.map V.bl) us):TruthOf prog w A (λi v=>us.toArray[i]?=ba v) λi=>(ks[i]?).getD bc:=by intro i v s Q E b a;obtain⟨k,c,rfl⟩:=oB r (by simpa using b);have a:Q ((ks[i]?).getD bc) s:=a;rw[c]at a;exact Cu a
def uv(hc:X.calm=bc):aV X (.builtin "all") (MI X.K λe=>e.all id):=by
 intro w s σ H n p Q I r h;obtain⟨l,e,rfl,k,q⟩:=h;obtain⟨u,rfl,j⟩:=U2 r;cases j;obtain⟨a,d,pl,t⟩:=I.list k;have hl:=pl.isList;have c:l≠s.heap.objs.size:=by obtain⟨o,g,_⟩:=hl;exact Ap (Aj g)
 have f:=d.length;rw[Bb]at f;refine call_all_walk (Fs hl ⟨_,_,_,_,_,_,_,rfl,Walks.list (show X.A.in1.handled=bb from I.ok.hd hc) s.heap.objs.size l c a.toArray,⟨⟨_,Al _ rfl,rfl,rfl⟩,?_⟩,GS d,λv i m=>?_⟩);obtain⟨o,g,r⟩:=hl;exact⟨o,Ac _ g,r⟩;rw[Ak,<- f,AK];exact⟨.bl _,H,I.kept (t':=i) λb o g=>m b o (by simp;exact Ap (Aj g)) (Ac _ g),rfl,q⟩
def qP(hc:X.calm=bc):aV X (.builtin "any") (MI X.K λe=>e.any id):=by
 intro w s σ H n p Q I r h;obtain⟨l,e,rfl,k,q⟩:=h;obtain⟨u,rfl,j⟩:=U2 r;cases j;obtain⟨a,d,pl,t⟩:=I.list k;have hl:=pl.isList;have c:l≠s.heap.objs.size:=by obtain⟨o,g,_⟩:=hl;exact Ap (Aj g)
 have f:=d.length;rw[Bb]at f;refine call_any_walk (Fs hl ⟨_,_,_,_,_,_,_,rfl,Walks.list (show X.A.in1.handled=bb from I.ok.hd hc) s.heap.objs.size l c a.toArray,⟨⟨_,Al _ rfl,rfl,rfl⟩,?_⟩,GS d,λv i m=>?_⟩);obtain⟨o,g,r⟩:=hl;exact⟨o,Ac _ g,r⟩;rw[Ak,<- f,AL];exact⟨.bl _,H,I.kept (t':=i) λb o g=>m b o (by simp;exact Ap (Aj g)) (Ac _ g),rfl,q⟩
def DP(hc:X.calm=bc)(h:X.K=K:=by rfl):aV X (.builtin "all") (MI K λa=>a.all id):=by subst h;exact uv hc
def kAny(hc:X.calm=bc)(h:X.K=K:=by rfl):aV X (.builtin "any") (MI K λa=>a.any id):=by subst h;exact qP hc
def blsD:List cZ->Option (List Bool)
 |[]=>ba []
 |.bl k::b=>(blsD b).map λa=>k::a
 |_=>bb
theorem BH{N:Up->Prop}:∀{xs:List V}{ds:List cZ}{ks:List Bool},cG K N H xs ds->blsD ds=ba ks->xs=ks.map V.bl
 |_,_,_,.nil,h=>by cases h;rfl
 | _,_,_,@cG.cons _ _ _ v c d ds h t,e => by
  cases d with
  |bl k=>
   cases h;have e:(blsD ds).map (λks=>k::ks)=ba _:=e;cases a:blsD ds with
   |none=>rw[a]at e;cases e
   |some b=>
    rw[a]at e;cases e;rw[BH t a,Ch]
  |_=>cases e
def Wn(g:List Bool->Bool):cZ->Option cZ
 |.lst ds=>(blsD ds).map λa=>.bl (g a)
 |_=>bb
abbrev F4:=Wn λa=>a.all id
abbrev oAny:=Wn λa=>a.any id
def Yi{g:List Bool->Bool}:C9 K (MI K g) (Wn g):=by
 intro H N M x d c Q e h k;cases d with
 |lst i=>
  have h:(blsD i).map (λb=>cZ.bl (g b))=ba c:=h;obtain⟨b,f,h⟩:=Ah.mp h;cases h;obtain⟨a,j,rfl,sq,r⟩:=e.lstE;have:=BH r f;subst this;exact⟨a,b,rfl,sq,k _ λ_ _ _=>.bl _⟩
 |_=>cases h
def ML:C9 K (MI K λa=>a.all id) F4:=Yi
def uV:C9 K (MI K λa=>a.any id) oAny:=Yi
def P4:List cZ->Option (List Int)
 |[]=>ba []
 |.int i::b=>(P4 b).map λa=>i::a
 |_=>bb
theorem P5{N:Up->Prop}:∀{xs:List V}{ds:List cZ}{ns:List Int},cG K N H xs ds->P4 ds=ba ns->xs=ns.map V.int
 |_,_,_,.nil,h=>by cases h;rfl
 | _,_,_,@cG.cons _ _ _ v f d ds h t,e => by
  cases d with
  |int k=>
   cases h;have e:(P4 ds).map (λc=>k::c)=ba _:=e;cases a:P4 ds with
   |none=>rw[a]at e;cases e
   |some b=>
    rw[a]at e;cases e;rw[P5 t a,Ch]
  |_=>cases e
theorem GF{N:Up->Prop}:∀ns:List Int,cG K N H (ns.map V.int) (ns.map cZ.int)
 |[]=>.nil
 |i::ns=>.cons (.int i) (GF ns)
end
section
variable{X:Cx}{K:Ag}{ml:List Nat}{e:Uv}{es:List Uv}{pu bt bi bs:Bool}{f:VF}{fs:N8}
def cQ(h:PE X e (TV K ml pu bt bi f))(a:(bt&&bi)=bc:=by rfl):PE X e (TV K ml pu bc bc f):=by obtain⟨c,b⟩:=(Ae _ _).mp a;subst c b;exact h
def Vl(h:PE X e (TV K ml pu bt bi f))(a:bi=bc:=by rfl):PE X e (TV K ml pu bt bc f):=by subst a;exact h
def bQ(h:PA X es (TAV K ml pu bs fs))(a:bs=bc:=by rfl):PA X es (TAV K ml pu bc fs):=by subst a;exact h
def ZZ{st:Vb}:PS X st (WZ K ml λ_=>bb):=λ_ _ _ _ _ _ ⟨_,_,_,_,_,q,_⟩=>nomatch q
variable{a b c:Uv}{pa ta ia pb tb ib pc tc ic:Bool}{fa fb fc:VF}{pos:Pos}{δ:Ev}
end
theorem QU:∀(names:List (Uq×Vf)) (n:Nat) (a:List (Uq×Up)),Ve n names a=Ve n names []++a
 |[],_,_=>rfl
 | (x,k) :: r,n,a => by
  unfold Ve;split;rw[QU r (n+1) ((x,n)::a),QU r (n+1) [(x,n)]];simp;exact QU r n a
theorem DH:∀{names:List (Uq×Vf)}{n:Nat}{x:Uq}{c:Up},(x,c)∈Ve n names []->(x,Ce)∈names
 |[],_,_,_,h=>nomatch h
 | (y,k) :: r,n,x,c,h => by
  unfold Ve at h;split at h;rename_i a;rw[QU]at h;rcases Ez.mp h with h|h;exact Ay _ (DH h);cases Au.mp h;rw[show k=Ce from beq_iff_eq.mp a];exact Bu;exact Ay _ (DH h)
theorem DG:∀{names:List (Uq×Vf)}{n:Nat}{x:Uq},(x,Ce)∈names->∃c,(x,c)∈Ve n names []
 | (y,k) :: r,n,x,h => by
  unfold Ve;rcases Bj.mp h with e|h;cases e;rw[if_pos (by decide),QU];exact⟨n,Ax _ (Au.mpr rfl)⟩;split;rw[QU];obtain⟨c,hc⟩:=DG (n:=n+1) h;exact⟨c,Aq _ hc⟩;exact DG h
theorem L9:∀{l:List (Uq×Up)}{x:Uq}{c:Up},(x,c)∈l->∃b,l.lookup x=ba b
 | (y,d) :: r,x,c,h => by
  rw[Bl];cases a:x==y with
  |true=>exact⟨d,rfl⟩
  |false=>
   rcases Bj.mp h with e|h;cases e;simp at a;exact L9 h
theorem YU:∀{l m:List (Uq×Up)}{x:Uq}{c:Up},(l++m).lookup x=ba c->l.lookup x=ba c∨(l.lookup x=bb/\m.lookup x=ba c)
 |[],_,_,_,h=>.inr ⟨rfl,h⟩
 |(y,d)::r,m,x,c,h=>by
  rw[Jl,Bl]at h;rw[Bl];cases a:x==y with
  |true=>rw[a]at h;exact .inl h
  |false=>rw[a]at h;exact YU h
theorem QS:∀{l m:List (Uq×Up)}{x:Uq},l.lookup x=bb->(l++m).lookup x=m.lookup x
 |[],_,_,_=>rfl
 |(y,d)::r,m,x,h=>by
  rw[Bl]at h;rw[Jl,Bl];cases a:x==y with
  |true=>rw[a]at h;cases h
  |false=>rw[a]at h;exact QS h
def NW{M:Vj}{A:Bp}{E:Uo->Ad->Prop}{s:Ad}{scope:Vd}{globals:Up}{f:List (Uq×Up)}{qual:Uq}{outer:Env}{Q:Env->Ad->Prop}(g:Q (newEnv scope s.heap.objs.size globals (Ve (s.heap.objs.size+1) scope.names f) qual bb .none (ba outer) builtinsNs) {s with heap:=Lh (s.heap.push {cls:=.type "dict",data:=.dict #[]}) scope.names}):Ut M A (Ny scope globals f [] qual bb .none (ba outer)) Q E s:=by simp only[Ny,Pc,if_true];refine Ab (wpAny_alloc ?_);refine Ab (wpAny_layCells _ (λe a d=>by cases c:a==Ce<;>simp[c]) _ _ _ _ ?_);rw[show({s with heap:=s.heap.push {cls:=.type "dict",data:=.dict #[]}}:Ad).heap.objs.size=s.heap.objs.size+1 from Cb ..];rw[Nx];exact Ab (Af (Af g))
theorem SS:∀{l m:List (Uq×Up)}{x:Uq}{c:Up},l.lookup x=ba c->(l++m).lookup x=ba c
 |(y,d)::r,m,x,c,h=>by
  rw[Bl]at h;rw[Jl,Bl];cases a:x==y with
  |true=>rw[a]at h;exact h
  |false=>rw[a]at h;exact SS h
structure RT(X:Cx)(N':List Uq)(ix:List Nat)(scope:Vd):Prop where
 kind:scope.kind=.function
 cel:∀y∈scope.names,y.2=.cell->scope.names.lookup y.1=ba .cell
 names:∀y∈scope.names,y.2=.local->scope.names.lookup y.1=ba .local
 free:∀y∈scope.names,y.2=.free->X.env.kindOf y.1=ba .cell∨X.env.kindOf y.1=ba .free
 nd:N'.Nodup
 cap:∀j,j<ix.length->N'[j]?=(ix[j]?).bind λi=>X.N[i]?
 capf:∀x∈N'.take ix.length,scope.names.lookup x=ba .free
noncomputable def a6(X:Cx)(N':List Uq)(scope:Vd)(cl:List (Uq×Up))(a:Ad)(b:Hp)(fp:List Up):Cx:=
 {X with N:=N',s₀:=a,H₀:=b,env:=compEnvC scope cl a.heap.objs.size X.env,outer:=X.stack,stack:=X.stack,ex:=fp,fn:=λx=>scope.names.lookup x==ba Ce,pn:=[],xe:=λ_ _=>False}
theorem UE{env:Env}{x:Uq}:∀{l:List (Uq×Vf)},((l.map λ(n,k)=>if(k==Bk&&env.scope.kind== .function&&env.kindOf n==ba .cell)then(n,Ce)else(n,k)).lookup x=ba .cell∨(l.map λ(n,k)=>if(k==Bk&&env.scope.kind== .function&&env.kindOf n==ba .cell)then(n,Ce)else(n,k)).lookup x=ba .free)->(x,Bk)∈l∨(x,Ce)∈l
 |[],h=>by rcases h with z|z<;>cases z
 | (n,k) :: r,h => by
  have h:Dy x ((if(k==Bk&&env.scope.kind== .function&&env.kindOf n==ba .cell)=bc then(n,Ce)else(n,k))::r.map λ(n,k)=>if(k==Bk&&env.scope.kind== .function&&env.kindOf n==ba .cell)then(n,Ce)else(n,k))=ba .cell∨
   Dy x ((if(k==Bk&&env.scope.kind== .function&&env.kindOf n==ba .cell)=bc then(n,Ce)else(n,k))::r.map λ(n,k)=>if(k==Bk&&env.scope.kind== .function&&env.kindOf n==ba .cell)then(n,Ce)else(n,k))=ba .free:=h
  by_cases hc:(k==Bk&&env.scope.kind== .function&&env.kindOf n==ba .cell)=bc;rw[if_pos hc]at h;by_cases a:x=n;subst a;have c:k=.free:=by simp only[Ae]at hc;exact beq_iff_eq.mp hc.1.1
  subst c;exact .inl Bu;have b:(x==n)=be:=beq_eq_false_iff_ne.mpr a;simp only[Bl,b]at h;rcases UE (env:=env) h with z|z;exact .inl (Ay _ z);exact .inr (Ay _ z);rw[if_neg hc]at h;by_cases a:x=n;subst a;rw[Dw]at h;rcases h with z|z;cases z;exact .inr Bu;cases z;exact .inl Bu;have b:(x==n)=be:=beq_eq_false_iff_ne.mpr a;simp only[Bl,b]at h;rcases UE (env:=env) h with z|z;exact .inl (Ay _ z);exact .inr (Ay _ z)
noncomputable def Wb(p:Pos)(tg:Uv)(ifs:List Uv)(em:Vg Unit)(e:Uv)(b:Nat)(it a:Uo)(env:Env):Vg Pg:=do
 Gk p
 match<-pyNext it with
 |none=>pure (.done .next)
 |some v=>
  Go tg it v
  Hh tg env v
  let mut ok:=bc
  for c in ifs do
   if ok then ok<-isTrue c env (eval c env)
  if ok then em
  Ui (.compLoop e b it a env)
structure KR(e:Uv)(lv:Nat)(tg:Uv)(ifs:List Uv)(em:Vg Unit)(ya:Uo)(env:Env):Prop where
 turn:∃p,∀it,compTurn e lv it ya env=Wb p tg ifs em e lv it ya env
 den:∀(prog:Ao) (w:Uw) (A:Bp) (it:Uo) (Q:Pg->Ad->Prop) (E:Uo->Ad->Prop) (s:Ad),Ut (Uu prog w) A ((compTurn e lv it ya env).onRaise (λx=>do Sh x env;theTreesLotGoes x)) Q E s->Ut (Uu prog w) (A.under (.compLoop e lv it ya env)) ((Uu prog w).den (.compLoop e lv it ya env)) Q E s
 dens:∀(prog:Ao) (w:Uw) (A:Bp) (it:Uo) (Q:Pg->Ad->Prop) (E:Uo->Ad->Prop) (s:Ad),Ut (Uu prog w) A ((compStart e lv it ya env).onRaise (λx=>do Sh x env;Gk theWindowsPlace)) Q E s->Ut (Uu prog w) (A.under (.compStart e lv it ya env)) ((Uu prog w).den (.compStart e lv it ya env)) Q E s
 quiet:∀it,(Code.compLoop e lv it ya env).quiet=bc
 cl:∃g,(clausesOf e)[lv]?=ba g/\g.is_async=0
section
variable{prog:Ao}{w:Uw}{A:Bp}{s:Ad}{e tg:Uv}{lv:Nat}{ifs:List Uv}{em:Vg Unit}{it ya:Uo}{env:Env}{R:Tx->Ad->Prop}
def Vr(L:KR e lv tg ifs em ya env)(I:Nat->Ad->Prop)(turn:∀n s,I n s->Ut (Uu prog w) A (pyNext it) (λr b=>match r with
   |none=>R (.ok .next) b
   | some v => Ut (Uu prog w) A (Go tg it v) (λ_ i => Ut (Uu prog w) A (Hh tg env v) (λ_ g =>
     Ut (Uu prog w) A (forIn ifs bc λc r=>if r=bc then do let ok<-isTrue c env (eval c env);pure (Fb ok)else pure (Fb r)) (λok a=>if ok=bc then
      Ut (Uu prog w) A em (λ_ f=>∃m,m<n/\I m f) (λ_ _=>False) a else∃m,m<n/\I m a) (λ_ _=>False) g)
     (λ_ _=>False) i) (λ_ _=>False) b) (λ_ _=>False) s)
  (n:Nat) (h:I n s):Gg (Uu prog w) A (.compLoop e lv it ya env) R s:=by
 refine codeAny_loop (L.quiet it) I (λn s x=>L.den _ _ _ _ _ _ _ (wpAny_noted ?_)) n h;obtain⟨p,u⟩:=L.turn;rw[u];refine Ab (Ds (Ab (Aw (turn n s x) (λr b k=>?_) λ_ _ d=>d.elim)));cases r with
 |none=>exact Af k
 |some v=>
  refine Ab (Aw k (λ_ i l=>?_) λ_ _ d=>d.elim);refine Ab (Aw l (λ_ g q=>?_) λ_ _ d=>d.elim);refine Ab (Aw q (λt a j=>?_) λ_ _ d=>d.elim);cases t with
  |false=>exact Af ⟨rfl,j⟩
  |true=>exact Ab (Aw j (λ_ f o=>Af ⟨rfl,o⟩) λ_ _ d=>d.elim)
def EU(L:KR e lv tg ifs em ya env)(i:Gg (Uu prog w) A (.compLoop e lv it ya env) R s)(h:Ut (Uu prog w) A (Rz it) (λa b=>Gg (Uu prog w) A (.compLoop e lv a ya env) R b) (notedBy (Uu prog w) A env λx b=>R (.error x) b) s):Gg (Uu prog w) A (.compStart e lv it ya env) R s:=by
 refine codeAny_of_tree (L.dens _ _ _ _ _ _ _ (wpAny_notedAt ?_));obtain⟨g,d,f⟩:=L.cl;have c:=L.quiet;unfold compStart;simp only[d,Option.elim_some,f,bne_self_eq_false,Eo,if_false];refine Ab (wpAny_askSetting (wpAny_ite ?_));split;exact Ab (Af (Af ⟨c _,i⟩));exact Ab (Lb (Ab (Ds (Ab (Aw h (λa b j=>Af ⟨c _,j⟩) λ_ _ x=>x)))))
end
def PM(Y:Cx)(em:Vg Unit)(tm:TM):Prop:=∀(c:List (Up×Vc)) (s:Ad) (b:St) (H:Hp) (N:St->Hp->Prop),cI Y c b H s->tm b H N->Ut (Uu Y.prog Y.w) Y.A em (λ_ e=>∃a d,cI Y c a d e/\N a d) (λ_ _=>False) s
structure BlkG(Y:Cx)(e:Uv)(tg:Uv)(ifs:List Uv)(g:TG)(tt:TT)(tm:Up->TM):Prop where
 pg:PG Y tg g
 ts:PTs Y ifs tt
 em:∀D,∃em,KR e 0 tg ifs em (.ref D) Y.env/\PM Y em (tm D)
def QW{X:Cx}{aa:List (Up×Vc)}{I:St}{G:Hp}{f:Ad}{E:Uo->Ad->Prop}{e tg:Uv}{ifs:List Uv}{scope:Vd}{N':List Uq}{ix:List Nat}{nl:Nat}{g:TG}{tt:TT}{tm:Up->TM}{mkA:Vg Uo}{ob:Vc}{o0:HO}{cl:List (Uq×Up)}{J:It}{fp:List Up}{it:Up}{tn:Nat->Uy->Prop}{Q:V->Hp->Prop}{RR:Uo->Up->Tx->Ad->Prop}(hmk:∀{Q:Uo->Ad->Prop},Q (.ref f.heap.objs.size) {f with heap:=f.heap.push ob}->Ut (Uu X.prog X.w) X.A mkA Q E f)(hob:a5 X.prog X.w (upd G f.heap.objs.size o0) (f.heap.push ob) f.heap.objs.size o0)(hc:X.calm=bc)(S:RT X N' ix scope)(hnl:N'.length=ix.length+nl)(gj:∀x c,cl.lookup x=ba c->X.env.cells.lookup x=ba c)(qr:∀x,(x,Bk)∈scope.names->∃c,cl.lookup x=ba c)(blk:∀(cl:List (Uq×Up)) (s:Ad) (H1:Hp) (fp:List Up),BlkG (a6 X N' scope cl s H1 fp) e tg ifs g tt tm)(I2:cI X aa I G f)(T:FD X.prog X.w X.K tg J fp it tn)(st2:tn 0 f.heap)(f2:∀b∈fp,K9 X aa G b)(h:∀D,G D=bb->JC D o0 ix nl J g tt tm I G λt=>Q (.ref D) t)(fin:∀(D C:Up) (s':Ad) (t:Hp),cI X aa I t s'->(∃m,s'.heap.Ns C m)->C≠X.env.locals->(∀x c,X.env.cells.lookup x=ba c->c≠C)->(∀(F:St) (s'':Ad) (h'':Uy),cI X aa F t s''->Ek C s''.heap h''->cI X aa F t {s'' with heap:=h''})->Q (.ref D) t->RR (.ref D) C (.ok .next) s'):Ut (Uu X.prog X.w) X.A mkA (λya M=>Ut (Uu X.prog X.w) X.A (Ny scope X.env.globals cl [] X.env.qual bb .none (ba X.env)) (λri s₄=>Gg (Uu X.prog X.w) X.A (.compStart e 0 (.ref it) ya {ri with scope:=relabel scope X.env}) (RR ya ri.locals) s₄) E M) E f:=by
 refine hmk (NW ?_);dsimp only;have B:cI X aa I (upd G f.heap.objs.size o0) {f with heap:=f.heap.push ob}:=
  I2.laid (a:=f.heap.objs.size) (o:=o0) (t':=f.toks) (λ_ _ q=>Ac _ q) (Am _) hob
 have hDn:G f.heap.objs.size=bb:=I2.hok.fresh (Am _);obtain⟨W,m0,w0,turn⟩:=h _ hDn;generalize hs1:({f with heap:=f.heap.push ob}:Ad)=s at B;have j6:f.heap.push ob=s.heap:=by rw[<-hs1]
 rw[j6];have Y:∀b o,s.heap.get? b=ba o->(Lh (s.heap.push {cls:=.type "dict",data:=.dict #[]}) scope.names).get? b=ba o:=λb o e=>Kb _ _ _ _ (Ac _ e);have U:(Lh (s.heap.push {cls:=.type "dict",data:=.dict #[]}) scope.names).Ns s.heap.objs.size (λ_=>bb):=(Uj s.heap (.type "dict")).keeps λb o e=>Kb _ _ _ _ e;have Z:=cellsFrom_ok scope.names (s.heap.push {cls:=.type "dict",data:=.dict #[]}) (s.heap.objs.size+1) [] ⟨λ_ _ hm=>(nomatch hm),Qa⟩ (by rw[Cb];exact Am _);rw[Cb]at Z;generalize hz1:Lh (s.heap.push {cls:=.type "dict",data:=.dict #[]}) scope.names=O at Y U Z;rw[QU];generalize hnc:Ve (s.heap.objs.size+1) scope.names []=H at Z;have R:∀x c,H.lookup x=ba c->(x,Ce)∈scope.names/\O.IsCell c bb/\s.heap.objs.size+1<=c:=λx c e=>by have hm:=Cr e;exact⟨DH (n:=s.heap.objs.size+1) (by rw[hnc];exact hm),Z.empty x c hm⟩
 have nch:∀x,(x,Ce)∈scope.names->∃c,H.lookup x=ba c:=λx h=>by obtain⟨c,hc⟩:=DG (n:=s.heap.objs.size+1) h;rw[hnc]at hc;exact L9 hc
 have lg:∀b∈fp,b<f.heap.objs.size:=λb k=>by obtain⟨o,e,_⟩:=T.obj _ _ st2 b k;exact Aj e
 have qj:s.heap.objs.size=f.heap.objs.size+1:=by rw[<-j6,Cb]
 have rm:∀b o,f.heap.get? b=ba o->s.heap.get? b=ba o:=λb o e=>by rw[<-j6];exact Ac _ e
 have ja:∀x c,cl.lookup x=ba c->c<s.heap.objs.size:=λx c e=>by obtain⟨v,q⟩:=B.cell x c (gj x c e);exact q.lt
 have uk:∀b∈TW X.stack,b<s.heap.objs.size:=λb k=>by obtain⟨_,o,ho,_⟩:=(B.stack).mem k;exact Aj ho
 have okY:(a6 X N' scope (H++cl) s (upd G f.heap.objs.size o0) fp).Ok:=by
  refine⟨B.ok.mod,S.kind,B.ok.glob,B.ok.blt,Am _,λx y c e1 e2=>?_,λx hx=>?_,λx c hf e=>?_,B.ok.hd,B.ok.frames,.inl rfl,λb k=>⟨?_,λx c e=>?_⟩,λb o e=>?_,Dq B.ok.bsz B.sz,λb o e k=>?_,λb k hb2=>?_,B.stack,B.stkFree⟩;rcases YU e1 with n1|⟨_,o1⟩;rcases YU e2 with n2|⟨_,o2⟩;exact PySem.name_of_addr Z.apart (Cr n1) (Cr n2);exact absurd (Ba (ja y c o2) (Jb (R x c n1).2.2)) (Di _);rcases YU e2 with n2|⟨_,o2⟩;exact absurd (Ba (ja x c o1) (Jb (R y c n2).2.2)) (Di _);exact B.ok.inj x y c (gj x c o1) (gj y c o2);cases q:H.lookup x with
  |some c=>exact⟨c,SS q⟩
  |none=>
   rcases UE hx with h|h;obtain⟨c,hc⟩:=qr x h;exact⟨c,(QS q).trans hc⟩;obtain⟨c,hc⟩:=nch x h;rw[q]at hc;cases hc
  have hx:(x,Ce)∈scope.names:=Cr (beq_iff_eq.mp hf);obtain⟨c',hc'⟩:=nch x hx;have:=SS (m:=cl) hc';have e:(H++cl).lookup x=ba c:=e;rw[this]at e;cases e;exact Jb (R x c hc').2.2;exact Ap (Ba (lg b k) (by show f.heap.objs.size<=s.heap.objs.size;rw[qj];exact Gq _));rcases YU e with n1|⟨_,o1⟩;have h1:=lg b k;have h2:=(R x c n1).2.2;rw[qj]at h2;exact λz=>absurd (z▸h2) (Nat.not_le_of_lt (Ba h1 (Dq (Gq _) (Gq _))));exact(f2 b k).2.2.2.2.1 x c (gj x c o1);exact B.bs b o e;have:=(f2 b k)
  obtain⟨o',e',_⟩:=T.obj _ _ st2 b k;have hlt:=Ba (Aj e) B.ok.bsz;rcases this.2.2.2.1 with z|z;exact B.ok.noex b o e z;exact absurd (Ba hlt z) (Di _);rcases Bj.mp (B.stkSub b hb2)with z|z;exact(f2 b k).2.1 z;exact(f2 b k).2.2.1 z
 have l6:(ZF ix I++Av nl bb).length=N'.length:=by rw[Be,Mp,hnl];simp[ZF]
 have IY:cI (a6 X N' scope (H++cl) s (upd G f.heap.objs.size o0) fp) [] (ZF ix I++Av nl bb) (upd G f.heap.objs.size o0) {f with heap:=O}:=by
  refine⟨okY,?_,I2.bare,Un.kept Y,⟨_,U,λj x v e1 e2 e3=>?_⟩,λx c e=>?_,B.hok.fresh (Am _),λx c e=>?_,λp hp=>absurd (show p∈([]:List (Up×Vc)) from hp) (by simp),B.hok.kept Y,l6⟩;show f.os=s.os;rw[<-hs1]
  ·have hj:j<ix.length:=by
    by_cases hj:j<ix.length;exact hj
    ·exfalso
     have hl:(ZF ix I).length=ix.length:=by simp[ZF]
     rw[Dk (by rw[hl];lia),Dj]at e2;split at e2<;>cases e2
   have hl:(ZF ix I).length=ix.length:=by simp[ZF]
   rw[As (by rw[hl];exact hj)]at e2;have hci:=S.cap j hj;obtain⟨i,hi⟩:∃i,ix[j]?=ba i:=⟨ix[j],by simp[hj]⟩;rw[hi]at hci;have hNi:X.N[i]?=ba x:=by
    have:N'[j]?=X.N[i]? :=hci
    rw[<-this];exact e1
   have hσ:I[i]?=ba (ba v):=by
    unfold ZF at e2;rw[Bo,hi]at e2;have e2':(I[i]?).join=ba v:=by simpa using e2
    cases q:I[i]? with
    |none=>rw[q]at e2';cases e2'
    |some o=>rw[q]at e2';rw[show o=ba v from e2']
   have hfl:scope.names.lookup x=ba .free:=S.capf x (by rw[Jh];exact⟨j,by rw[Db hj];exact e1⟩);have cv:(x,Bk)∈scope.names:=Cr hfl;have hpk:X.env.kindOf x=ba .cell∨X.env.kindOf x=ba .free:=by exact S.free (x,.free) cv rfl
   have tf:Vis X.env.scope x:=by
    rcases hpk with z|z;exact .inr (.inl z);exact .inr (.inr z)
   obtain⟨m,hn,u7⟩:=B.loc;obtain⟨u,ru,l⟩:=u7 i x v hNi hσ tf;refine⟨u,ru,?_⟩;rcases l with⟨hk,_⟩|⟨hk,c,ec,z⟩
   ·rcases hpk with q|q<;>rw[hk]at q<;>cases q
   obtain⟨c',hc'⟩:=qr x cv
   have:c'=c:=by
    have:=gj x c' hc'
    rw[ec]at this;exact(Cg this).symm
   subst this;have u5:H.lookup x=bb:=by
    cases q:H.lookup x with
    |none=>rfl
    |some d=>
     have:=S.cel (x,.cell) (R x d q).1 rfl
     rw[hfl]at this;cases this
   refine .inr ⟨QF hfl,c',(QS u5).trans hc',?_⟩;obtain⟨o,ho,hd⟩:=z;exact⟨o,Y _ _ ho,hd⟩
  rcases YU e with n1|⟨_,o1⟩;exact⟨bb,(R x c n1).2.1⟩;obtain⟨v,o,ho,hd⟩:=B.cell x c (gj x c o1);exact⟨v,o,Y _ _ ho,hd⟩;rcases YU e with n1|⟨_,o1⟩;exact B.hok.fresh (Jb (R x c n1).2.2);exact B.freeC x c (gj x c o1)
 have back:∀{pY:List (Up×Vc)}{F:St}{t:Hp}{s':Ad},cI (a6 X N' scope (H++cl) s (upd G f.heap.objs.size o0) fp) pY F t s'->cI X aa I t s':=λ{pY F t s'} J'=>
  B.call' J'.os J'.base J'.hok J'.bare λb k=>⟨(f2 b k).2.2.2.1,(f2 b k).2.1,(f2 b k).2.2.2.2.1,(f2 b k).2.2.2.2.2⟩
 have stat:∀{t:Hp}{pY:List (Up×Vc)},(∀b∈fp,t b=bb)->pY=[]->∀b∈fp,K9 (a6 X N' scope (H++cl) s (upd G f.heap.objs.size o0) fp) pY t b:=λ{t pY} hn hp b k=>by subst hp;refine⟨hn b k,(okY.exf b k).1,okY.exfs b k,.inl k,(okY.exf b k).2,λp hp=>absurd (show p∈([]:List (Up×Vc)) from hp) (by simp)⟩
 have st1:tn 0 O:=T.keep 0 f.heap O st2 λb k o e=>Y b o (rm b o e);have fr1:∀b∈fp,(upd G f.heap.objs.size o0) b=bb:=λb k=>by rw[cL (Ap (lg b k))];exact(f2 b k).1
 obtain⟨btg,bts,bem⟩:=blk (H++cl) s (upd G f.heap.objs.size o0) fp;obtain⟨em,L,bem⟩:=bem f.heap.objs.size;have loop:∀M:Ad,M={f with heap:=O}->
   Gg (Uu X.prog X.w) X.A (.compLoop e 0 (.ref it) (.ref f.heap.objs.size) (compEnvC scope (H++cl) s.heap.objs.size X.env)) (RR (.ref f.heap.objs.size) s.heap.objs.size) M:=by
  rintro M rfl;refine Vr L (λn s'=>∃i F t,cI (a6 X N' scope (H++cl) s (upd G f.heap.objs.size o0) fp) [] F t s'/\F.take ix.length=ZF ix I/\tn i s'.heap/\(∀b∈fp,t b=bb)/\W i n t) ?_ m0
   ⟨0,_,_,IY,by rw[List.take_append_of_le_length (by simp[ZF])];exact Fc (by simp[ZF]),st1,fr1,w0⟩
  rintro n s' ⟨i,F,t,J',hσ,st',fr',w'⟩;have Jc:cI (a6 X N' scope (H++cl) s (upd G f.heap.objs.size o0) fp) [] (ZF ix I++Av nl bb) t s':=by
   refine J'.weak (by rw[l6];exact J'.len.symm) λj v e=>?_;have hl:(ZF ix I).length=ix.length:=by simp[ZF]
   by_cases hj:j<ix.length;rw [As (by rw [hl];exact hj),<- hσ,Db hj]at e;exact e
   ·rw [Dk (by rw [hl];lia),Dj]at e
    split at e<;>cases e
  rcases turn i n t w' with⟨stop,q⟩|⟨go,N,hN,step⟩;refine Aw (T.done (a6 X N' scope (H ++ cl) s (upd G f.heap.objs.size o0) fp) rfl rfl rfl hc i [] s' _ t (λ_ _ => False) Jc (stat fr' rfl) st' stop) (λr s4 ⟨hr,I4⟩ => ?_) λ_ _ z => z;subst hr;have IX:=back I4;obtain⟨m,hm,_⟩:=I4.loc;exact fin _ _ s4 t IX ⟨m,hm⟩ (Je B.lt) (λx c e z=>by
   obtain⟨v,q⟩:=B.cell x c e;have:=q.lt;rw[z]at this;exact Di _ this) (λσ'' s'' h'' I'' sb=>cI.offNew B I'' I4.free λb o k e=>(sb.2 b k).trans e) q
  refine Aw (T.item (a6 X N' scope (H ++ cl) s (upd G f.heap.objs.size o0) fp) rfl rfl rfl hc i [] s' _ t (λ_ _ => False) Jc (stat fr' rfl) st' go) (λr s4 ⟨u,hr,h4⟩ => ?_) λ_ _ z => z;subst hr;refine Aw h4 (λ_ s5 ⟨x,H5,I5,r5,y5,st5,fr5⟩=>?_) λ_ _ z=>z;have I5':=I5.pinned (stat fr5 rfl) (T.obj _ _ st5);refine Aw (btg _ s5 _ H5 x u _ I5' r5 (step x H5 y5)) (λ_ s6 ⟨σ6,H6,I6,hσ6,q6⟩=>?_) λ_ _ z=>z;have again:∀{σ7:St}{H7:Hp}{s7:Ad},σ7.take ix.length=ZF ix I->cI (a6 X N' scope (H++cl) s (upd G f.heap.objs.size o0) fp) ([]++OT fp s5.heap) σ7 H7 s7->N H7->
    ∃m,m<n/\∃i F t,cI (a6 X N' scope (H++cl) s (upd G f.heap.objs.size o0) fp) [] F t s7/\F.take ix.length=ZF ix I/\tn i s7.heap/\(∀b∈fp,t b=bb)/\W i m t:=λ{σ7 H7 s7} hσ7 I7 n7=>by
   obtain⟨m',hm,w7⟩:=hN H7 n7;refine⟨m',hm,i+1,σ7,H7,I7.unpinned,hσ7,T.keep _ _ _ st5 λb k o e=>(I7.pin (b,o) (Ax _ (Ax _ (X3 k e)))).1,λb k=>?_,w7⟩;obtain⟨o,e,d⟩:=T.obj _ _ st5 b k;exact(I7.pin (b,o) (Ax _ (Ax _ (X3 k e)))).2.1
  refine Aw (bts _ s6 σ6 H6 _ I6 q6) (λokb s7 ⟨H7,I7,q7⟩=>?_) λ_ _ z=>z;cases okb with
  |false=>exact again hσ6 I7 q7
  |true=>exact Aw (bem _ s7 σ6 H7 _ I7 q7) (λ_ s8 ⟨σ8,H8,I8,hσ8,n8⟩=>again hσ8 I8 n8) λ_ _ z=>z
 exact EU L (loop _ rfl) (T.self _ 0 _ _ _ st1 (loop _ rfl))
def CS{X:Cx}{g:List (Up×Vc)}{r:St}{i:Nat}{y:Uq}{s:Pos}{D:N5}(H:X.N.Nodup)(l:X.N[i]?=ba y)(t:X.env.scope.names.lookup y=ba .local)(h C:Up)(s':Ad)(f:Hp)(I:cI X g r f s')(k:∃m,s'.heap.Ns C m)(p:C≠X.env.locals)(o:∀x c,X.env.cells.lookup x=ba c->c≠C)(F:∀(e:St) (b:Ad) (d:Uy),cI X g e f b->Ek C b.heap d->cI X g e f {b with heap:=d})(E:D.nx (r.set i (ba (.ref h))) f):Rr (Uu X.prog X.w) X.A X.xe (ba (Hh (.Name y s) X.env)) (λ_ s'=>SP X g D .next s') (.ref h) C (.ok .next) s':=by
 obtain⟨m,k⟩:=k;show Ut _ X.A (Hh (.Name y s) X.env (.ref h)) _ _ _;refine Iw (KI I H l (.inl t) (v:=.ref h) rfl (λb q ⟨a,j,G⟩=>?_) (.inr t));have n:C≠a:=by
  rcases G with z|z;rw[z];exact p;exact Dm (o y a z)
 exact⟨m,k.sameBut j n,λd B=>⟨_,f,F _ b d q B,E⟩⟩
def emL(D:Up)(a:Uv)(env:Env):Vg Unit:=do let _<-call (.builtin "list.append") [.ref D,<-eval a env]
def lpL1{a tg iter:Uv}{ifs:List Uv}{scope:Vd}{pos:Pos}{D:Up}{env:Env}:KR (.ListComp a [⟨tg,iter,ifs,0⟩] scope pos) 0 tg ifs (emL D a env) (.ref D) env:=⟨⟨iter.pos,λ_=>rfl⟩,λ_ _ _ _ _ _ _ h=>h,λ_ _ _ _ _ _ _ h=>h,λ_=>rfl,_,rfl,rfl⟩
def CG{Y:Cx}{a:Uv}{g:TE}{D:Up}(d:Y.xe=λ_ _=>False)(o:PE Y a g):PM Y (emL D a Y.env) (tmL g D):=by
 intro p s b H N I h;have nx:∀{i:Sort _}{x:Uo}{s:Ad},Y.xe x s->i:=λz=>by rw[d]at z;exact z.elim
 exact Ab (Aw (o p s b H _ I h) (λv k ⟨y,t,r,l,j,e,c,n⟩=>Ab (Aw (RY (X:=Y) _ k b t (.ref D) [y] (.ref D) [v] (λ_ f=>N b f) r rfl (.cons l .nil)
  ⟨D,j,y,rfl,rfl,e,c,n⟩) (λ_ u ⟨_,f,q,_,m⟩=>Af ⟨b,f,q,m⟩) λ_ _ z=>nx z)) λ_ _ z=>nx z)
section
variable{X:Cx}{tg iter elt:Uv}{ifs:List Uv}{rest:List Lw}{scope:Vd}{pos py c9:Pos}{N':List Uq}{ix:List Nat}{nl:Nat}{wi:TI}{g:TG}{tt:TT}{tm:Up->TM}{i:Nat}{y:Uq}
def F9(hc:X.calm=bc)(S:RT X N' ix scope)(f:N'.length=ix.length+nl)(F:PI X tg iter wi)(k:∀(cl:List (Uq×Up)) (t:Ad) (V:Hp) (fp:List Up),BlkG (a6 X N' scope cl t V fp) (.ListComp elt (⟨tg,iter,ifs,0⟩::rest) scope pos) tg ifs g tt tm)(hs:∀x,Ux iter X.env x=pure x):PE X (.ListComp elt (⟨tg,iter,ifs,0⟩::rest) scope pos) (IQ ix nl wi g tt tm):=by intro o s c H Q I h;rw[eval_ListComp];obtain⟨cl,P,O,N⟩:=M3 (env:=X.env) (scope:=scope) λy B G=>I.ok.has y.1 (S.free y B G);refine Fw (use:=bb) (cl:=cl) rfl hs P S.kind S.names (Aw (F o s c H _ I h) (λY n b=>Aw b (λv l a=>?_) λ_ _ e=>e) λ_ _ e=>e);obtain⟨it,fp,Z,J,H2,e,R,T,d,f2,q⟩:=a;subst e;refine QW (o0:=.lst []) (Q:=Q) (RR:=λp C=>Rr (Uu X.prog X.w) X.A X.xe bb (EP X o c Q) p C) (λz=>Bv z) ⟨Bz _,[],0,.nil,Al _ rfl⟩ hc S f O N k R T d f2 q ?_;intro D C u W U i M L K E;obtain⟨m,i⟩:=i;exact⟨m,i,λj r=>⟨.ref D,W,K c u j U r,rfl,E⟩⟩
def rB(K:X.N.Nodup)(l:X.N[i]?=ba y)(f:X.env.scope.names.lookup y=ba .local)(hc:X.calm=bc)(S:RT X N' ix scope)(k:N'.length=ix.length+nl)(F:PI X tg iter wi)(m:∀(cl:List (Uq×Up)) (u:Ad) (R:Hp) (fp:List Up),BlkG (a6 X N' scope cl u R fp) (.ListComp elt (⟨tg,iter,ifs,0⟩::rest) scope pos) tg ifs g tt tm)(j:Va (.ListComp elt (⟨tg,iter,ifs,0⟩::rest) scope pos) (ba (.Name y py)) c9.line X.env=pure bc)(hs:∀x,Ux iter X.env x=pure x):PS X (.Assign [.Name y py] (.ListComp elt (⟨tg,iter,ifs,0⟩::rest) scope pos) c9) (tAsg (IQ ix nl wi g tt tm) (W0 i)):=by
 intro n s o H D I h;rw[Mx _ _ _ _ j];refine Ab (Ds (Ab ?_));show Ut _ X.A (do let _<-Ph (.ListComp elt (⟨tg,iter,ifs,0⟩::rest) scope pos) scope X.env _ (newList []) be (eval iter X.env) (ba (Hh (.Name y py) X.env))) _ _ s;obtain⟨cl,O,M,L⟩:=M3 (env:=X.env) (scope:=scope) λy f G=>I.ok.has y.1 (S.free y f G);refine Ab (Aw (Fw (use:=ba (Hh (.Name y py) X.env)) (cl:=cl) (Q:=λ_ c=>SP X n D .next c) rfl hs O S.kind S.names
  (Aw (F n s o H _ I h) (λV r b=>Aw b (λB p a=>?_) λ_ _ e=>e) λ_ _ e=>e)) (λ_ c E=>Af (Af E)) λ_ _ e=>e)
 obtain⟨Y,fp,W,J,Z,e,P,T,d,f2,q⟩:=a;subst e;exact QW (o0:=.lst []) (Q:=λv U=>D.nx (o.set i (ba v)) U) (RR:=λt C=>Rr (Uu X.prog X.w) X.A X.xe (ba (Hh (.Name y py) X.env)) (λ_ c=>SP X n D .next c) t C) (λz=>Bv z) ⟨Bz _,[],0,.nil,Al _ rfl⟩ hc S k M L m P T d f2 q (CS K l f)
end
section
variable{X:Cx}{K:Ag}{ml:List Nat}{pi pt pe pu:Bool}{pos:Pos}{ix:List Nat}{nl:Nat}{f:VF}
def SK(N N':List Uq)(ix:List Nat)(names:List (Uq×Vf))(k:Uq->Option Vf):Bool:=
 names.all (λy=>y.2 != .cell || names.lookup y.1==ba .cell)&&(names.all (λy=>y.2 != .local || names.lookup y.1==ba .local)&&(names.all (λy=>y.2 != .free || (k y.1==ba .cell || k y.1==ba .free)) &&
  (decide N'.Nodup&&((At ix.length).all (λj=>N'[j]? ==(ix[j]?).bind λi=>N[i]?)&&(N'.take ix.length).all λx=>names.lookup x==ba .free))))
def X2{N':List Uq}{scope:Vd}(b:scope.kind=.function)(h:SK X.N N' ix scope.names X.env.kindOf=bc):RT X N' ix scope:=by unfold SK at h;simp only[Ae,Fe,Jy,bne_iff_ne,beq_iff_eq,decide_eq_true_eq,Dx]at h;obtain⟨j,i,g,f,d,c⟩:=h;exact⟨b,λy a e=>(j y a).resolve_left λz=>z e,λy a e=>(i y a).resolve_left λz=>z e,λy a e=>(g y a).resolve_left λz=>z e,f,d,c⟩
def Blk.g{X:Cx}{N':List Uq}{scope:Vd}{tg iter d:Uv}{ifs:List Uv}{pos:Pos}{g:TG}{tt:TT}{e:TE}(a:∀(cl:List (Uq×Up)) (b:Ad) (c:Hp) (fp:List Up),Blk (a6 X N' scope cl b c fp) tg ifs d g tt e)(cl:List (Uq×Up))(b:Ad)(c:Hp)(fp:List Up):BlkG (a6 X N' scope cl b c fp) (.ListComp d [⟨tg,iter,ifs,0⟩] scope pos) tg ifs g tt (tmL e):=
 ⟨(a cl b c fp).tg,(a cl b c fp).ts,λD=>⟨_,lpL1,CG rfl (a cl b c fp).el⟩⟩
abbrev BlkC(X:Cx)(K:Ag)(N':List Uq)(ix:List Nat)(scope:Vd)(tg:Uv)(ifs:List Uv)(a:Uv)(d:VG)(pt:Bool)(b:VB)(pe:Bool)(f:VF):Prop:=N'.Nodup->∀(g:List (Uq×Up)) (c:Ad) (h:Hp) (e:List Up),Blk (a6 X N' scope g c h e) tg ifs a (DC K (At ix.length) d) (TB K (At ix.length) pt b) (TV K (At ix.length) pe bc bc f)
def ZY{tg iter b:Uv}{ifs:List Uv}{scope:Vd}{j:VI}{i:VG}{e:VB}{k:VF}(N':List Uq)(ix:List Nat)(nl:Nat)(l:PI X tg iter (LD K ml pi j))(d:BlkC X K N' ix scope tg ifs b i pt e pe k)(hc:X.calm=bc:=by rfl)(f:scope.kind=.function:=by rfl)(a:SK X.N N' ix scope.names X.env.kindOf=bc:=by rfl)(c:N'.length=ix.length+nl:=by rfl)(hnd:ix.Nodup:=by decide)(hs:∀x,Ux iter X.env x=pure x:=by intro _;rfl):PE X (.ListComp b [⟨tg,iter,ifs,0⟩] scope pos) (TN K ml (pi&&pt&&pe) (X7 ix nl j i e k)):=
 (F9 hc (X2 f a) c l (Blk.g (d (X2 f a).nd)) hs).imp λ_ _ _ h=>nK hnd h
end
section
variable{X:Cx}{K:Ag}{ml:List Nat}{e a b c:Uv}{es:List Uv}{pa ta ia pb tb ib pc tc ic pu bt bi ps bs:Bool}{fa fb fc f:VF}{B B':Bs}{O:Nat->Option Up}{H H1 H':Hp}{σ:St}{δ δ':Ev}{v:V}{d:cZ}{p:Up}{pos:Pos}
structure LA(K:Ag)(x qual:Uq)(st:Vb)(dV:Uo)(f:Up)(fd:Bq):Prop where
 ex:∃(oc:Uo) (od:Option Up) (kV doc pm:Uo) (an:Option Up) (cdv ct:Uo) (osl:Array (Option Uo)),
  fd=Hi x qual (a7 st) (bT st) (c7 st) dV kV doc pm an cdv ct/\K.lookup f=ba ⟨oc,od,.func fd,osl⟩/\Kn K cdv qual=bc
 kp:Fh K (.ref f)=bc
def BP{x qual:Uq}{st:Vb}{e:Uo}{f:Up}{h:Uo}{od g:Option Up}{b:Array (Option Uo)}{kV doc d a ct:Uo}(l:K.lookup f=ba ⟨h,od,.func (Hi x qual (a7 st) (bT st) (c7 st) e kV doc d g a ct),b⟩)(c:Kn K a qual=bc)(k:Fh K (.ref f)=bc):LA K x qual st e f (Hi x qual (a7 st) (bT st) (c7 st) e kV doc d g a ct):=⟨⟨h,od,kV,doc,d,g,a,ct,b,rfl,l,c⟩,k⟩
def LA.okV{P:Ao}{w:Uw}{mg:Uq->Option Uo}{base:Uy}{x qual:Uq}{st:Vb}{n:Uo}{f:Up}{fd:Bq}{N ps:List Uq}{k:Nat}{g:VS}(F:LA K x qual st n f fd)(S:cO N ps (c7 st))(c:ps.length<=N.length)(o:∀(a:Uo) (A:Bp) (outer:List Env) (s:Ad) (H:Hp) (E:XK),aT k (A.deeper (envOfC qual (c7 st) s.heap.objs.size f a))->X4 (TU CX0 P w K mg base N qual (c7 st) f a A outer s H E).nox (bT st) (WZ K ml g)):bZ P w K mg base CX0 (k+1) f fd ps (spV K ml ps.length (bC N.length ml g)):=by obtain⟨q,od,kV,doc,p,u,a,ct,i,rfl,j,d⟩:=F.ex;refine BO j d S (λe H Q E h=>?_) λA outer s H e Q E l b=>⟨_,(o a A outer s H E l).nox,Wm c b⟩;obtain⟨Z,t,r,os,m,AV,_⟩:=h;rw[AV.len,m]
def LA.binds{x qual:Uq}{st:Vb}{T f:Up}{fd:Bq}{ps:List Uq}{o:Vc}{b:Array Uo}{n m:Nat}{ds:List Uo}(F:LA K x qual st (.ref T) f fd)(g:K.lookup T=ba o)(hs:o.data=.seq b n)(h:∀(kV doc c:Uo) (d:Option Up) (a ct:Uo) (us:List Uo),us.length=m->∃k,bindArgs (Hi x qual (a7 st) (bT st) (c7 st) (.ref T) kV doc c d a ct) ⟨us,[]⟩=Pf (.ref T)>>=k/\k (ba b)=pure (ps.zip (us++ds)))(t:m+ds.length=ps.length:=by rfl):YZ K fd ps ds:=by obtain⟨q,od,kV,doc,c,d,a,ct,e,rfl,r,i⟩:=F.ex;intro s us j hl;obtain⟨k,p,l⟩:=h kV doc c d a ct us (by rw[Be]at hl;lia);exact BindsTo.of_defaults rfl (j _ _ g) hs p l
end
section
variable{X:Cx}{K:Ag}{ml:List Nat}{e a b c:Uv}{es:List Uv}{pa ta ia pb tb ib pc tc ic pu bt bi ps bs:Bool}{fa fb fc f:VF}{pos p':Pos}{d:cZ}{x:Uq}
def vv(i:Nat)(d:X.N[i]?=ba x:=by rfl)(b:Vis X.env.scope x:=by first|exact Fj rfl|exact Eg (Fj rfl)|exact Eg (Eg rfl))(c:ND x:=by decide)(a:(x==("__classdict__":Uq))=be:=by decide):PE X (.Name x pos) (TV K ml bc bc bc (fV i)):=kH (D9 d b c a)
def vo(i:Nat)(d:X.N[i]?=ba x:=by rfl)(b:Vis X.env.scope x:=by first|exact Fj rfl|exact Eg (Fj rfl)|exact Eg (Eg rfl))(c:ND x:=by decide)(a:(x==("__classdict__":Uq))=be:=by decide):PE X (.Name x pos) (TV K ml bc be bc (fO i)):=jT (D9 d b c a)
def UM(d:X.A.units+1<cLine)(f:PE X a (TV K ml pa ta ia fa))(e:PE X b (TV K ml pb tb ib fb))(g:X.K=K:=by rfl)(c:PB b:=by exact λ_ _=>rfl)(hs:(pb || (ta&&ia))=bc:=by rfl):PE X (.Subscript a b pos) (TV K ml (pa&&pb) ia ia (f2 aL fa fb)):=
 Zi (kIxA d g) oP f e c hs
def veq(c:X.A.units+64<cLine)(e:PE X a (TV K ml pa ta ia fa))(d:PE X b (TV K ml pb tb ib fb))(f:X.K=K:=by rfl)(hs:(pb || (ta&&ia))=bc:=by rfl):PE X (.Compare a [.Eq] [b] pos) (TV K ml (pa&&pb) bc bc (f2 X8 fa fb)):=
 XB (kEqD c f) s_eq e d (V5 _) hs
def Y2(c:X.A.units+64<cLine)(e:PE X a (TV K ml pa ta ia fa))(d:PE X b (TV K ml pb tb ib fb))(f:X.K=K:=by rfl)(hs:(pb || (ta&&ia))=bc:=by rfl):PT X (.Compare a [.Eq] [b] pos) (TB K ml (pa&&pb) (fB (f2 X8 fa fb))):=
 bU (kEqD c f) s_eq e d (V5 _) hs
def bL{d j n:Nat}{f:List Uq}{a:List Nat}{F:bR}{o:Up}{fs:UL}(D:Def X.prog X.w K X.mg X.base x d f (spV K a n F) o)(g:aT j X.A)(l:PA X (e::es) (NI K ml ps fs))(m:X.K=K:=by rfl)(h:d<=j:=by decide)(i:Gl X x:=by rfl)(c:ND x:=by decide)(k:SE X e es:=by rfl)(b:(Co pos (Us es X.env)).any (·.1)=be:=by rfl):PE X (.Call (.Name x p') (e::es) [] pos) (TV K ml (ps&&a.isEmpty) bc bc (cE n a F fs)):=qC m D g h i l c k b
def YH(b:X.mg "len"=bb)(e:PE X a (TV K ml pa ta ia fa))(f:X.K=K:=by rfl)(c:Gl X "len":=by rfl)(d:SE X a []:=by rfl):PE X (.Call (.Name "len" p') [a] [] pos) (TV K ml pa bc bc (f1 ZC fa)):=
 RK (rC f) uT c b DE e (by decide) (by decide) d
def G3{n:String}(c:X.mg x=bb)(a:Bm x=ba (.type n))(d:Gl X x:=by rfl)(b:x≠ "__name__":=by decide)(e:ND x:=by decide):PE X (.Name x pos) (TV K ml bc bc bc (fC (.ty n))):=
 A1 (iY (v:=.ty n) d c a rfl b e) λ_ _ _=>.ty _
def NH(e:X.mg "isinstance"=bb)(i:PE X a (TV K ml pa ta ia fa))(h:PE X b (TV K ml pb tb ib fb))(j:X.K=K:=by rfl)(f:Gl X "isinstance":=by rfl)(g:SE X a [b]:=by rfl)(d:SE X b []:=by rfl)(c:(Co pos (Us [b] X.env)).any (·.1)=be:=by rfl)(hs:(pb || (ta&&ia))=bc:=by rfl):PE X (.Call (.Name "isinstance" p') [a,b] [] pos) (TV K ml (pa&&pb) bc bc (f2 UD fa fb)):=YG (kIsi j) sF f e b8 i h (by decide) (by decide) g d c hs
end
section
variable{x:Uq}{st:Vb}{d:Option Up}{M:Vj}
def A4(K:Ag)(x:Uq)(st:Vb)(f:Up):Prop:=∃(d:Uo) (od:Option Up) (kV doc c:Uo) (e:Option Up) (a ct:Uo) (b:Array (Option Uo)),Cq K Ur x=ba (ba (.ref f))∧
 K.lookup f=ba ⟨d,od,.func (Hi x x (a7 st) (bT st) (c7 st) .none kV doc c e a ct),b⟩/\Kn K a x=bc/\Fh K (.ref f)=bc
def a4{K:Ag}{f:Up}{i:Uo}{od:Option Up}{kV doc h:Uo}{j:Option Up}{e ct:Uo}{g:Array (Option Uo)}(a:Cq K Ur x=ba (ba (.ref f)))(b:K.lookup f=ba ⟨i,od,.func (Hi x x (a7 st) (bT st) (c7 st) .none kV doc h j e ct),g⟩)(c:Kn K e x=bc)(d:Fh K (.ref f)=bc):A4 K x st f:=⟨i,od,kV,doc,h,j,e,ct,g,a,b,c,d⟩
def ZN{P:Ao}{w:Uw}{K:Ag}{mg:Uq->Option Uo}{base h:Uy}{f:Up}{ps:List Uq}{sp:Sp}{k:Nat}(X:K.In h)(G:h.Ns Ur mg)(p:A4 K x st f)(ok:∀{fd:Bq},aC K x x st f fd->bZ P w K mg base CX0 k f fd ps sp)(l:∀{kV doc g:Uo}{i:Option Up}{e ct:Uo}(us:List Uo),us.length=ps.length->bindArgs (Hi x x (a7 st) (bT st) (c7 st) .none kV doc g i e ct) ⟨us,[]⟩=pure (ps.zip us)):Def P w K mg base x k ps sp f:=by obtain⟨m,od,kV,doc,g,i,e,ct,j,a,b,c,d⟩:=p;have U:=QX (st:=st) b c d;exact⟨Cm X G a,⟨_,ok U,U.binds λ_ _ _ _ _ _=>l⟩,d⟩
def W7(P:Ao)(w:Uw)(K:Ag)(mg:Uq->Option Uo)(base:Uy){qual:Uq}{f:Up}{fd:Bq}(N ps:List Uq)(k:Nat)(g:VS)(ml:List Nat)(F:aC K x qual st f fd)(S:cO N ps (c7 st))(d:∀(a:Uo) (A:Bp) (outer:List Env) (s:Ad) (H:Hp) (E:XK) (b:aT k (A.deeper (envOfC qual (c7 st) s.heap.objs.size f a))) (_:(A.deeper (envOfC qual (c7 st) s.heap.objs.size f a)).units+64<cLine) (_:(A.deeper (envOfC qual (c7 st) s.heap.objs.size f a)).units+1<cLine),X4 (TU CX0 P w K mg base N qual (c7 st) f a A outer s H E).nox (bT st) (WZ K ml g))(c:ps.length<=N.length:=by decide):bZ P w K mg base CX0 (k+1) f fd ps (spV K ml ps.length (bC N.length ml g)):=
 aC.okV F S c λa A outer s H E b=>d a A outer s H E b b.units (BR b)
def bE{N P:List Uq}{h:Vd}(a:h.kind=.function:=by rfl)(b:h.isCoroutine=be:=by rfl)(c:h.isGenerator=be:=by rfl)(d:N.Nodup:=by decide+kernel)(e:N.take P.length=P:=by rfl)(f:∀x∈P,h.names.lookup x=ba .local∨h.names.lookup x=ba .cell:=by decide+kernel)(g:∀y∈h.names,y.2≠Bk:=by decide+kernel):cO N P h:=⟨a,b,c,d,e,f,g⟩
def KD{b:Type}:Vg b->Prop
 |.pure _=>True
 |.raise _=>True
 |.unsupported _=>True
 |.finish _=>True
 |.rule _ k=>KD (k ())
 |.at _ k=>KD (k ())
 |.load _ _ k=>∀o,KD (k o)
 |.update _ _ f k=>(∀o,(f o).dict=o.dict)/\KD (k ())
 |.alloc _ k=>∀a,KD (k a)
 |.loadIfAlive _ k=>∀o,KD (k o)
 |.point _ k=>KD (k ())
 |.stack k=>∀l,KD (k l)
 |.fresh k=>∀l,KD (k l)
 |.ask k=>∀l,KD (k l)
 |.handled _ k=>∀l,KD (k l)
 |_=>False
def Dc(e:Up)(d:Option Up)(h:Uy):Prop:=∃o,h.objs[e]?=ba o/\o.dict=d
def Dc.of{e:Up}{h:Uy}{o:Vc}(q:h.get? e=ba o):Dc e o.dict h:=⟨o,(Pj.mp q).1,rfl⟩
theorem Dc.at{e:Up}{d:Option Up}{h:Uy}{o:Vc}(D:Dc e d h)(q:h.get? e=ba o):o.dict=d:=by obtain⟨c,a,b⟩:=D;rw[(Pj.mp q).1]at a;cases a;exact b
def Dc.upd{e a:Up}{h:Uy}{f:Vc->Vc}(D:Dc e d h)(i:∀o,(f o).dict=o.dict):Dc e d (h.update a f):=by
 obtain⟨o,g,c⟩:=D;cases h;simp only[Dc,Heap.update,Array.getElem?_modify];by_cases b:a=e;subst b;exact⟨f o,by rw[if_pos rfl,g];rfl,(i o).trans c⟩;exact⟨o,by rw[if_neg b];exact g,c⟩
def Dc.push{e:Up}{h:Uy}(o:Vc)(D:Dc e d h):Dc e d (h.push o):=by obtain⟨b,a,c⟩:=D;cases h;refine⟨b,?_,c⟩;simp only[Heap.push,Array.getElem?_push];rw[if_neg (Ap (Kk.mp a).1)];exact a
def gY{i:Type}{j:PySem.Ctx}{e:Up}{E:Uo->Pos->Ad->Prop}:∀(t:Vg i) (Q:i->Pos->Ad->Prop) (p:Pos) (s:Ad),KD t->Dc e d s.heap->Sem.wp M j t Q E p s->Sem.wp M j t (λa p m=>Q a p m/\Dc e d m.heap) E p s:=by
 intro t;induction t with
 |pure a=>intro Q p s _ D h;simp only[Sem.wp_pure]at h⊢;exact⟨h,D⟩
 |raise v=>intro Q p s _ D h;simp only[Sem.wp_raise]at h⊢;exact h
 |unsupported w=>intro Q p s _ D h;simp only[Sem.wp_unsupported]at h
 |finish w=>intro Q p s _ D h;simp only[Sem.wp_finish]at h
 |rule g k c=>intro Q p s K D h;simp only[Sem.wp_rule]at h⊢;exact c () Q p s K D h
 | «at» q k c=>intro Q p s K D h;simp only[Sem.wp_at]at h⊢;exact c () Q q s K D h
 |load a b k c=>intro Q p s K D h;rw[Sem.wp_load]at h⊢;obtain⟨o,n,h⟩:=h;exact⟨o,n,c o Q p s (K o) D h⟩
 |update a b f k c=>intro Q p s K D h;rw[Sem.wp_update]at h⊢;exact⟨h.1,c () Q p _ K.2 (D.upd K.1) h.2⟩
 |alloc o k c=>intro Q p s K D h;simp only[Sem.wp_alloc]at h⊢;exact c _ Q p _ (K _) (D.push o) h
 |loadIfAlive a k c=>intro Q p s K D h;simp only[Sem.wp_loadIfAlive]at h⊢;exact c _ Q p s (K _) D h
 |point l k c=>intro Q p s K D h;simp only[Sem.wp_point]at h⊢;exact c () Q p s K D h
 |stack k c=>intro Q p s K D h;rw[Sem.wp]at h⊢;exact c _ Q p s (K _) D h
 |fresh k c=>intro Q p s K D h;simp only[Sem.wp_fresh]at h⊢;exact c _ Q p _ (K _) D h
 |ask k c=>intro Q p s K D h;simp only[Sem.wp_ask]at h⊢;exact c _ Q p s (K _) D h
 |handled o k c=>intro Q p s K D h;simp only[Sem.wp_handled]at h⊢;exact c _ Q p s (K _) D h
 |_=>intro Q p s K;exact K.elim
def OB{f:Type}{A:Bp}{e:Up}{E:Uo->Ad->Prop}{t:Vg f}{Q:f->Ad->Prop}{s:Ad}(K:KD t)(D:Dc e d s.heap)(h:Ut M A t (λa b=>Dc e d b.heap->Q a b) E s):Ut M A t Q E s:=λg p c=>
 Sem.wp_mono M g t (λa p b z=>z.1 z.2) (λ_ _ _ z=>z) p s (gY t _ p s K D (h g p c))
def KD.bind{d e:Type}{f:d->Vg e}:∀{m:Vg d},KD m->(∀a,KD (f a))->KD (m>>=f):=by
 intro m;show KD m->_->KD (Sem.bind m f);induction m with
 |pure a=>intro _ h;exact h a
 |raise v=>intro _ h;exact trivial
 |unsupported w=>intro _ h;exact trivial
 |finish w=>intro _ h;exact trivial
 |rule g k c=>intro K h;exact c () K h
 | «at» q k c=>intro K h;exact c () K h
 |load a b k c=>intro K h o;exact c o (K o) h
 |update a b f k c=>intro K h;exact⟨K.1,c () K.2 h⟩
 |alloc o k c=>intro K h a;exact c a (K a) h
 |loadIfAlive a k c=>intro K h o;exact c o (K o) h
 |point l k c=>intro K h;exact c () K h
 |stack k c=>intro K h l;exact c l (K l) h
 |fresh k c=>intro K h l;exact c l (K l) h
 |ask k c=>intro K h l;exact c l (K l) h
 |handled o k c=>intro K h l;exact c l (K l) h
 |_=>intro K;exact K.elim
def mE(f:Array Uo->Array Uo)(o:Vc):(Lx f o).dict=o.dict:=by unfold Lx;split<;>rfl
def KD.field(v:Uo)(i:Nat):KD (field v i):=by unfold PySem.field fieldsOf;repeat (first|exact trivial|exact λ_=>trivial|with_reducible refine KD.bind ?_ ?_|intro _|split)
def KD.setField(v:Uo)(i:Nat)(x:Uo):KD (setField v i x):=by unfold Su updateField;repeat (first|exact trivial|exact⟨mE _,trivial⟩|exact λ_=>trivial|with_reducible refine KD.bind ?_ ?_|intro _|split)
def KD.flight(e:Uo)(f:Option Up):KD (setFlight e f):=by unfold setFlight;repeat (first|exact trivial|exact KD.field _ _|exact KD.setField _ _ _|with_reducible refine KD.bind ?_ ?_|intro _|split)
theorem KD.ready:∀l:List Env,KD (readyFrames l)
 |[]=>trivial
 |c::a=>by have b:=KD.ready a;unfold readyFrames behindIsImport keptBack;repeat (first|exact trivial|exact b|exact KD.field _ _|exact⟨λ_=>rfl,trivial⟩|exact λ_=>trivial|with_reducible refine KD.bind ?_ ?_|intro _|split)
def KD.frameOf(env:Env):KD (Pk env):=by have a:=KD.ready;unfold Pk frameObject frameEnvs;repeat (first|exact trivial|exact a _|exact λ_=>trivial|with_reducible refine KD.bind ?_ ?_|intro _|split)
def KD.place(f:Up)(b:Bool):KD (Qv f b):=by unfold Qv;repeat (first|exact trivial|exact λ_=>trivial|with_reducible refine KD.bind ?_ ?_|intro _|split)
def KD.entry(a b c d e:Uo)(l:List Uo):KD (Oi a b c d e l):=by show KD (if _ then unsupported _>>=λ_=>Sz _ _ _ else Sz _ _ _);have h:∀x:Data,KD (Sz (.type "traceback") x bb):=λx=>λ_=>trivial;repeat (first|exact trivial|exact h _|split)
def KD.note(e:Uo)(env:Env):KD (Sh e env):=by have c:∀head f,KD (Pk env>>=λa=>Qv f (head != .none)>>=λpl=>Oi head a .none (rawInt f) .none pl>>=λb=>Su e 1 b):=λ_ _=>KD.bind (KD.frameOf _) λ_=>KD.bind (KD.place _ _) λ_=>KD.bind (KD.entry _ _ _ _ _ _) λ_=>KD.setField _ _ _;unfold Sh;repeat (first|exact trivial|exact c _ _|exact KD.field _ _|exact KD.setField _ _ _|exact λ_=>c _ _|with_reducible refine KD.bind ?_ ?_|intro _|split)
def KD.leave(e:Uo)(env:Env):KD (leaving env e):=KD.bind (KD.note e env) λ_=>KD.flight e bb
end
end L2
namespace L2
open PySem PySem.Spec PyProof.Rows PySem.W PySem.Builtin PySem.Builtin.ObjectAttr
abbrev vbs:List Uo:=[.type "ValueError",.type "Exception",.type "BaseException",.type "object"]
structure XA(K:Ag)(C:Up):Prop where
 mro:W.mroIn K C (.type "object")=ba bc
 cls:Ha K (.ref C) "__class__"=ba (ba (.builtin "object.__class__"))
 get:W.specialIn K (.builtin "object.__class__") "__get__"=ba (ba (.builtin "getset_descriptor.__get__"))
 tak:W.takesIn K (.builtin "object.__class__")=ba bc
 ga:Ha K (.ref C) "__getattribute__"=ba (ba (.builtin "BaseException.__getattribute__"))
 no:Ha K (.ref C) "__getattr__"=ba bb
 sub:Qg K (.ref C) (.type "BaseException")=ba bc
structure XG(K:Vh)(C Cp:Up)(nm:Uq):Prop where
 mro:∃cd,clsIn K C=ba cd/\cd.mro=.ref C:: .ref Cp::vbs/\cd.hasDict=bc
 non:findIn K (.ref C) nm=ba bb
 set:findIn K (.ref C) "__setattr__"=ba (ba (.builtin "object.__setattr__"))
def xgOk(K:Vh)(C Cp:Up):Bool:=match clsIn K C with
 |some a=>a.mro== .ref C:: .ref Cp::vbs&&a.hasDict
 |none=>be
def XG.of{K:Vh}{C Cp:Up}{nm:Uq}(h:xgOk K C Cp=bc)(a:findIn K (.ref C) nm=ba bb)(b:findIn K (.ref C) "__setattr__"=ba (ba (.builtin "object.__setattr__"))):XG K C Cp nm:=by
 unfold xgOk at h;split at h;rename_i c hc;simp only[Ae,beq_iff_eq]at h;exact⟨⟨c,hc,h.1,h.2⟩,a,b⟩;cases h
section
variable{prog:Ao}{w:Uw}{A:Bp}{E:Uo->Ad->Prop}{s:Ad}{K:Vh}{x C Cp:Up}{nm:Uq}{vs:Array Uo}{sl:Array (Option Uo)}{v:Uo}
def fK{Q:Unit->Ad->Prop}(X:K.In s.heap)(k:s.heap.get? x=ba ⟨.ref C,bb,.fields vs,sl⟩)(F:XG K C Cp nm)(h:∀h' D tk,(∀b o,b≠x->s.heap.get? b=ba o->h'.get? b=ba o)->s.heap.objs.size<=D->D≠x->h'.get? x=ba ⟨.ref C,ba D,.fields vs,sl⟩->h'.Ns1 D (λy=>if y=nm then ba v else bb)->Q () {s with heap:=h',toks:=tk}):Ut (Uu prog w) A (Ti (.ref x) nm v) Q E s:=by
 obtain⟨a,g,d,t,os⟩:=s;obtain⟨O,hc,B,I⟩:=F.mro;have P:=PySem.F.store_ValueError;have f:=PySem.F.store_object;have l:Looks (Uu prog w) a (Nt (.ref x)) (.ref C):=(Nh k).andThen .now;have U:=Hw (M:=Uu prog w) X F.set;have T:=Hw (M:=Uu prog w) X F.non;have S:Looks (Uu prog w) a (mroOf (.ref C)) O.mro:=(looks_clsIn X hc).andThen .now;have R:=looks_clsIn (M:=Uu prog w) X hc;have sub:Looks (Uu prog w) a (Li (.ref x) (.type "object")) bc:=l.andThen (looks_mroIn X (by unfold mroIn;rw[hc,Ar,B];rfl));unfold Ti;refine Ab (Qw (Ab (Ab (Ab (l.at (U.at (Bf (Ab ?_))))))));rw[f.slot.bind];refine Af (Ab (Ft ?_));refine Fp f.slot.plain f.entry (@check_slot (Uu prog w) _ _ _ "object.__setattr__" "object" "__setattr__" (.ref x) [.str nm t,v] [] _ f.kind f.split sub (f.args (.ref x) (.str nm t) v) ?_);show Ut (Uu prog w) A.in1 (Ey.«object.__setattr__» ⟨[.ref x,.str nm t,v],[]⟩) _ _ ⟨a,g,d,t+1,os⟩;rw[osa_eq,refuse_eq];refine Ab (Ab (l.at (Ab (S.at ?_))));rw[B,refuseLoop_ref,refuseLoop_ref,P.passes];refine Af (Ab (l.at (Ab (T.at (Ab (Af ?_))))));show Ut (Uu prog w) A.in1 (storeInOwnDict (.ref x) (.ref C) (.str nm t) nm v be) _ _ _;refine Ab (Af (Ab ?_));show Ut (Uu prog w) A.in1 (instanceDict x bc) _ _ _;unfold instanceDict;refine Ab (Kq k ?_);dsimp only;refine Ab (R.at ?_);rw[I];have c:x≠a.objs.size:=Ap (Aj k);have i:=Ac {cls:=.type "dict",data:=.dict #[]} k;show Ut (Uu prog w) A.in1 (alloc {cls:=.type "dict",data:=.dict #[]}>>=_) _ _ _;refine Ab (wpAny_alloc (Ab (wpAny_update i ?_)));show Ut (Uu prog w) A.in1 (pure (ba a.objs.size)) _ _ _;refine Af ?_;show Ut _ _ (storeInDict a.objs.size (.str nm t) nm v) _ _ _;have p:((a.push {cls:=.type "dict",data:=.dict #[]}).update x λo=>{o with dict:=ba a.objs.size}).get? a.objs.size=ba {cls:=.type "dict",data:=.dict #[]}:=
  (Cz _ _ c).trans (Heap.get?_push_at rfl rfl)
 have n:((a.push {cls:=.type "dict",data:=.dict #[]}).update x λo=>{o with dict:=ba a.objs.size}).get? x=ba ⟨.ref C,ba a.objs.size,.fields vs,sl⟩:=Gv _ i rfl;have hnd:((a.push {cls:=.type "dict",data:=.dict #[]}).update x λo=>{o with dict:=ba a.objs.size}).Ns a.objs.size (λ_=>bb):=⟨_,#[],_,p,rfl,λe H=>absurd H (by simp),λ_=>rfl⟩;unfold storeInDict newKeyGuard;refine Ab (Af (Ab (wpAny_nsSet1 (Px hnd) λh' j z=>?_)));obtain⟨V,L,N,m,r,u⟩:=j.count (Within.cons nm v Within.nil);refine Ab (wpAny_lookBehind m (by rw[r];exact pastItsLine_dict (Dq u (by show 1<=_;rw[Bg];lia))) ?_);exact Af (Af (Af (h h' a.objs.size _ (λb o J q=>(z.2 b (Ap (Aj q))).trans ((Cz _ _ (Dm J)).trans (Ac _ q))) (Am _) c.symm ((z.2 x c).trans n) j)))
def oK{a:Vc}{D:Up}{m:Uq->Option Uo}{Q:Uo->Ad->Prop}{f:Bool}(X:K.In s.heap)(n:s.heap.get? x=ba a)(b:a.cls=.ref C)(u:a.data=.fields vs)(i:a.dict=ba D)(B:s.heap.Ns1 D m)(o:m nm=ba v)(r:handedIn v=bc)(F:XG K C Cp nm)(G:XA K C)(h:Q v {s with toks:=s.toks+1}):Ut (Uu prog w) A (Th (.ref x) nm f) Q E s:=by
 obtain⟨c,g,d,t,os⟩:=s;obtain⟨U,hc,S,y⟩:=F.mro;obtain⟨l,L,J⟩:=JZ B;have I:InstAt c x a C (ba l):=⟨n,b,by unfold notCls;rw[u],by rw[i];exact L⟩;have e:Looks (Uu prog w) c (Nt (.ref x)) (.ref C):=b▸(Nh n).andThen .now;have R:=Hw (M:=Uu prog w) X G.ga;have P:=Hw (M:=Uu prog w) X G.no;have O:=looks_subIn (M:=Uu prog w) X G.sub;have N:Looks (Uu prog w) c (find (.ref x) (.ref C) nm) (.value v):=looks_find X I (by unfold findObj;rw[hc,Ar,F.non,Ar];dsimp only;rw[Ar,Ar];dsimp only;unfold W.ownOf;rw[y,if_pos rfl];show(lookIn nm l).bind _=_;rw[J,o];rfl);have H:=PySem.F.excAttr_ValueError.ga.bind (.ref x);have q:builtinKind "BaseException.__getattribute__"=ba .slot:=by decide+kernel
 have p:splitId "BaseException.__getattribute__"=ba ("BaseException","__getattribute__"):=by decide+kernel
 have T:=Nk (.ref x) (.str nm t);unfold Th getAttrBy;refine Ab (Qw (Bf (Ab (e.at (Ab (R.at ?_))))));show Ut _ _ (Kc _ _ _ _ _ _) _ _ _;unfold Kc hookBefore callGetattribute boundAndCalled;repeat (any_goals (first|assumption|with_reducible refine Looks.at e ?_|with_reducible refine Looks.at P ?_|wp_step))
 rw[show(f&&onTheHeap (Tq "BaseException.__getattribute__"))=be by cases f<;>rfl,H,if_neg (by decide)];refine Ab (Af (Ft (Fp PySem.F.excAttr_ValueError.ga.plain My (Aw (Q:=λ_ k=>k=⟨c,g,d,t+1,os⟩) ?_ (λ_ k z=>?_) λ_ _ z=>z))))
 ·show Ut _ _ (Md "BaseException.__getattribute__" ⟨[.ref x,.str nm t],[]⟩) _ _ _
  simp only[Md,q,p];unfold Li;repeat (any_goals (first|rfl|assumption|with_reducible refine PySem.W.Looks.at e ?_|with_reducible refine PySem.W.Looks.at O ?_|wp_step))
 ·subst z
  show Ut _ _ (Ey.«object.__getattribute__» ⟨[.ref x,.str nm t],[]⟩) _ _ _;unfold Ey.«object.__getattribute__»;repeat (any_goals (first|assumption|with_reducible refine Looks.at e ?_|with_reducible refine Looks.at N ?_|wp_step))
  exact handed_on r h
end
structure XH(K:Vh)(Cp:Up):Prop where
 met:specialIn K (.ref Cp) "__getattribute__"=ba (ba (.builtin "type.__getattribute__"))
 rd:readsIn K Cp (.type "type")=bc
 ini:findCls K (.ref Cp) (.type "type") "__init__"=ba (.val (.builtin "ValueError.__init__"))
section
variable{prog:Ao}{w:Uw}{A:Bp}{E:Uo->Ad->Prop}{s:Ad}{K:Vh}{x C Cp N:Up}{nm q:Uq}{v:Uo}{bs bm:List Uo}{hdct:Bool}{sn:List Uq}{sub:List Uo}{ab:Bool}{col:Option Bool}{dd:Option Up}{k0 k1 k2 k3 k5:Option Uo}{cn:Uq}
abbrev NB(C t:Up)(d:Option Up):Vc:={cls:=.ref C,dict:=d,data:=.fields #[.ref t,.none,.none,.none,.bool be,.none]}
def dQ{f:Up}{u:Uo}{Q:Uo->Ad->Prop}(k:s.heap.get? C=ba (Gx cn q C N bs bm hdct sn sub ab col dd k0 k1 k2 k3 k5 "ValueError.__new__"))(T:Oj s.heap vbs bm)(a:s.heap.get? x=ba (NB C f bb))(h:∀h' t1,(∀b o,b≠x->s.heap.get? b=ba o->h'.get? b=ba o)->s.heap.objs.size<=h'.objs.size->s.heap.get? t1=bb->h'.get? x=ba (NB C t1 bb)->Q .none {s with heap:=h'}):Ut (Uu prog w) A (call (.builtin "ValueError.__init__") [.ref x,u]) Q E s:=by
 obtain⟨c,g,d,t,os⟩:=s;have F:=Hk;refine Ft (Fp F.init.plain F.initEntry (wpAny_check_init_subT F T k a rfl ?_));wp_walk;have i:x≠c.objs.size:=Ap (Aj a);refine h _ c.objs.size (λb o j q=>?_) ?_ (Jm (Am _)) ?_;rw[Cz _ _ (Dm j)];exact Ac _ q;rw[Rg,Cb];exact Gq _;exact Gv _ (Ac _ a) rfl
variable{env:Env}{m mg:Uq->Option Uo}{txt:Uq}{j:Nat}{p1 p2 p3 p4 p5 p6 p7 p8 p9 p10:Pos}
def nV{M:Up}{u:Uo}{pl:Vg Bool}{Q:Flow->Ad->Prop}(a:env.scope.kind=.function)(hs:env.kindOf "self"=ba .local)(V:env.kindOf nm=ba .local)(Y:env.kindOf "PackError"=ba .globalImplicit)(L:s.heap.Ns env.locals m)(p:m "self"=ba (.ref x))(R:m nm=ba u)(G:s.heap.Ns env.globals mg)(g1:mg "PackError"=ba (.ref Cp))(k:env.locals≠x)(U:env.globals≠x)(X:K.In s.heap)(XI:∀h':Uy,(∀b o,b≠x->s.heap.get? b=ba o->h'.get? b=ba o)->K.In h')(hC:s.heap.get? C=ba (Gx cn q C N bs bm hdct sn sub ab col dd k0 k1 k2 k3 k5 "ValueError.__new__"))(hCx:C≠x)(T:Oj s.heap vbs bm)(S:s.heap.get? x=ba (NB C M bb))(F:XG K C Cp nm)(W:XH K Cp)(Z:eval (.Call (.Attribute (.Name "PackError" p1) "__init__" p2) [.Name "self" p3,.Constant (.str txt) j p4] [] p5) env=(do
   let n<-eval (.Name "PackError" p1) env
   Gk p2.atName
   let (f,first)<-Ia [n] (Hm n "__init__" pl)
   Jp p5 f first (Co p5 (Us [.Name "self" p3,.Constant (.str txt) j p4] env)) (Ej p5 (Ck [] env))))
  (i:Va (.Call (.Attribute (.Name "PackError" p1) "__init__" p2) [.Name "self" p3,.Constant (.str txt) j p4] [] p5) bb p6.line env=pure be) (g:Va (.Name nm p9) (ba (.Attribute (.Name "self" p7) nm p8)) p10.line env=pure be)
  (l:(nm==("__debug__":Uq))=be)
  (h:∀h' t1 D tk,(∀b o,b≠x->s.heap.get? b=ba o->h'.get? b=ba o)->s.heap.get? t1=bb->s.heap.objs.size<=D->h'.get? x=ba (NB C t1 (ba D))->h'.Ns1 D (λy=>if y=nm then ba u else bb)->D≠x->Q .next {s with heap:=h',toks:=tk}):
  Ut (Uu prog w) A (execs [.Expr (.Call (.Attribute (.Name "PackError" p1) "__init__" p2) [.Name "self" p3,.Constant (.str txt) j p4] [] p5) p6,.Assign [.Attribute (.Name "self" p7) nm p8] (.Name nm p9) p10] env) Q E s:=by
 refine Jk (wpAny_Expr_any ?_ (by simp[Ry,a]) i);refine methodCall_KW (pl:=pl) (Hg a Y (Lo G g1 ?_)) Z;refine method_cls X W.met (cls_value X W.rd W.ini (by decide+kernel) ?_);refine Eh rfl (Ed (x:=eval (.Name "self" p3) env) (rest:=[(be,eval (.Constant (.str txt) j p4) env)]) ?_);refine Gi (Kz (Hl a hs L p ?_));refine Gi (Ot (Ix ?_));refine dQ hC T S λz t1 k1 H P J=>?_;refine Jk (Fx ?_ g);have B:z.Ns env.locals m:=by obtain⟨o,es,ep,e,r⟩:=L;exact⟨o,es,ep,k1 _ _ k e,r⟩
 refine Kz (Hl a V B R ?_) l;refine Kz (Hl a hs B p ?_);refine fK (XI z k1) J F λh2 D tk k2 O d I c=>Gm (h h2 t1 D tk (λb o v q=>k2 b o v (k1 b o v q)) P (Dq H O) I c d)
structure LB(K:Vh)(qual:Uq)(st:Vb)(nm txt:Uq)(f:Up)(fd:Bq):Prop where
 fn:aC K "__init__" qual st f fd
 sc:cO ["self",nm] ["self",nm] (c7 st)
 bd:YZ K fd ["self",nm] []
 s1:(c7 st).names.lookup ("self":Uq)=ba .local
 s2:(c7 st).names.lookup nm=ba .local
 s3:(c7 st).names.lookup ("PackError":Uq)=ba .globalImplicit
 ne:(nm==("self":Uq))=be
 db:(nm==("__debug__":Uq))=be
 tx:∃(p1 p2 p3 p4 p5 p6 p7 p8 p9 p10:Pos) (j:Nat) (pl:Up->Uo->Vg Bool),bT st=[.Expr (.Call (.Attribute (.Name "PackError" p1) "__init__" p2) [.Name "self" p3,.Constant (.str txt) j p4] [] p5) p6,.Assign [.Attribute (.Name "self" p7) nm p8] (.Name nm p9) p10]∧
  (∀L cd,eval (.Call (.Attribute (.Name "PackError" p1) "__init__" p2) [.Name "self" p3,.Constant (.str txt) j p4] [] p5) (envOfC qual (c7 st) L f cd)=(do
   let ov<-eval (.Name "PackError" p1) (envOfC qual (c7 st) L f cd)
   Gk p2.atName
   let (f1,first)<-Ia [ov] (Hm ov "__init__" (pl L cd))
   Jp p5 f1 first (Co p5 (Us [.Name "self" p3,.Constant (.str txt) j p4] (envOfC qual (c7 st) L f cd))) (Ej p5 (Ck [] (envOfC qual (c7 st) L f cd)))))∧
  (∀L cd,Va (.Call (.Attribute (.Name "PackError" p1) "__init__" p2) [.Name "self" p3,.Constant (.str txt) j p4] [] p5) bb p6.line (envOfC qual (c7 st) L f cd)=pure be)/\∀L cd,Va (.Name nm p9) (ba (.Attribute (.Name "self" p7) nm p8)) p10.line (envOfC qual (c7 st) L f cd)=pure be
def lI{qual:Uq}{st:Vb}{fI:Up}{fd:Bq}{J:Up}{u:Uo}{R:Tx->Ad->Prop}(O:A.depth<Eu)(I:LB K qual st nm txt fI fd)(X:K.In s.heap)(Xx:K.lookup x=bb)(l:s.heap.NoLimit)(G:s.heap.Ns Ur mg)(Y:mg "PackError"=ba (.ref Cp))(B:s.heap.get? C=ba (Gx cn q C N bs bm hdct sn sub ab col dd k0 k1 k2 k3 k5 "ValueError.__new__"))(T:Oj s.heap vbs bm)(f:s.heap.get? x=ba (NB C J bb))(F:XG K C Cp nm)(W:XH K Cp)(h:∀h' t1 D tk,(∀b o,b≠x->s.heap.get? b=ba o->h'.get? b=ba o)->s.heap.get? t1=bb->s.heap.objs.size<=D->h'.get? x=ba (NB C t1 (ba D))->h'.Ns1 D (λy=>if y=nm then ba u else bb)->D≠x->R (.ok (.ret .none)) {s with heap:=h',toks:=tk}):Gg (Uu prog w) A (.call (.ref fI) ⟨[.ref x,u],[]⟩) R s:=by
 obtain⟨oc,od,kV,doc,pm,an,a,ct,L,rfl,M,r⟩:=I.fn.ex;have Z:∀y∈(["self",nm]:List Uq).zip [An x,u],(c7 st).names.lookup y.1=ba .local∨((c7 st).names.lookup y.1=ba .cell/\((Ve (s.heap.objs.size+1) (c7 st).names []).lookup y.1).isSome=bc):=λ⟨n,v⟩ P=>by
  rcases I.sc.par n (Ii P).1 with q|q;exact .inl q;exact .inr ⟨q,PySem.W.cellsFrom_some _ _ _ (.inl q)⟩
 have t:=I.bd s [.ref x,u] X rfl;refine Jg O (X _ _ M) rfl I.sc.co I.sc.gen rfl (PySem.W.codeRec_of X r) (t _ _ _ _ ?_);refine Hj I.sc.kind Z λenv Q s1 d=>?_;subst Q;refine⟨l.keeps d.toInCall.keep,Qs ?_⟩;obtain⟨p1,p2,p3,p4,p5,p6,p7,p8,p9,p10,j,pl,ai,V,U,S⟩:=I.tx;have c:=d.toInCall.keep;obtain⟨p,H,g⟩:=d.toInCall.same;subst g;show Ut _ _ (execs (bT st) (envOfC qual (c7 st) s.heap.objs.size fI a)) _ _ _;rw[ai];have q1:(envOfC qual (c7 st) s.heap.objs.size fI a).kindOf "self"=ba .local:=I.s1;have q2:(envOfC qual (c7 st) s.heap.objs.size fI a).kindOf nm=ba .local:=I.s2;refine nV (m:=bindL (envOfC qual (c7 st) s.heap.objs.size fI a).kindOf ((["self",nm]:List Uq).zip [An x,u]) λ_=>bb) (mg:=mg) (x:=x) (u:=u) (Cp:=Cp) (K:=K) I.sc.kind I.s1 I.s2 I.s3 d.toInCall.ns ?_ ?_ (G.keeps c) Y ?_ ?_ (X.keeps c) ?_ (c _ _ B) ?_ (T.keeps c) (c _ _ f) F W (V _ _) (U _ _) (S _ _) I.db ?_;simp only[Pl,Pm,bindL,q1,q2,if_pos];rw[if_neg (λz=>by have:=I.ne;rw[<-z]at this;simp at this)];simp only[Pl,Pm,bindL,q1,q2,if_pos];exact λz=>absurd (Aj f) (by rw[show x=s.heap.objs.size from z.symm];exact Di _);intro z;obtain⟨o,es,ep,g,e2,_⟩:=G;rw[show Ur=x from z,f]at g;cases g;cases e2;intro h' k b o e;exact k b o (λz=>by rw[z,Xx]at e;cases e) (X.keeps c b o e);intro z;rw[z,f]at B;cases B;intro h' t1 D tk c1 c2 c3 c4 c5 c6;have i:∀b,p.get? b=bb->s.heap.get? b=bb:=λb z=>by
  cases e:s.heap.get? b with
  |none=>rfl
  |some o=>
   have:=c b o e
   rw[show p.get? b=bb from z]at this;cases this
 have big:s.heap.objs.size<=p.objs.size:=by obtain⟨o,es,ep,e,_⟩:=d.toInCall.ns;exact Km (Pe d.toInCall.fresh (Aj e))
 exact h h' t1 D tk (λb o t q=>c1 b o t (c b o q)) (i _ c2) (Dq big c3) c4 c5 c6
end
structure A9(h h':Uy)(e C:Up)(nm:Uq)(u:Uo):Prop where
 keeps:∀b o,h.get? b=ba o->h'.get? b=ba o
 new:h.get? e=bb
 there:∃t D,h'.get? e=ba (NB C t (ba D))/\h.get? t=bb/\h.objs.size<=D/\D≠e/\h'.Ns1 D (λy=>if y=nm then ba u else bb)
section
variable{prog:Ao}{w:Uw}{A:Bp}{E:Uo->Ad->Prop}{s:Ad}{K:Vh}{C Cp N:Up}{nm q:Uq}{v:Uo}{bs bm:List Uo}{hdct:Bool}{sn:List Uq}{sub:List Uo}{ab:Bool}{col:Option Bool}{dd:Option Up}{k0 k1 k2 k3 k5:Option Uo}{cn qual txt:Uq}
 {mN mg:Uq->Option Uo}{fI:Up}{st:Vb}{fd:Bq}{u:Uo}
def Zx{Q:Fin->Ad->Prop}(m:A.depth+1<Eu)(l:K.In s.heap)(k:s.heap.NoLimit)(G:s.heap.Ns Ur mg)(F:mg "PackError"=ba (.ref Cp))(i:s.heap.get? C=ba (Gx cn q C N bs bm hdct sn sub ab col dd k0 k1 k2 k3 k5 "ValueError.__new__"))(v:s.heap.Ns N mN)(y:mN "__init__"=ba (.ref fI))(H:typeIn K (.ref fI)=ba (.type "function"))(j:Oj s.heap vbs bm)(I:LB K qual st nm txt fI fd)(P:XG K C Cp nm)(W:XH K Cp)(h:∀h' e tk,A9 s.heap h' e C nm u->Q (.done (.ret (.ref e))) {s with heap:=h',toks:=tk}):Ut (Uu prog w) A (Ey.«type.__call__» ⟨[.ref C,u],[]⟩) Q E s:=by
 obtain⟨a,g,d,t,os⟩:=s;have B:=Hk;repeat (first|with_reducible refine Hf i ?_|with_reducible refine wpAny_madeBy_exc i ?_|wp_step)
 refine codeAny_call_builtin_code (Io _ B.quiet) (wpAny_check_new_subT B j i (codeAny_exc_new_subT B j i ?_ (by show 1<=sizeLine;decide)));have c:∀b o,a.get? b=ba o->((a.push {cls:=.type "tuple",data:=.seq [u].toArray}).push (NB C a.objs.size bb)).get? b=ba o:=λb o e=>Ac _ (Ac _ e);have p:((a.push {cls:=.type "tuple",data:=.seq [u].toArray}).push (NB C a.objs.size bb)).get? (a.objs.size+1)=ba (NB C a.objs.size bb):=by heap_get
 have J:(An C::bm).contains (.ref C)=bc:=by simp
 have f:=c _ _ i;show Ut _ _ _ _ _ _;unfold Li;repeat (first|with_reducible refine Hf p ?_|(with_reducible refine Ol f ?_;rw[J])|wp_step)
 show Ut _ _ (typeLookup (.ref C) _) _ _ _;refine wpAny_typeLookup_tail f (v.keeps c) (j.keeps c) B.mroIs B.init.lookup ?_;rw[y];refine Bf (Ab ((bind_fn (l.keeps c) _ H).here (Ab (Ft ?_))));have none_of:∀b,a.objs.size<=b->a.get? b=bb:=λb z=>Jm z;have U:K.lookup (a.objs.size+1)=bb:=by
  cases e:K.lookup (a.objs.size+1)with
  |none=>rfl
  |some o=>
   have:=l _ _ e
   rw[show(⟨a,g,d,t,os⟩:Ad).heap.get? (a.objs.size+1)=bb from none_of _ (Gq _)]at this;cases this
 have back:∀b,((a.push {cls:=.type "tuple",data:=.seq [u].toArray}).push (NB C a.objs.size bb)).get? b=bb->a.get? b=bb:=λb z=>by
  cases e:a.get? b with
  |none=>rfl
  |some o=>rw[c b o e]at z;cases z
 refine lI (x:=a.objs.size+1) (u:=u) (C:=C) (mg:=mg) (Lj m) I (l.keeps c) U (k.keeps c) (G.keeps c) F f (j.keeps c) p P W λh' r D tk T S R O M L=>Af ?_;show Ut _ _ (ret _) _ _ _;refine Af (h h' (a.objs.size+1) tk ⟨λb o e=>T b o (Ap (Nat.lt_succ_of_lt (Aj e))) (c b o e),none_of _ (Gq _),r,D,O,back _ S,Dq (by rw[Cb,Cb];exact Nat.le_succ_of_le (Gq _)) R,L,M⟩)
def fS{Q:Uo->Ad->Prop}(c:A.depth+2<Eu)(m:K.In s.heap)(b:s.heap.NoLimit)(G:s.heap.Ns Ur mg)(n:mg "PackError"=ba (.ref Cp))(a:s.heap.get? C=ba (Gx cn q C N bs bm hdct sn sub ab col dd k0 k1 k2 k3 k5 "ValueError.__new__"))(j:s.heap.Ns N mN)(k:mN "__init__"=ba (.ref fI))(o:typeIn K (.ref fI)=ba (.type "function"))(i:Oj s.heap vbs bm)(I:LB K qual st nm txt fI fd)(P:XG K C Cp nm)(W:XH K Cp)(h:∀h' e tk,A9 s.heap h' e C nm u->Q (.ref e) {s with heap:=h',toks:=tk}):Ut (Uu prog w) A (call (.ref C) [u]) Q E s:=by
 obtain⟨l,g,d,t,os⟩:=s;have f1:=tc_lookup;have f2:=tc_bind (.ref C);have p:(⟨l,g,d,t,os⟩:Ad).TypeIs (.ref C) "type":=⟨_,a,rfl⟩;refine Ft (codeAny_of_tree (show Ut _ _ (callAny (.ref C) _) _ _ _ from ?_));repeat (any_goals (first|assumption|with_reducible refine Hf a ?_|wp_step))
 refine⟨rfl,codeAny_call_builtin_at (Io _ (by decide+kernel)) entry_typeCall (wpAny_check_type_call_sub a ?_)⟩;exact Zx (mg:=mg) (by show A.depth+(Ua "type.__call__" ⟨[An C,u],[]⟩).weight+1<Eu;rw[show(Ua "type.__call__" ⟨[An C,u],[]⟩).weight=1 by kernel_rfl];exact c) m b G n a j k o i I P W λh' e tk M=>h h' e tk M
def kC{x:Uq}{p n pos:Pos}{args:List Uv}{env:Env}{Q:Flow->Ad->Prop}(R:bm.contains (.type "BaseException")=bc)(O:A.handled=bb)(m:A.depth+2<Eu)(pl:(Co n (Us args env)).any (·.1)=be)(h:Ut (Uu prog w) A (eval (.Name x p) env) (λf c=>f=.ref C/\Ut (Uu prog w) A (evalArgs (.ref C) bc (Co n (Us args env)) []) (λa b=>∃u,a=⟨[u],[]⟩/\K.In b.heap/\b.heap.NoLimit/\b.heap.Ns Ur mg/\mg "PackError"=ba (.ref Cp)/\b.heap.get? C=ba (Gx cn q C N bs bm hdct sn sub ab col dd k0 k1 k2 k3 k5 "ValueError.__new__")/\b.heap.Ns N mN/\mN "__init__"=ba (.ref fI)/\typeIn K (.ref fI)=ba (.type "function")/\Oj b.heap vbs bm∧LB K qual st nm txt fI fd/\XG K C Cp nm/\XH K Cp/\∀h' e tk,A9 b.heap h' e C nm u->E (.ref e) {b with heap:=h',toks:=tk}) E c) E s):Ut (Uu prog w) A (exec (.Raise (ba (.Call (.Name x p) args [] n)) bb pos) env) Q E s:=by
 rw[arm_exec_Raise];simp only[evalOpt,Um];refine Ab (Ds ?_);unfold raiseStmt;have X:(An C::bm).contains (.type "BaseException")=bc:=by rw[List.contains_cons,R,Ub]
 refine Ab (Aw (Q:=λv c=>∃e t D,v=.ref e/\c.heap.get? C=ba (Gx cn q C N bs bm hdct sn sub ab col dd k0 k1 k2 k3 k5 "ValueError.__new__")/\c.heap.get? e=ba (NB C t D)/\E (.ref e) c) (Ab (Aw (wpAny_Call_ofName (Aw h (λf c i=>?_) λ_ _ x=>x)) (λv o k=>Ab (Ds (Af k))) λ_ _ x=>x)) (λv c z=>?_) λ_ _ z=>z);obtain⟨rfl,i⟩:=i;unfold Jp;refine Ab (Bf (Aw i (λa b z=>Ab (Ds ?_)) λ_ _ x=>x));obtain⟨u,rfl,S,l,G,U,j,H,J,V,B,I,P,W,z⟩:=z;obtain⟨L,g,d,tk,os⟩:=b;simp only[pl];refine Ab (wpAny_keeperOf_exc j (Ab (fS (mg:=mg) m S l G U j H J V B I P W λh' e tk M=>Ab (Bf (wpAny_point (Af ?_))))));obtain⟨t,D,y,_⟩:=M.there;exact⟨e,t,ba D,rfl,M.keeps _ _ j,y,z h' e tk M⟩
 ·obtain⟨e,t,D,rfl,j,F,T⟩:=z
  obtain⟨L,g,d,tk,os⟩:=c;repeat (first|with_reducible refine Hf F ?_|with_reducible refine Hf j ?_|(with_reducible refine Ol j ?_;rw[X])|wp_step)
  exact wpAny_raiseNew_none O T
end
end L2
namespace L2
open PySem PySem.Spec PyProof.Rows
noncomputable def em2(e a:Uv)(b:Uo)(env:Env):Vg Unit:=do
 let x<-eval a env
 Gk a.pos
 let x<-Ux a env x
 let _<-runOwn (.compStart e 1 (<-Ia [x] (Rz x)) b env) env
noncomputable def twoG(tg iter a:Uv)(ifs:List Uv)(e:Uv)(it b:Uo)(env:Env):Vg Pg:=do
 Gk iter.pos
 match<-pyNext it with
 |none=>pure (.done .next)
 |some v=>
  Go tg it v
  Hh tg env v
  let mut ok:=bc
  for c in ifs do
   if ok then ok<-isTrue c env (eval c env)
  if ok then
   let x<-eval a env
   Gk a.pos
   let x<-Ux a env x
   let _<-runOwn (.compStart e 1 (<-Ia [x] (Rz x)) b env) env
  Ui (.compLoop e 0 it b env)
section
variable{e tg iter tg2 it2:Uv}{ifs ar:List Uv}{ya:Uo}{env:Env}
def Xg{it:Uo}:twoG tg iter it2 ifs e it ya env=Wb iter.pos tg ifs (em2 e it2 ya env) e 0 it ya env:=by unfold twoG Wb em2;simp only[bind_assoc,pure_bind]<;>rfl
def lpL2{a:Uv}{scope:Vd}{pos:Pos}{D:Up}:KR (.ListComp a [⟨tg,iter,ifs,0⟩,⟨tg2,it2,ar,0⟩] scope pos) 0 tg ifs (em2 (.ListComp a [⟨tg,iter,ifs,0⟩,⟨tg2,it2,ar,0⟩] scope pos) it2 (.ref D) env) (.ref D) env:=⟨⟨iter.pos,λ_=>Xg (e:=.ListComp a [⟨tg,iter,ifs,0⟩,⟨tg2,it2,ar,0⟩] scope pos)⟩,λ_ _ _ _ _ _ _ h=>h,λ_ _ _ _ _ _ _ h=>h,λ_=>rfl,_,rfl,rfl⟩
def lpL3{a:Uv}{scope:Vd}{pos:Pos}{D:Up}:KR (.ListComp a [⟨tg,iter,ifs,0⟩,⟨tg2,it2,ar,0⟩] scope pos) 1 tg2 ar (emL D a env) (.ref D) env:=⟨⟨it2.pos,λ_=>rfl⟩,λ_ _ _ _ _ _ _ h=>h,λ_ _ _ _ _ _ _ h=>h,λ_=>rfl,_,rfl,rfl⟩
end
section
variable{Y:Cx}{e it2 tg2:Uv}{ar:List Uv}{wi:TI}{g:TG}{tt:TT}{em:Vg Unit}{tm:TM}{ya:Uo}
inductive TM2(wi:TI)(g:TG)(tt:TT)(tm:TM)(N:St->Hp->Prop)(σ:St)(J:It)(H0:Hp):Prop
 |mk (W:Nat->Nat->St->Hp->Prop) (m:Nat) (h0:W 0 m σ H0) (h1:∀i m σ1 H1,W i m σ1 H1->(J.stop i H1/\N σ1 H1)∨
  (J.go i H1/\ ∃N2:St->Hp->Prop,(∀σ' H',N2 σ' H'-> ∃m',m'<m/\W (i+1) m' σ' H')∧
   ∀x H2,J.yld i H1 x H2->g x σ1 H2 λσ2 H3=>tt σ2 H3 λb H4=>if b=bc then tm σ2 H4 N2 else N2 σ2 H4)):TM2 wi g tt tm N σ J H0
def tm2(wi:TI)(g:TG)(tt:TT)(tm:TM):TM:=λa H N=>wi a H (TM2 wi g tt tm N a)
def Yu(R:Y.xe=λ_ _=>False)(hc:Y.calm=bc)(hi:PI Y tg2 it2 wi)(hg:PG Y tg2 g)(ht:PTs Y ar tt)(L:KR e 1 tg2 ar em ya Y.env)(he:PM Y em tm)(hs:∀x,Ux it2 Y.env x=pure x):PM Y (em2 e it2 ya Y.env) (tm2 wi g tt tm):=by
 intro q s X H N I h;have nx:∀{α:Sort _}{x:Uo}{s:Ad},Y.xe x s->α:=λz=>by rw[R]at z;exact z.elim
 refine Ab (Aw (hi q s X H _ I h) (λv s1 h1=>Ab (Ds (Ab (Of (hs v) (Ab (Bf (Aw h1 (λitv s2 h2=>?_) λ_ _ z=>nx z))))))) λ_ _ z=>nx z);obtain⟨it,O,Z,J,H2,ei,I2,T,K,f2,W,m0,w0,turn⟩:=h2;subst ei;have stat:∀{c:Hp},(∀b∈O,c b=bb)->∀b∈O,K9 Y q c b:=λhn b p=>⟨hn b p,(f2 b p).2⟩;refine Ab (wpAny_runOwn ?_);have loop:∀l:Ad,l=s2->Gg (Uu Y.prog Y.w) Y.A (.compLoop e 1 (.ref it) ya Y.env) (λr E=>match r with|.ok _=>∃a c,cI Y q a c E/\N a c|.error _=>False) l:=by
  rintro l rfl;refine Vr L (λn s'=>∃i a c,cI Y q a c s'/\Z i s'.heap/\(∀b∈O,c b=bb)/\W i n a c) ?_ m0 ⟨0,X,H2,I2,K,λb p=>(f2 b p).1,w0⟩;rintro n s3 ⟨i,k,P,I3,G,M,w3⟩;rcases turn i n k P w3 with⟨F,qn⟩|⟨go,N2,hN,step⟩;refine Aw (T.done Y rfl rfl rfl hc i q s3 k P (λ_ _ => False) I3 (stat M) G F) (λr s4 ⟨S,I4⟩ => ?_) λ_ _ z => z;subst S;exact⟨k,P,I4,qn⟩;refine Aw (T.item Y rfl rfl rfl hc i q s3 k P (λ_ _ => False) I3 (stat M) G go) (λr s4 ⟨u,S,h4⟩ => ?_) λ_ _ z => z;subst S;refine Aw h4 (λ_ s5 ⟨x,H5,I5,r5,y5,t,U⟩=>?_) λ_ _ z=>z;have V:=I5.pinned (stat U) (T.obj _ _ t);refine Aw (hg _ s5 k H5 x u _ V r5 (step x H5 y5)) (λ_ s6 ⟨D,H6,I6,q6⟩=>?_) λ_ _ z=>nx z;have again:∀{j:St}{y:Hp}{B:Ad},cI Y (q++OT O s5.heap) j y B->N2 j y->∃m,m<n/\∃i a c,cI Y q a c B/\Z i B.heap/\(∀b∈O,c b=bb)/\W i m a c:=λ{j y B} C n7=>by obtain⟨m',hm,w7⟩:=hN j y n7;refine⟨m',hm,i+1,j,y,C.unpinned,T.keep _ _ _ t λb p o e=>(C.pin (b,o) (Ax _ (Ax _ (X3 p e)))).1,λb p=>?_,w7⟩;obtain⟨o,e,d⟩:=T.obj _ _ t b p;exact(C.pin (b,o) (Ax _ (Ax _ (X3 p e)))).2.1
  refine Aw (ht _ s6 D H6 _ I6 q6) (λQ B ⟨y,C,q7⟩=>?_) λ_ _ z=>nx z;cases Q with
  |false=>exact again C q7
  |true=>exact Aw (he _ B D y _ C q7) (λ_ s8 ⟨σ8,H8,I8,n8⟩=>again I8 n8) λ_ _ z=>z
 refine Fi (EU L (loop _ rfl) (T.self _ 0 _ _ _ K (loop _ rfl))) λr s6 h6=>?_;cases r with
 |ok f=>exact Af h6
 |error e=>exact h6.elim
end
structure Blk2(Y:Cx)(tg:Uv)(ifs:List Uv)(tg2 it2:Uv)(ar:List Uv)(elt:Uv)(g:TG)(tt:TT)(wi2:TI)(g2:TG)(tt2:TT)(te:TE):Prop where
 tg:PG Y tg g
 ts:PTs Y ifs tt
 it:PI Y tg2 it2 wi2
 tg2:PG Y tg2 g2
 ts2:PTs Y ar tt2
 el:PE Y elt te
abbrev Zy(ix:List Nat)(nl:Nat)(c:TI)(g:TG)(tt:TT)(a:TI)(e:TG)(b:TT)(d:TE):TE:=IQ ix nl c g tt λD=>tm2 a e b (tmL d D)
def Blk2.g{X:Cx}{N':List Uq}{scope:Vd}{tg iter d a e:Uv}{ifs s:List Uv}{pos:Pos}{g r:TG}{tt c:TT}{b:TI}{q:TE}(hc:X.calm=bc)(i:∀(env:Env) (x:Uo),Ux a env x=pure x)(n:∀(cl:List (Uq×Up)) (f:Ad) (h:Hp) (fp:List Up),Blk2 (a6 X N' scope cl f h fp) tg ifs d a s e g tt b r c q)(cl:List (Uq×Up))(f:Ad)(h:Hp)(fp:List Up):BlkG (a6 X N' scope cl f h fp) (.ListComp e [⟨tg,iter,ifs,0⟩,⟨d,a,s,0⟩] scope pos) tg ifs g tt λD=>tm2 b r c (tmL q D):=
 let ⟨k,j,o,l,m,p⟩:=n cl f h fp
 ⟨k,j,λD=>⟨_,lpL2,Yu rfl hc o l m lpL3 (CG rfl p) λx=>i _ x⟩⟩
noncomputable def inrV(f:VG)(e:VB)(g:VF):List cZ->List cZ->Ev->Option (List cZ×Ev)
 |[],a,c=>ba (a,c)
 |d::r,a,c=>(f d c).bind λb=>(e b).bind λp=>if p.1=bc then(g p.2).bind λq=>if a.length<16777216 then inrV f e g r (a++[q.1]) q.2 else bb else inrV f e g r a p.2
def QV(n nl:Nat)(i:VG)(h:VB)(c:VI)(b:VG)(a:VB)(j:VF):List cZ->List cZ->Ev->Option (List cZ×Ev)
 |[],e,g=>ba (e,g)
 |d::r,e,g=>(i d (g++J4 nl)).bind λf=>(h f).bind λp=>if p.1=bc then(c p.2).bind λu=>(inrV b a j u.1 e u.2).bind λq=>QV n nl i h c b a j r q.1 (q.2.take n)else QV n nl i h c b a j r e (p.2.take n)
def SM(ix:List Nat)(nl:Nat)(g:VI)(f:VG)(e:VB)(c:VI)(b:VG)(a:VB)(h:VF):VF:=λd=>(g d).bind λp=>(QV ix.length nl f e c b a h p.1 [] (V2 ix p.2)).map λq=>(.lst q.1,ZB ix q.2 p.2)
section
variable{X:Cx}{K:Ag}{ml:List Nat}{e a b c:Uv}{es:List Uv}{pi pt pe pi2 pt2 pu bt bi ps bs:Bool}{f:VF}{B B':Bs}{O:Nat->Option Up}{H H0 H1 H':Hp}{σ:St}{δ δ':Ev}{v:V}{d:cZ}{p:Up}{pos:Pos}{ix:List Nat}{nl:Nat}
def GX{fi I:VI}{gg s:VG}{tb r:VB}{fe:VF}(hnd:ix.Nodup){Q:VK}(h:TN K ml (pi&&(pt&&pi2&&pt2&&pe)) (SM ix nl fi gg tb I s r fe) σ H Q):Zy ix nl (LD K ml pi fi) (DC K (At ix.length) gg) (TB K (At ix.length) pt tb) (LD K (At ix.length) pi2 I) (DC K (At ix.length) s) (TB K (At ix.length) pt2 r) (TV K (At ix.length) pe bc bc fe) σ H Q:=by
 obtain⟨B,O,δ,d,δ2,S,q,k⟩:=h;unfold SM at q;obtain⟨⟨y,T⟩,h1,q⟩:=Aa.mp q;have q:((QV ix.length nl gg tb I s r fe y [] (V2 ix T)).map λq=>(cZ.lst q.1,ZB ix q.2 T))=ba (d,δ2):=q;obtain⟨⟨res,δf⟩,h2,q⟩:=Ah.mp q;cases q;refine⟨B,O,δ,y,T,S,h1,λJ g H0 S0 f0 p0 wk D hD=>?_⟩;have hDO:∀j,Oc ix O j≠ba D:=λj e=>by unfold Oc at e;obtain⟨i,hi,e⟩:=Aa.mp e;obtain⟨o,q⟩:=S0.nin (.inr ⟨i,e⟩);rw[hD]at q;cases q
 have j5:∀kp j,ix.length<=j->(Bc ix B O H0 D kp).mu j=bb:=λkp j hj=>by show(ix[j]?).bind O=bb;rw[Cj hj];rfl
 refine⟨λi m H1=>m=y.length-i/\i<=y.length/\∃(U:List V) (L:List cZ) (n:Ev),n.length=ix.length/\U.length=L.length∧
   bN K (At ix.length) (Bc ix B O H0 D (g++U.zip L)) (Oc ix O) H1 (ZF ix σ++Av nl bb) (n++J4 nl)/\H1 D=ba (.lst U)/\((pt&&pi2&&pt2&&pe)=bc->bI H0 H1)∧
   QV ix.length nl gg tb I s r fe (y.drop i) L n=ba (res,δf),
  y.length,⟨rfl,Bz _,[],[],V2 ix T,by simp[V2],rfl,by rw[Qc,Bi];exact S0.unkeep.inner hD hnd λp M=>S0.kep p (Aq _ M),cM,λ_=>cR hD,h2⟩,?_⟩
 rintro i m H1 ⟨rfl,hi,U,L,n,hlc,bq,S1,hD1,d3,hc⟩;have w:=wk (Nn (Bc ix B O H0 D (g++U.zip L)) (Oc ix O)) H1 λp M=>S1.kep p (Aq _ M);by_cases hlt:i<y.length;obtain ⟨go,yl⟩ := w.1 i y[i] (by simp [hlt]);rw[Cv hlt]at hc;simp only[QV]at hc;obtain⟨δ3,g1,hc⟩:=Aa.mp hc;obtain⟨⟨kk,R⟩,g2,hc⟩:=Aa.mp hc;refine .inr ⟨go,λH'=>∃(cy:List V) (L:List cZ) (n:Ev),n.length=ix.length/\cy.length=L.length∧
  bN K (At ix.length) (Bc ix B O H0 D (g++cy.zip L)) (Oc ix O) H' (ZF ix σ++Av nl bb) (n++J4 nl)/\H' D=ba (.lst cy)/\((pt&&pi2&&pt2&&pe)=bc->bI H0 H')∧
  QV ix.length nl gg tb I s r fe (y.drop (i+1)) L n=ba (res,δf),λH' w'=>⟨y.length-(i+1),by lia,rfl,hlt,w'⟩,λx H2 hy=>?_⟩
 obtain⟨sm,rx⟩:=yl x H2 hy;refine⟨_,_,_,y[i],δ3,S1.same sm,rx,g1,λσ3 O3 S3 m3=>?_⟩;have ln3:=BJ m3;have F:=KJ ln3 m3;refine⟨F,_,_,δ3,kk,R,S3,g2,λH4 X=>?_⟩;have hD4:H4 D=ba (.lst U):=X.frm _ _ (sm _ _ hD1) λz=>by
  obtain⟨j,e⟩:=z;have:=(X.sta.old j D e).1;exact absurd (.inl (.inr rfl)) this
 have ln4:ix.length<=R.length:=by rw[<-X.sta.len];exact ln3
 cases kk with
 |false=>
  rw[if_neg Bw]at hc;refine P7 ⟨U,L,R.take ix.length,by rw[Cc];lia,bq,X.sta.turn (j5 _) (XS ix σ) F ln4,hD4,λz=>?_,hc⟩;simp only[Ae]at z;exact((d3 (by simp[z.1.1.1,z.1.1.2,z.1.2,z.2])).trans sm).trans (X.pur z.1.1.1)
 |true=>
  rw[if_pos rfl]at hc;obtain⟨⟨f,δ5⟩,g3,hc⟩:=Aa.mp hc;obtain⟨⟨kg,A⟩,g4,hc⟩:=Aa.mp hc;refine P8 ⟨_,_,R,f,δ5,X.sta,g3,λJ2 ii H5 S5 f5 p5 wk2=>?_⟩;have hD5:H5 D=ba (.lst U):=f5 _ _ hD4 λz=>by
   obtain⟨j,e⟩:=z;have:=(X.sta.old j D e).1;exact absurd (.inl (.inr rfl)) this
  refine⟨λC m2 N H6=>m2=f.length-C/\C<=f.length/\∃(t:List V) (u:List cZ) (l:Ev) (O1:Nat->Option Up),t.length=u.length∧
    bN K (At ix.length) (Bc ix B O H0 D (ii++(g++t.zip u))) O1 H6 N l/\N.take ix.length=ZF ix σ/\ix.length<=N.length/\H6 D=ba (.lst t)/\((pt&&pi2&&pt2&&pe)=bc->bI H0 H6)∧
    inrV s r fe (f.drop C) u l=ba (kg,A),
   f.length,⟨rfl,Bz _,U,L,δ5,_,bq,S5,F,ln3,hD5,λz=>by simp only[Ae]at z;exact(((d3 (by simp[z.1.1.1,z.1.1.2,z.1.2,z.2])).trans sm).trans (X.pur z.1.1.1)).trans (p5 z.1.1.2),g4⟩,?_⟩
  rintro C m2 N H6 ⟨rfl,hi2,t,u,l,O1,f9,S6,G,ln1,hD6,lc,c⟩;have w2:=wk2 (Nn (Bc ix B O H0 D (ii++(g++t.zip u))) O1) H6 λp M=>S6.kep p (Aq _ M);by_cases lf:C<f.length;obtain ⟨go2,yl2⟩ := w2.1 C f[C] (by simp [lf]);rw[Cv lf]at c;simp only[inrV]at c;obtain⟨δ7,k1,c⟩:=Aa.mp c;obtain⟨⟨kk2,Z⟩,k2,c⟩:=Aa.mp c;refine .inr ⟨go2,λP H'=>∃(cy:List V) (u:List cZ) (l:Ev) (O1:Nat->Option Up),cy.length=u.length∧
   bN K (At ix.length) (Bc ix B O H0 D (ii++(g++cy.zip u))) O1 H' P l/\P.take ix.length=ZF ix σ/\ix.length<=P.length/\H' D=ba (.lst cy)/\((pt&&pi2&&pt2&&pe)=bc->bI H0 H')∧
   inrV s r fe (f.drop (C+1)) u l=ba (kg,A),λP H' w'=>⟨f.length-(C+1),by lia,rfl,lf,w'⟩,λx2 H7 hy2=>?_⟩
  obtain⟨W,rx2⟩:=yl2 x2 H7 hy2;refine⟨_,_,_,f[C],δ7,S6.same W,rx2,k1,λY O7 S7 m7=>?_⟩;have E:Y.take ix.length=ZF ix σ:=by
   rw[<-G];refine He λj=>?_;rw[Po,Po];split;rename_i hj;exact m7 j (Dx.mpr hj);rfl
  have ln7:ix.length<=Y.length:=by
   have:(Y.take ix.length).length=ix.length:=by rw[E,XS]
   rw[Cc]at this;lia
  refine⟨_,_,δ7,kk2,Z,S7,k2,λH8 R8=>?_⟩;have hD8:H8 D=ba (.lst t):=R8.frm _ _ (W _ _ hD6) λz=>by
   obtain⟨j,e⟩:=z;have:=(R8.sta.old j D e).1;exact absurd (.inl (.inr rfl)) this
  cases kk2 with
  |false=>
   rw[if_neg Bw]at c;refine P7 ⟨t,u,Z,_,f9,R8.sta,E,ln7,hD8,λz=>?_,c⟩;have z0:=z;simp only[Ae]at z;exact((lc z0).trans W).trans (R8.pur z.1.2)
  |true=>
   rw[if_pos rfl]at c;obtain⟨⟨dv,δ9⟩,k3,c⟩:=Aa.mp c;split at c;rename_i hz;refine P8 ⟨_,_,Z,dv,δ9,R8.sta,k3,λv H9 R9=>?_⟩;have hD9:H9 D=ba (.lst t):=R9.frm _ _ hD8 λz=>by
    obtain⟨j,e⟩:=z;have:=(R9.sta.old j D e).1;exact absurd (.inl (.inr rfl)) this
   have hv:bV K (Nn (Bc ix B O H0 D (ii++(g++t.zip u))) O7) H9 (Nn (Bc ix B O H0 D (ii++(g++t.zip u))) O7) v dv:=R9.rep.mono (λa h=>by
    rcases h with h|h;exact .inl h;exact .inr h) (λa h=>by
    rcases h with h|h;exact .inl h;exact .inr h)
   have S10:=R9.sta.withKp (kp:=ii++(g++(t++[v]).zip (u++[dv]))) λp M=>by
    rw[Mv f9,<-Cw,<-Cw]at M;rcases Ez.mp M with z|z;exact R9.sta.kep p (by rw[<-Cw];exact z);rw[Au.mp (show p∈[(v,dv)] from z)];exact hv
   refine⟨t,hD9,by rw[f9,Bg];exact hz,t++[v],u++[dv],δ9,O7,by simp[f9],?_,E,ln7,cM,λz=>?_,c⟩;exact S10.writeZ (.inl (.inr rfl)) hD9 hD;intro b o e;have hb:b≠D:=λz=>by rw[z,hD]at e;cases e
   rw[cL hb];have z0:=z;simp only[Ae]at z;exact(((lc z0).trans W).trans ((R8.pur z.1.2).trans (R9.pur z.2))) b o e;cases c
  have e : C = f.length := by lia
  subst e;rw[Gd]at c;cases c;refine .inl ⟨w2.2,G,t,kg,A.take ix.length,by rw[Cc,<-S6.len];lia,f9,?_,hD6,lc,hc⟩;have S11:=S6.turn (nl:=nl) (j5 _) (XS ix σ) G (by rw[<-S6.len];exact ln1);exact S11.withKp (kp:=g++t.zip kg) λp M=>S11.kep p (Ax _ M)
 have e : i = y.length := by lia
 subst e;rw[Gd]at hc;cases hc;refine .inl ⟨w.2,k D H1 ?_⟩;exact FK S0 hD f0 p0 S1 bq hlc hD1 d3
def G0{tg iter b a f:Uv}{ifs q:List Uv}{scope:Vd}{N':List Uq}{o e:VI}{n d:VG}{m c:VB}{p:VF}(hc:X.calm=bc)(s:scope.kind=.function)(j:SK X.N N' ix scope.names X.env.kindOf=bc)(k:N'.length=ix.length+nl)(hnd:ix.Nodup)(t:PI X tg iter (LD K ml pi o))(l:∀(cl:List (Uq×Up)) (r:Ad) (H1:Hp) (fp:List Up),Blk2 (a6 X N' scope cl r H1 fp) tg ifs b a q f (DC K (At ix.length) n) (TB K (At ix.length) pt m) (LD K (At ix.length) pi2 e) (DC K (At ix.length) d) (TB K (At ix.length) pt2 c) (TV K (At ix.length) pe bc bc p))(hs:∀x,Ux iter X.env x=pure x:=by intro _;rfl)(i:∀(env:Env) (x:Uo),Ux a env x=pure x:=by intro _ _;rfl):PE X (.ListComp f [⟨tg,iter,ifs,0⟩,⟨b,a,q,0⟩] scope pos) (TN K ml (pi&&(pt&&pi2&&pt2&&pe)) (SM ix nl o n m e d c p)):=
 (F9 hc (X2 s j) k t (Blk2.g hc i l) hs).imp λ_ _ _ h=>GX hnd h
end
section
variable{X:Cx}{K:Ag}{ml:List Nat}{pi pt pe pi2 pt2 pu:Bool}{pos:Pos}{ix:List Nat}{nl:Nat}{f:VF}
def rV{i:Nat}{y:Uq}{v w:Pos}{tg iter b a f:Uv}{ifs u:List Uv}{scope:Vd}{N':List Uq}{r e:VI}{q d:VG}{j c:VB}{s:VF}(o:Bool)(I:X.N.Nodup)(p:X.N[i]?=ba y)(C:X.env.scope.names.lookup y=ba .local)(hc:X.calm=bc)(F:scope.kind=.function)(m:SK X.N N' ix scope.names X.env.kindOf=bc)(n:N'.length=ix.length+nl)(hnd:ix.Nodup)(G:PI X tg iter (LD K ml pi r))(t:∀(cl:List (Uq×Up)) (B:Ad) (J:Hp) (fp:List Up),Blk2 (a6 X N' scope cl B J fp) tg ifs b a u f (DC K (At ix.length) q) (TB K (At ix.length) pt j) (LD K (At ix.length) pi2 e) (DC K (At ix.length) d) (TB K (At ix.length) pt2 c) (TV K (At ix.length) pe bc bc s))(E:i∉ml:=by decide)(k:Va (.ListComp f [⟨tg,iter,ifs,0⟩,⟨b,a,u,0⟩] scope pos) (ba (.Name y v)) w.line X.env=pure bc:=by rfl)(hs:∀x,Ux iter X.env x=pure x:=by intro _;rfl)(l:∀(env:Env) (x:Uo),Ux a env x=pure x:=by intro _ _;rfl):PS X (.Assign [.Name y v] (.ListComp f [⟨tg,iter,ifs,0⟩,⟨b,a,u,0⟩] scope pos) w) (WZ K ml (aN i (if o then xO (SM ix nl r q j e d c s)else xV (SM ix nl r q j e d c s)))):=
 (rB I p C hc (X2 F m) n G (Blk2.g hc l t) k hs).imp λD A H h=>Xb (λA H Q z=>GX hnd (Wp (pu:=pi&&(pt&&pi2&&pt2&&pe)) z)) E h
end
end L2
namespace TS
open PySem PySem.W PyProof.Rows
def kev{b:Type}(ck:Nat->Nat->Bool):KasT b->b
 |.ret a=>a
 |.ask i j k=>kev ck (k (ck i j))
def KG{c:Type}(n:Nat)(R:c->Prop):KasT c->Prop
 |.ret a=>R a
 |.ask i j k=>i<n/\j<n/\∀b,KG n R (k b)
theorem KG.bind{c d:Type}{n:Nat}{R:c->Prop}{g:d->Prop}{f:c->KasT d}(e:∀a,R a->KG n g (f a)):∀{t:KasT c},KG n R t->KG n g (t.bind f)
 |.ret a,h=>e a h
 |.ask _ _ k,h=>⟨h.1,h.2.1,λb=>KG.bind e (h.2.2 b)⟩
theorem KG.ev{a:Type}{n:Nat}{R:a->Prop}{ck:Nat->Nat->Bool}:∀{t:KasT a},KG n R t->R (kev ck t)
 |.ret _,h=>h
 |.ask i j k,h=>KG.ev (t:=k (ck i j)) (h.2.2 _)
theorem KG.wp{b:Type}{n:Nat}{R:b->Prop}{ck:Nat->Nat->Bool}{a:Nat->Nat->(Bool->Ad->Prop)->Ad->Prop}{G:b->Ad->Prop}{s:Ad}(hc:∀i j,i<n->j<n->∀C:Bool->Ad->Prop,C (ck i j) s->a i j C s):∀{t:KasT b},KG n R t->G (kev ck t) s->t.kasWp a G s
 |.ret _,_,h=>h
 |.ask i j k,g,h=>hc i j g.1 g.2.1 _ (KG.wp hc (g.2.2 _) h)
section
variable{n:Nat}
def Pn(n:Nat)(p:Array Nat):Prop:=p.toList.Perm (At n)
def Pn.get{p:Array Nat}(h:Pn n p)(b:0<n)(i:Nat):p.getD i 0<n:=by
 by_cases a:i<p.size;have : p[i] ∈ p.toList := by simp
 rw[show p.getD i 0=p[i] by simp[a]];exact Dx.mp (h.mem_iff.mp this);rw [show p.getD i 0 = 0 by simp [Array.getD,a]];exact b
def Pn.rev{p:Array Nat}(h:Pn n p)(i j:Nat):Pn n (kas_rev p i j):=(mirror_perm p _ _ _).toList.trans h
theorem Vu{p:Array Nat}(h:Pn n p)(a:0<n):∀f m,KG n (λ_=>True) (kas_asc p f m)
 |0,_=>trivial
 |f+1,m=>⟨h.get a _,h.get a _,λb=>by
  dsimp only;split;trivial;exact Vu h a f _⟩
theorem HS(a:0<n):∀(f:Nat) (p:Array Nat) (m q:Nat),Pn n p->KG n (λr=>Pn n r.1) (kas_desc f p m q)
 |0,_,_,_,h=>h
 | f + 1,p,m,q,h => ⟨h.get a _,h.get a _,λb => by
  dsimp only;split;split;exact HS a f _ _ _ (h.rev _ _);exact HS a f _ _ _ h;refine ⟨h.get a _,h.get a _,λd => ?_⟩;dsimp only;split;exact h;exact HS a f _ _ _ h⟩
def Xz(e:0<n){p:Array Nat}(h:Pn n p)(a b:Nat):KG n (λr=>Pn n r.2) (kas_descPart a b p):=by
 have c:∀(m:Nat) {p:Array Nat},Pn n p->KG n (λr=>Pn n r.2) (kas_tail3 m b p):=λm p h=>by unfold kas_tail3;refine KG.bind (λ_ _=>?_) (Vu (h.rev 0 m) e _ _);exact h.rev 0 m
 refine KG.bind (λr d=>?_) (HS e _ _ _ _ h);split;exact c _ (d.rev _ _);exact c _ d
theorem HU{p:Array Nat}(h:Pn n p)(a:0<n)(k:Nat):∀f l r,KG n (λ_=>True) (kas_place p k f l r)
 |0,_,_=>trivial
 | f + 1,l,r => by
  unfold kas_place;split;trivial;refine ⟨h.get a _,h.get a _,λb => ?_⟩;dsimp only;split;exact HU h a k f _ _;exact HU h a k f _ _
theorem Xy(a:0<n):∀(f:Nat) (p:Array Nat) (k:Nat),Pn n p->KG n (Pn n) (kas_bin f p k)
 |0,_,_,h=>h
 |f+1,p,k,h=>KG.bind (λl _=>Xy a f _ _ ((bubble_perm p _ _).toList.trans h)) (HU h a k k 0 k)
def Xn(a:0<n):KG n (Pn n) (Tr n):=by
 have h:Pn n (Uc (At n)):=.refl _;have c:KG n (λr=>Pn n r.2) (kas_count n (Uc (At n))):=by
  refine KG.bind (λm _=>?_) (Vu h a _ _);split;exact h;split;refine ⟨h.get a _,h.get a _,λb => ?_⟩;dsimp only;split;exact h;exact Xz a (h.rev _ _) _ _;exact Xz a h _ _
 refine KG.bind (λr d=>?_) c;split;exact Xy a _ _ _ d;exact d
def srt0(n:Nat)(ck:Nat->Nat->Bool):List Nat:=if 2<=n then(kev ck (Tr n)).toList else At n
def KC(n:Nat)(ck:Nat->Nat->Bool):(srt0 n ck).Perm (At n):=by
 unfold srt0;split;exact(Xn (by lia)).ev;exact .refl _
def AM(vs:List Uo):(At vs.length).map (λi=>vs.getD i Value.none)=vs:=by
 refine He λi=>?_;by_cases h:i<vs.length;simp[h];simp[h]
end
section
variable{prog:Ao}{w:Uw}{A:Bp}{E:Uo->Ad->Prop}{s:Ad}
section
variable{vs xs:List Uo}{κ:Ts}{ck:Nat->Nat->Bool}{T:String}{Q:Uo->Ad->Prop}{C:Bool->Ad->Prop}{as:List Int}
def ER{a:Up}{F:Nat}{P:Pg->Ad->Prop}(n:s.heap.get? a=ba (Fy "list" vs.toArray F))(hz:vs.length<=sizeLine)(u:vs.length<64)(J:2<=vs.length->∀h':Uy,(∀b o,b≠a->s.heap.get? b=ba o->h'.get? b=ba o)->∀B:Ts->Ad->Prop,B κ {s with heap:=h'}->Ut (Uu prog w) A (keyKind' vs.toArray) B E {s with heap:=h'})(hc:∀h':Uy,(∀b o,b≠a->s.heap.get? b=ba o->h'.get? b=ba o)->∀i j,i<vs.length->j<vs.length->∀C:Bool->Ad->Prop,C (ck i j) {s with heap:=h'}->Ut (Uu prog w) A (keyLt' κ (vs.getD i Value.none) (vs.getD j Value.none)) C (λ_ _=>False) {s with heap:=h'})(h:P (.done (.ret .none)) {s with heap:=sortedHeap s.heap a vs ((srt0 vs.length ck).map λi=>vs.getD i Value.none).toArray}):Ut (Uu prog w) A (Ey.«list.sort» ⟨[.ref a],[]⟩) P E s:=by
 have lt:=Aj n;have H:vs.toArray.size=vs.length:=by simp
 obtain⟨O,m⟩:∃k,(s.heap.update a (Hc λ_=> #[])).get? a=ba (Fy "list" #[] k):=⟨_,get?_update_seq n (λ_=> #[])⟩;have keep:∀b o,b≠a->s.heap.get? b=ba o->(((s.heap.update a (Hc λ_=> #[])).push (Fy "tuple" vs.toArray 0)).push (Fy "list" #[] 0)).get? b=ba o:=λb o N t=>
  Ac _ (Ac _ (by rw[Om _ _ _ _ N];exact t))
 have e:(((s.heap.update a (Hc λ_=> #[])).push (Fy "tuple" vs.toArray 0)).push (Fy "list" #[] 0)).get? a=ba (Fy "list" #[] O):=Ac _ (Ac _ m);have T:∀l:List Uo,l.length=vs.length->l.toArray.size<=sizeLine+1:=λl hl=>by rw[Ak];lia
 rw[list_sort_plain];refine(Ab (Qx n rfl ?_));refine(Ab (Ly n rfl ?_ (by rw[Ak];lia) (Bz _)));refine(Ab (Si m rfl ?_));refine(Ab (wpAny_newTuple ?_ (by show vs.length<=_;exact hz)));refine(Ab (Lz (Bf ?_) (Bz _)));show (Ut (Uu prog w) A _ P E { s with heap := (((s.heap.update a (Hc λ_ => #[])).push (Fy "tuple" vs.toArray 0)).push (Fy "list" #[] 0)) });dsimp only;have U:((srt0 vs.length ck).map λi=>vs.getD i Value.none).length=vs.length:=by rw[Bb,(KC _ _).length_eq,Le]
 by_cases r:vs.toArray.size<2;have M : ((srt0 vs.length ck).map λi => vs.getD i Value.none) = vs := by unfold srt0;rw[if_neg (by lia)];exact AM vs
 rw[M]at h;rw[if_pos r,if_pos r];refine(Ab (Af ?_));rw[StateT.run_pure];refine(Ab (Af ?_));dsimp only;have I:(vs.toArray.zip vs.toArray).map (·.2)=vs.toArray:=by apply Array.toList_inj.mp;simp;exact Rh (Am _)
 rw[I];refine(Ab (Si e rfl (Ab (Ly e rfl ?_ (hsz2:=by rw[Ak];lia)))));simp only[bne_self_eq_false,Eo,if_false];exact Af h;rw[if_neg r,if_neg r];refine(Ab (J (by lia) _ keep _ ?_));have y:2<=vs.length:=by lia
 have D:srt0 vs.length ck=(kev ck (Tr vs.length)).toList:=by unfold srt0;rw[if_pos y]
 refine Ab (Aw (kat_run (ks:=vs) (κ:=κ) (G:=λp f=>p=kev ck (Tr vs.length)/\f={s with heap:=(((s.heap.update a (Hc λ_=> #[])).push (Fy "tuple" vs.toArray 0)).push (Fy "list" #[] 0))})
  (Q:=λd f=>(arrOf d).map (·.2)=((srt0 vs.length ck).map λi=>vs.getD i Value.none).toArray/\failedOf d=bb/\f={s with heap:=(((s.heap.update a (Hc λ_=> #[])).push (Fy "tuple" vs.toArray 0)).push (Fy "list" #[] 0))}) rfl y u (λp d f _ S R a4=>?_)
  (KG.wp (λi j L K C q=>hc _ keep i j L K C q) (Xn (by lia)) ⟨rfl,rfl⟩)) ?_ λ_ _ x=>x)
 obtain⟨rfl,rfl⟩:=a4;exact⟨by rw[kat_snds rfl S,D],R,rfl⟩;rintro ⟨⟨⟩,d⟩ f ⟨v,z,rfl⟩;dsimp only at v z⊢;rw[v];refine(Ab (Si e rfl (Ab (Ly e rfl ?_ (hsz2:=by rw[Ak];lia)))));rw[z];simp only[bne_self_eq_false,Eo,if_false];exact Af h
def DI(h:Uy)(vs:List Uo):Uy:=(h.push (Fy "list" #[] 0)).update h.objs.size (Hc (· ++vs.toArray))
def DJ{l:Up}{o:Vc}{n:Nat}{Q:List Uo->Ad->Prop}(i:T= "list" ∨T= "tuple")(f:s.heap.get? l=ba o)(e:o.cls=.type T)(g:o.data=.seq vs.toArray n)(hz:vs.length<=sizeLine)(h:Q vs {s with heap:=DI s.heap vs}):Ut (Uu prog w) A (collect (.ref l)) Q E s:=by
 unfold collect;refine Ab (wpAny_runValue (Mz entry_proto_collect' ?_));show Ut _ _ (newList []>>=λc=>again (.builtin "list.__iadd__" ⟨[c,.ref l],[]⟩)) _ _ s;refine Ab (Lz (Af ⟨Io _ (by decide+kernel),Mz entry_list_iadd' ?_⟩));have d:(s.heap.push (Fy "list" #[] 0)).get? s.heap.objs.size=ba (Fy "list" #[] 0):=Al _ rfl;have b:(s.heap.push (Fy "list" #[] 0)).get? l=ba o:=Ac _ f;show Ut _ _ (Kd (.ref s.heap.objs.size) (.ref l) (.ref s.heap.objs.size)) _ _ {s with heap:=s.heap.push (Fy "list" #[] 0)};unfold Kd;refine Ab (Mr (T:=T) ⟨o,b,e⟩ ?_);have j:(Gz T==Gz "list" || Gz T==Gz "tuple")=bc:=by rcases i with rfl|rfl<;>decide
 rw[if_pos (by rw[Bool.or_assoc,j,Ub])];refine Ab (Qx b g (Ab (Qx d rfl ?_)));rw[if_neg (by simp)];refine Ab (Ly d rfl (Af ?_) (Bz _) (by rw[Qh];simp;lia));show Ut (Uu prog w) A (load s.heap.objs.size>>=_) Q E {s with heap:=DI s.heap vs};refine Ab (wpAny_load (get?_update_seq d _) ?_);refine Af ?_;show Q ((#[]:Array Uo)++vs.toArray).toList _;rw[show((#[]:Array Uo)++vs.toArray).toList=vs by simp];exact h
def ES{l:Up}{o:Vc}{n:Nat}(F:T= "list" ∨T= "tuple")(y:s.heap.get? l=ba o)(p:o.cls=.type T)(D:o.data=.seq vs.toArray n)(hz:vs.length<=sizeLine)(t:vs.length<64)(z:2<=vs.length->∀(A:Bp) (E:Uo->Ad->Prop) (h':Uy),(∀b o,s.heap.get? b=ba o->h'.get? b=ba o)->∀v:Ts->Ad->Prop,v κ {s with heap:=h'}->Ut (Uu prog w) A (keyKind' vs.toArray) v E {s with heap:=h'})(hc:∀(A:Bp) (h':Uy),(∀b o,s.heap.get? b=ba o->h'.get? b=ba o)->∀i j,i<vs.length->j<vs.length->∀C:Bool->Ad->Prop,C (ck i j) {s with heap:=h'}->Ut (Uu prog w) A (keyLt' κ (vs.getD i Value.none) (vs.getD j Value.none)) C (λ_ _=>False) {s with heap:=h'})(h:∀(r:Up) (h':Uy) (e:Nat),s.heap.objs.size<=r->(∀b o,s.heap.get? b=ba o->h'.get? b=ba o)->h'.get? r=ba (Fy "list" ((srt0 vs.length ck).map λi=>vs.getD i Value.none).toArray e)->Q (.ref r) {s with heap:=h'}):Ut (Uu prog w) A (call (.builtin "sorted") [.ref l]) Q E s:=by
 refine(Hq kind_sorted plain_sorted entry_sorted (args_sorted1 _) ?_);unfold Ey.«sorted»;refine(Ab (m:=checkCount "sorted" 1 1 _) (Af (Ab (DJ F y p D hz (Ab (Lz ?_ (by exact hz)))))));have g:s.heap.objs.size<(DI s.heap vs).objs.size:=by unfold DI;rw[Rg,size_push'];exact Gc _
 have u:∀b o,s.heap.get? b=ba o->(DI s.heap vs).get? b=ba o:=λb o q=>by have c:b<s.heap.objs.size:=Aj q;unfold DI;rw[Om _ _ _ _ (Ap c),Lg _ _ _ (Ap c)];exact q
 dsimp only;generalize DI s.heap vs=f at g u⊢;have d:(f.push (Fy "list" vs.toArray 0)).get? f.objs.size=ba (Fy "list" vs.toArray 0):=Al _ rfl;have keep:∀b o,s.heap.get? b=ba o->(f.push (Fy "list" vs.toArray 0)).get? b=ba o/\b≠f.objs.size:=λb o q=>by have q:=u b o q;have c:b<f.objs.size:=Aj q;exact⟨by rw[Lg _ _ _ (Ap c)];exact q,Ap c⟩
 show(Ut _ _ _ _ _ {s with heap:=f.push (Fy "list" vs.toArray 0)});refine(Ab (Bf (Cf slot_list_sort ⟨_,d,rfl⟩ entry_list_sort (ER (κ:=κ) (ck:=ck) d hz t (λx h' k=>z x _ _ h' λb o q=>k b o (keep b o q).2 (keep b o q).1) (λh' k=>hc _ h' λb o q=>k b o (keep b o q).2 (keep b o q).1) ⟨_,rfl,?_⟩) (args_list_sort _))));obtain⟨e,B⟩:=sortedHeap_at (vs:=vs) (out:=((srt0 vs.length ck).map λi=>vs.getD i Value.none).toArray) d;refine(Af ⟨_,rfl,h _ _ e ?_ (λb o q=>?_) B⟩);exact Km g;rw[sortedHeap_old (keep b o q).2 (Aj (keep b o q).1)];exact(keep b o q).1
noncomputable def FW:List Int->List Int->Bool
 |[],[]=>be
 |[],_::_=>bc
 |_::_,[]=>be
 |a::c,b::bs=>if a=b then FW c bs else decide (a<b)
def pP{b:Bool}{x y:Int}{t u:Vi}(h:C (decide (x<y)) s):Ut (Uu prog w) A (oneLt' b (.int x t) (.int y u)) C E s:=by
 cases b with
 |true=>exact oneLt_int h
 |false=>exact kat_one _ _ (lt_int h)
def eO{b c:Bool}(j:Ik xs as):∀{ys:List Uo}{bs:List Int}{i:Nat},Ik ys bs->c=decide (xs.length<ys.length)->C (FW as bs) s->KatLex prog w A b c C (xs.zip ys) i s:=by
 induction j with
 |nil=>
  intro ys bs i d a h;cases d with
  |nil=>exact kat_nil (by rw[a];exact h)
  |cons n t r=>exact kat_nil (by rw[a];simpa[FW]using h)
 |cons n t r g=>
  intro ys bs i d a h;cases d with
  |nil=>exact kat_nil (by rw[a];simpa[FW]using h)
  |cons m u f=>
   refine kat_cons (wpAny_eqBool_int (kat_go (λe=>kat_yes (g f (by rw[a];simp) ?_)) λe=>kat_no (pP ?_)));have e : n = m := by simpa using e
   simpa[FW,e]using h
   have e : ¬ n = m := by simpa using e
   simpa[FW,e]using h
def nJ{x y:Up}{ys:List Uo}{bs:List Int}(b:IsTup s.heap x xs.toArray)(a:IsTup s.heap y ys.toArray)(d:Ik xs as)(c:Ik ys bs)(h:C (FW as bs) s):Ut (Uu prog w) A (keyLt' (tuples' bc) (.ref x) (.ref y)) C E s:=by obtain⟨i,b,_,n,f⟩:=b;obtain⟨g,a,_,m,e⟩:=a;exact kat_lt b f a e (eO d c (by simp) h)
def PtI(h:Uy):List Uo->List (List Int)->Prop
 |[],[]=>True
 |v::c,p::d=>(∃a b,v=.ref a/\IsTup h a b.toArray/\Ik b p/\p≠[])/\PtI h c d
 |_,_=>False
theorem PtI.keep{h h':Uy}(k:∀b o,h.get? b=ba o->h'.get? b=ba o):∀{vs:List Uo}{ps:List (List Int)},PtI h vs ps->PtI h' vs ps
 |[],[],_=>trivial
 |_::_,_::_,⟨⟨a,c,e,q,z⟩,r⟩=>⟨⟨a,c,e,q.keeps k,z⟩,PtI.keep k r⟩
 |[],_::_,r=>r.elim
 |_::_,[],r=>r.elim
theorem PtI.at{h:Uy}:∀{vs:List Uo}{ps:List (List Int)}{i:Nat},PtI h vs ps->i<vs.length->∃a xs,vs.getD i Value.none=.ref a/\IsTup h a xs.toArray/\Ik xs (ps.getD i [])
 |[],[],i,_,b=>by simp at b
 |_::_,_::_,0,r,_=>by obtain⟨⟨a,xs,e,q,z,_⟩,_⟩:=r;exact⟨a,xs,e,q,z⟩
 |v::vs,p::ps,i+1,r,b=>by
  have:=PtI.at (i:=i) r.2 (by simpa using b)
  simpa using this
 |[],_::_,i,r,_=>r.elim
 |_::_,[],i,r,_=>r.elim
theorem PtI.tups{h:Uy}:∀{vs:List Uo}{ps:List (List Int)},PtI h vs ps->∃fs,KatTups h vs fs/\fs.length=vs.length/\∀v∈fs,∃i t,v=.int i t
 |[],[],_=>⟨[],trivial,rfl,λ_ h=>by cases h⟩
 | _ :: _,_ :: _,⟨⟨a,p,e,⟨o,d,c,n,g⟩,z,f⟩,r⟩ => by
  obtain⟨fs,l,k,j⟩:=PtI.tups r;subst e;cases z with
  |nil=>exact absurd rfl f
  |cons m t _=>
   refine⟨.int m t::fs,KatTups.cons d c g rfl l,by simp[k],λv b=>?_⟩;rcases Bj.mp b with rfl|b;exact⟨_,_,rfl⟩;exact j v b
 |[],_::_,r=>r.elim
 |_::_,[],r=>r.elim
def kyT(ps:List (List Int))(i j:Nat):Bool:=FW (ps.getD i []) (ps.getD j [])
def GO{l:Up}{o:Vc}{n:Nat}{ps:List (List Int)}(D:T= "list" ∨T= "tuple")(x:s.heap.get? l=ba o)(g:o.cls=.type T)(B:o.data=.seq vs.toArray n)(hz:vs.length<=sizeLine)(k:vs.length<64)(f:PtI s.heap vs ps)(h:∀(r:Up) (h':Uy) (e:Nat),s.heap.objs.size<=r->(∀b o,s.heap.get? b=ba o->h'.get? b=ba o)->h'.get? r=ba (Fy "list" ((srt0 vs.length (kyT ps)).map λi=>vs.getD i Value.none).toArray e)->Q (.ref r) {s with heap:=h'}):Ut (Uu prog w) A (call (.builtin "sorted") [.ref l]) Q E s:=by
 refine ES (κ:=tuples' bc) D x g B hz k (λN A E h' d P q=>?_) (λA h' d i j z y C q=>?_) h;obtain⟨fs,G,O,F⟩:=(f.keep d).tups;refine kat_kind (s:={s with heap:=h'}) (T:=.type "int") G (by lia) (λv u=>?_) (by decide) q;obtain⟨i,t,rfl⟩:=F v u;exact Looks.now;obtain⟨a,M,K,p,I⟩:=(f.keep d).at z;obtain⟨b,L,J,m,H⟩:=(f.keep d).at y;rw[K,J];exact nJ (s:={s with heap:=h'}) p m I H q
end
end
end TS
namespace L2
open PySem PySem.Spec PyProof.Rows
variable{X:Cx}{K:Ag}
def tpD:cZ->Option (List Int)
 |.tup ds=>(P4 ds).bind λa=>if a.isEmpty then bb else ba a
 |_=>bb
def NG:List cZ->Option (List (List Int))
 |[]=>ba []
 |d::b=>(tpD d).bind λp=>(NG b).map λa=>p::a
def PtV(K:Ag)(H:Hp):List V->List (List Int)->Prop
 |[],[]=>True
 |v::b,p::c=>(∃a,v=.ref a/\UN K H a (p.map V.int)/\p≠[])/\PtV K H b c
 |_,_=>False
def Xk{d:cZ}{p:List Int}(h:tpD d=ba p):∃ds,d=.tup ds/\P4 ds=ba p/\p≠[]:=by
 unfold tpD at h;split at h;rename_i ds;obtain⟨b,a,h⟩:=Aa.mp h;split at h;cases h;rename_i z;cases h;exact⟨ds,rfl,a,λe=>z (by rw[e];rfl)⟩;cases h
theorem CZ{H:Hp}{N:Up->Prop}:∀{xs:List V}{ds:List cZ}{ps:List (List Int)},cG K N H xs ds->NG ds=ba ps->PtV K H xs ps
 |_,_,_,.nil,h=>by cases h;trivial
 | _,_,ps,@cG.cons _ _ _ v i d ds h t,e => by
  have e:(tpD d).bind (λp=>(NG ds).map λps=>p::ps)=ba ps:=e;obtain⟨p,f,e⟩:=Aa.mp e;have e:(NG ds).map (λps=>p::ps)=ba ps:=e;obtain⟨j,c,e⟩:=Ah.mp e;cases e;obtain⟨k,rfl,b,a⟩:=Xk f;refine⟨?_,CZ t c⟩;cases h with
  |tup sq r=>
   have g:=P5 r b;subst g;exact⟨_,rfl,sq,a⟩
theorem PtV.ptI{H:Hp}{g:List (Up×Vc)}{c:St}{s:Ad}(I:cI X g c H s):∀{xs:List V}{us:List Uo}{ps:List (List Int)},PtV X.K H xs ps->bS xs us->TS.PtI s.heap us ps
 |[],_,[],_,.nil=>trivial
 |_::_,_,_::_,⟨⟨a,e,q,n⟩,r⟩,.cons h t=>by subst e;cases h;obtain⟨b,d,f,_⟩:=I.tuple q;exact⟨⟨a,b,rfl,f,LZ d,n⟩,PtV.ptI I r t⟩
 |[],_,_::_,h,_=>h.elim
 |_::_,_,[],h,_=>h.elim
theorem PtV.len{H:Hp}:∀{xs:List V}{ps:List (List Int)},PtV K H xs ps->xs.length=ps.length
 |[],[],_=>rfl
 |_::_,_::_,r=>by simp[PtV.len r.2]
 |[],_::_,r=>r.elim
 |_::_,[],r=>r.elim
theorem KN{xs:List V}{us:List Uo}(r:bS xs us):∀l:List Nat,(∀i∈l,i<xs.length)->bS (l.map λi=>xs.getD i .non) (l.map λi=>us.getD i Value.none)
 |[],_=>.nil
 |i::l,h=>by
  have a:=h i Bu;obtain⟨u,d,c⟩:=bS.get (i:=i) (x:=xs[i]) r (by simp[a]);refine .cons ?_ (KN r l λj b=>h j (Ay _ b));have f:xs.getD i .non=xs[i]:=by simp[a]
  have e:us.getD i Value.none=u:=by simp[d]
  show b3 (xs.getD i .non) (us.getD i Value.none);rw[f,e];exact c
def srtT(ps:List (List Int)):List Nat:=TS.srt0 ps.length (TS.kyT ps)
def KH(ps:List (List Int)):(srtT ps).Perm (At ps.length):=TS.KC _ _
def Zh(K:Ag):RC:=λc H Q=>∃(p:Up) (a:List V) (b:List (List Int)),c=[.ref p]/\(W8 K H p a∨UN K H p a)/\a.length<64/\PtV K H a b/\∀l:Up,H l=bb->Q (.ref l) (upd H l (.lst ((srtT b).map λi=>a.getD i .non)))
def Yn(h:X.K=K:=by rfl):aV X (.builtin "sorted") (Zh K):=by
 subst h;intro N s F H G J Q I r h;obtain⟨p,l,g,rfl,j,E,v,q⟩:=h;obtain⟨u,rfl,x⟩:=U2 r;cases x;obtain⟨T,o,n,b,D,A,m,C,f,k⟩:∃(T:String) (o:Vc) (n:Nat) (b:List Uo),(T= "list" ∨T= "tuple")/\s.heap.get? p=ba o/\o.cls=.type T/\o.data=.seq b.toArray n/\bS l b/\l.length<=sizeLine:=by
  rcases j with j|j;obtain⟨b,f,⟨o,n,e,c,_,d⟩,k⟩:=I.list j;exact⟨_,o,n,b,.inl rfl,e,c,d,f,k⟩;obtain⟨b,f,⟨o,e,c,n,d⟩,k⟩:=I.tuple j;exact⟨_,o,n,b,.inr rfl,e,c,d,f,k⟩
 have M:=f.length;have z:=v.len;refine TS.GO D A m C (by lia) (by lia) (v.ptI I f) λr L e t y w=>?_;rw[show b.length=g.length by lia]at w;refine⟨.ref r,_,I.laid (a:=r) (o:=.lst ((srtT g).map λi=>l.getD i .non)) (t':=s.toks) y t ?_,rfl,q _ (I.hok.fresh t)⟩;refine⟨by rw[Bb,(KH g).length_eq,Le];lia,(srtT g).map λi=>b.getD i Value.none,e,KN f _ λi B=>?_,w⟩;have:=Dx.mp ((KH g).mem_iff.mp B);lia
def D5(d:cZ):Option cZ:=(WW d).bind λa=>if a.length<64 then(NG a).bind λb=>ba (.lst ((srtT b).map λi=>a.getD i .non))else bb
theorem KA{H:Hp}{N:Up->Prop}{xs:List V}{ds:List cZ}(r:cG K N H xs ds):∀l:List Nat,cG K N H (l.map λi=>xs.getD i .non) (l.map λi=>ds.getD i .non)
 |[]=>.nil
 | i :: l => by
  have one:∀{xs:List V}{ds:List cZ}(i:Nat),cG K N H xs ds->bV K N H N (xs.getD i .non) (ds.getD i .non):=by
   intro xs ds i r;induction r using cG.rec (motive_1:=λ_ _ _ _=>True) generalizing i with
   |nil=>simpa using bV.non
   |cons h t _ a=>cases i with
    |zero=>simpa using h
    |succ i=>simpa using a i
   |_=>trivial
  exact .cons (one i r) (KA r l)
def BZ:CalN K (Zh K) D5:=by
 intro H N M x d c Q i h k;obtain⟨n,m,h⟩:=Aa.mp (show(WW d).bind _=ba c from h);split at h;rename_i e;obtain⟨g,j,h⟩:=Aa.mp h;cases h;obtain⟨a,f,rfl,sq,r⟩:=i.seq m;exact⟨a,f,g,rfl,sq,by rw[r.length];exact e,CZ r j,λl b=>k l _ _ b (KA r _) rfl⟩;cases h
variable{X:Cx}{K:Ag}{H:Hp}{σ:St}{s:Ad}{aa:List (Up×Vc)}{ml:List Nat}{pa ta ia:Bool}{fa:VF}{a:Uv}{p' pos:Pos}
def mkDK{B:Bs}{O:Nat->Option Up}{b:Hp}{c:Ev}{p:Up}{pu:Bool}{kvs:List (Z2×V)}{ds:List cZ}(S:bN K ml B O b σ c)(f:Fr (OA O) H b)(s:pu=bc->bI H b)(a:b p=bb)(r:cG K (Nn B O) b (kvs.map By) ds):ResN K ml B O H σ pu (upd b p (.dK kvs)) c p (.dct (kvs.map Br) ds):=
 ⟨S.laid a,f.trans (cR a).fr,λz=>(s z).trans (cR a),.dct cM ((r.away a _ _ YE).same (cR a)),S.new a,S.fresh a⟩
def DK{X:Cx}{aa:List (Up×Vc)}{σ:St}{H J:Hp}{s:Ad}{A:Bp}{E:Uo->Ad->Prop}{a:Up}{y v:V}{u r:Uo}{Q:Unit->Ad->Prop}(M:A.units<cLine)(I:cI X aa σ H s)(g:KQ H a y v J)(B:b3 y u)(C:b3 v r)(h:∀s',cI X aa σ J s'->Q () s'):Ut (Uu X.prog X.w) A (dictSet a u r) Q E s:=by
 rcases g with⟨f,k,e,p,l,t⟩|⟨f,k,b,e,p,G,l,t⟩;subst p t;obtain⟨z,o,L,d,x⟩:=Vs I.hok e;have m:L.length<=sizeLine:=by rw[<-d.length];exact z
 have hl:(W9 f k v).length<=sizeLine:=by have:=VO f k v;lia
 refine wpAny_dictSet_pairs (L5 B) x (λD i n=>h _ ?_) m;have N:∃q,D.get? a=ba q:=let ⟨q,_,_,j,_⟩:=i;⟨q,j⟩
 exact M5 I (by rw[e];exact True.intro) n N (DL hl o (d.put k C) i);subst p t;cases (show u=An b from B);obtain⟨z,o,K,d,x⟩:=Zf I.hok e;have m:K.length<=sizeLine:=by rw[<-Hz d];exact z
 have hl:(W9 f k v).length<=sizeLine:=by have:=VO f k v;lia
 refine wpAny_dictSet_heap (hsz:=m) (knd:=tupleKind (aW X.prog X.w)) M (Q3 I.hok G) x λD i n=>h _ ?_;obtain⟨q,T,U,j,S,R,P,_,O⟩:=i;refine M5 I (by rw[e];exact True.intro) n ⟨q,j⟩ ⟨hl,o,_,(d.put k G C).keeps λc W F=>?_,q,T,U,j,S,R,P,O⟩;rw[cL (RI F e (λz=>nomatch z))];exact F
noncomputable def emD(D:Up)(kx vx:Uv)(env:Env):Vg Unit:=do
 let b<-eval kx env
 let vv<-Ia [b] (eval vx env)
 Gk {kx.pos with endLine:=vx.pos.endLine,endCol:=vx.pos.endCol}
 Ia [b,vv] (dictSet D b vv)
section
variable{kx vx tg iter tg2 it2:Uv}{ifs ar:List Uv}{scope:Vd}{pos:Pos}{D:Up}{env:Env}
def lpD1:KR (.DictComp kx vx [⟨tg,iter,ifs,0⟩] scope pos) 0 tg ifs (emD D kx vx env) (.ref D) env:=⟨⟨iter.pos,λ_=>rfl⟩,λ_ _ _ _ _ _ _ h=>h,λ_ _ _ _ _ _ _ h=>h,λ_=>rfl,_,rfl,rfl⟩
def lpD2:KR (.DictComp kx vx [⟨tg,iter,ifs,0⟩,⟨tg2,it2,ar,0⟩] scope pos) 0 tg ifs (em2 (.DictComp kx vx [⟨tg,iter,ifs,0⟩,⟨tg2,it2,ar,0⟩] scope pos) it2 (.ref D) env) (.ref D) env:=⟨⟨iter.pos,λ_=>Xg (e:=.DictComp kx vx [⟨tg,iter,ifs,0⟩,⟨tg2,it2,ar,0⟩] scope pos)⟩,λ_ _ _ _ _ _ _ h=>h,λ_ _ _ _ _ _ _ h=>h,λ_=>rfl,_,rfl,rfl⟩
def lpD3:KR (.DictComp kx vx [⟨tg,iter,ifs,0⟩,⟨tg2,it2,ar,0⟩] scope pos) 1 tg2 ar (emD D kx vx env) (.ref D) env:=⟨⟨it2.pos,λ_=>rfl⟩,λ_ _ _ _ _ _ _ h=>h,λ_ _ _ _ _ _ _ h=>h,λ_=>rfl,_,rfl,rfl⟩
end
section
variable{Y:Cx}{kx vx e it2 tg2:Uv}{ar:List Uv}{tk tv:TE}{D:Up}{wi:TI}{g:TG}{tt:TT}{em:Vg Unit}{tm:TM}{ya:Uo}
def tmD(D:Up)(tk tv:TE):TM:=λσ H N=>tk σ H λy c=>tv σ c λv b=>∃a,KQ b D y v a/\N σ a
def CF(a:Y.xe=λ_ _=>False)(j:Y.A.units<cLine)(k:PE Y kx tk)(i:PE Y vx tv):PM Y (emD D kx vx Y.env) (tmD D tk tv):=by
 intro aa s σ H N I h;have nx:∀{b:Sort _}{x:Uo}{s:Ad},Y.xe x s->b:=λz=>by rw[a]at z;exact z.elim
 exact Ab (Aw (k aa s σ H _ I h) (λt c ⟨y,p,n,e,q1⟩=>Ab (Bf (Aw (i aa c σ p _ n q1) (λvv r ⟨v,u,m,d,o,g,f⟩=>
  Ab (Ds (Bf (DK j m g e d λq l=>⟨σ,o,l,f⟩)))) λ_ _ z=>nx z))) λ_ _ z=>nx z)
end
def CI{X:Cx}{i:Nat}{y:Uq}{b pos B:Pos}{tg iter kx vx:Uv}{ifs:List Uv}{rest:List Lw}{scope:Vd}{N':List Uq}{ix:List Nat}{nl:Nat}{t:TI}{g:TG}{tt:TT}{tm:Up->TM}{o0:HO}(M:o0=.dK []∨o0=.dT [])(R:X.N.Nodup)(n:X.N[i]?=ba y)(k:X.env.scope.names.lookup y=ba .local)(hc:X.calm=bc)(S:RT X N' ix scope)(m:N'.length=ix.length+nl)(O:PI X tg iter t)(o:∀(cl:List (Uq×Up)) (G:Ad) (Y:Hp) (fp:List Up),BlkG (a6 X N' scope cl G Y fp) (.DictComp kx vx (⟨tg,iter,ifs,0⟩::rest) scope pos) tg ifs g tt tm)(l:Va (.DictComp kx vx (⟨tg,iter,ifs,0⟩::rest) scope pos) (ba (.Name y b)) B.line X.env=pure bc)(hs:∀x,Ux iter X.env x=pure x):PS X (.Assign [.Name y b] (.DictComp kx vx (⟨tg,iter,ifs,0⟩::rest) scope pos) B) (tAsg (λσ H Q=>t σ H λJ E=>∀D,E D=bb->JC D o0 ix nl J g tt tm σ E λr=>Q (.ref D) r) (W0 i)):=by
 intro aa s σ H D I h;rw[Mx _ _ _ _ l];refine Ab (Ds (Ab ?_));show Ut _ X.A (do let _<-Ph (.DictComp kx vx (⟨tg,iter,ifs,0⟩::rest) scope pos) scope X.env _ newDict be (eval iter X.env) (ba (Hh (.Name y b) X.env))) _ _ s;obtain⟨cl,W,V,U⟩:=M3 (env:=X.env) (scope:=scope) λy k P=>I.ok.has y.1 (S.free y k P);refine Ab (Aw (Fw (use:=ba (Hh (.Name y b) X.env)) (cl:=cl) (Q:=λ_ f=>SP X aa D .next f) rfl hs W S.kind S.names
  (Aw (O aa s σ H _ I h) (λZ u d=>Aw d (λK a c=>?_) λ_ _ e=>e) λ_ _ e=>e)) (λ_ f L=>Af (Af L)) λ_ _ e=>e)
 obtain⟨it,fp,tn,J,H2,e,p,T,j,f2,q⟩:=c;subst e;refine QW (ob:={cls:=.type "dict",data:=.dict #[]}) (o0:=o0) (Q:=λv r=>D.nx (σ.set i (ba v)) r) (RR:=λF C=>Rr (Uu X.prog X.w) X.A X.xe (ba (Hh (.Name y b) X.env)) (λ_ f=>SP X aa D .next f) F C) (λz=>Bv z) ?_ hc S m V U o p T j f2 q (CS R n k);rcases M with rfl|rfl;exact LH a.heap p.big;exact FO a.heap p.big
section
variable{X:Cx}{K:Ag}{ml:List Nat}{pi:Bool}{B:Bs}{O:Nat->Option Up}{H H1 H':Hp}{σ:St}{δ δ':Ev}{v:V}{d:cZ}{D:Up}{pos:Pos}{ps:List (List Int)}{ds:List cZ}{p:List Int}
def CY{N M:Up->Prop}(h:bV K N H M v d)(e:tpD d=ba p):∃b,v=.ref b/\H b=ba (.tup (p.map V.int)):=by
 obtain⟨ds,rfl,g,f⟩:=Xk e;cases h.onT with
 |tup sq r=>
  have i:=P5 r g;subst i;rcases sq with sq|⟨o,c,n,_,_,_,_,_,z⟩;exact⟨_,rfl,sq⟩;cases p with
  |nil=>exact absurd rfl f
  |cons a t=>cases z
def gF{N M:Up->Prop}{b:Up}(h:H b=ba (.tup (p.map V.int))):bV K N H M (.ref b) (.tup (p.map .int)):=.tup (.inl h) (GF p)
theorem IV:∀{ds:List cZ}{ps:List (List Int)},NG ds=ba ps->ds.length=ps.length
 |[],_,h=>by cases h;rfl
 |d::ds,ps,h=>by obtain⟨p,_,h⟩:=Aa.mp (show(tpD d).bind (λp=>(NG ds).map λps=>p::ps)=ba ps from h);obtain⟨b,a,h⟩:=Ah.mp h;cases h;simp[IV a]
theorem IU:∀{ds:List cZ}{ps:List (List Int)}{i:Nat}{d:cZ},NG ds=ba ps->ds[i]?=ba d->∃p,ps[i]?=ba p/\tpD d=ba p
 |[],_,_,_,_,h=>by simp at h
 |d::ds,ps,i,e,h,a=>by
  obtain⟨p,c,h⟩:=Aa.mp (show(tpD d).bind (λp=>(NG ds).map λps=>p::ps)=ba ps from h);obtain⟨f,b,h⟩:=Ah.mp h;cases h;cases i with
  |zero=>cases a;exact⟨p,rfl,c⟩
  |succ i=>simpa using IU b (by simpa using a)
def HL{o a:HO}(h:H D=ba o)(n:¬DA o):Fr (λb=>b=D) H (upd H D a):=λc u q k=>by
 by_cases hc:c=D;subst hc;rw[h]at q;cases q;exact absurd (k rfl) n;rw[cL hc];exact q
def AS{o:HO}(h:bI H H')(c:H D=bb):bI H (upd H' D o):=λb u e=>by
 have a:b≠D:=λz=>by rw[z,c]at e;cases e
 rw[cL a];exact h b u e
def IF{κ:Type}[DecidableEq κ]{kvs:List (κ×V)}{k:κ}(h:k∉kvs.map Br):W9 kvs k v=kvs++[(k,v)]:=by unfold W9;refine if_neg λz=>h ?_;obtain⟨x,a,e⟩:=Ri.mp z;exact Hv.mpr ⟨x,a,of_decide_eq_true e⟩
theorem BN:∀{ps:List (List Int)}{i:Nat}{p:List Int},ps[i]?=ba p->ps.flatten=(ps.take i).flatten++(p++(ps.drop (i+1)).flatten)
 |[],_,_,h=>by simp at h
 |q::ps,0,p,h=>by cases h;simp
 |q::ps,i+1,p,h=>by simpa using BN (ps:=ps) (i:=i) (by simpa using h)
def noK(ps:List (List Int)):List Z2:=ps.flatten.map Fl
def noV(ps:List (List Int)):List cZ:=ps.flatMap λp=>p.map λ_=>.tup (p.map .int)
noncomputable def fNO(a:VI):VF:=λδ=>(a δ).bind λp=>(NG p.1).bind λps=>if ps.flatten.Nodup/\ps.flatten.length<=16777216 then ba (.dct (noK ps) (noV ps),p.2)else bb
abbrev tmNO(K:Ag)(D:Up):TM:=tm2 (iTup K (YV 0)) (W0 1) IS (tmD D (YV 1) (YV 0))
def tD{fi:VI}{Q:VK}(h:TN K ml pi (fNO fi) σ H Q):LD K ml pi fi σ H λJ G=>∀D,G D=bb->JC D (.dK []) [] 2 J (W0 0) IS (tmNO K) σ G λH'=>Q (.ref D) H':=by
 obtain⟨B,O,δ,d,δ2,S,q,k⟩:=h;unfold fNO at q;obtain⟨⟨ds,δ1⟩,h1,q⟩:=Aa.mp q;obtain⟨ps,h2,q⟩:=Aa.mp q;split at q;rename_i hn;cases q;refine⟨B,O,δ,ds,δ1,S,h1,λJ kps G S0 f0 p0 wk D X=>?_⟩;have ah:=IV h2;refine⟨λi m H1=>m=ds.length-i/\i<=ds.length/\bI G H1/\∃c,H1 D=ba (.dK c)/\c.map Br=noK (ps.take i)/\cG K (λ_=>True) H1 (c.map By) (noV (ps.take i)),ds.length,⟨rfl,Bz _,cR X,[],cM,rfl,.nil⟩,?_⟩;rintro i m H1 ⟨rfl,hi,R,c,t,C,v⟩;have w:=wk (Nn B O) H1 λp Z=>(S0.same R).kep p (Aq _ Z);by_cases A:i<ds.length;obtain ⟨go,yl⟩ := w.1 i ds[i] (by simp [A]);refine .inr ⟨go,λH'=>bI G H'/\∃c,H' D=ba (.dK c)/\c.map Br=noK (ps.take (i+1))/\cG K (λ_=>True) H' (c.map By) (noV (ps.take (i+1))),λH' w'=>⟨ds.length-(i+1),by lia,rfl,A,w'⟩,λx H2 hy=>?_⟩;obtain⟨r,rx⟩:=yl x H2 hy;obtain⟨p,Z,hp'⟩:=IU h2 (show ds[i]?=ba ds[i] by simp[A]);obtain⟨b,rfl,E⟩:=CY rx hp';have U:=BN Z;have W:b≠D:=λz=>by rw[z,r _ _ t]at E;cases E
 have N:ps.take (i+1)=ps.take i++[p]:=by rw[Lk,Z];rfl
 refine⟨rfl,?_⟩;show tmNO K D [ba (.ref b),bb] H2 _;refine⟨.ref b,rfl,b,rfl,⟨_,.inl E⟩,λj m I Y=>m=p.length-j/\j<=p.length/\(∃z,I=[ba (.ref b),z])/\bI G Y/\Y b=ba (.tup (p.map V.int))/\∃c,Y D=ba (.dK c)/\c.map Br=noK (ps.take i)++(p.take j).map Fl∧
  cG K (λ_=>True) Y (c.map By) (noV (ps.take i)++(p.take j).map λ_=>.tup (p.map .int)),p.length,⟨rfl,Bz _,⟨bb,rfl⟩,R.trans r,E,c,r _ _ t,by simpa using C,by simpa using v.same r⟩,?_⟩
 rintro j m I Y ⟨rfl,hj,⟨z,rfl⟩,P,n,g,F,s,T⟩;by_cases l:j<p.length;refine .inr ⟨⟨_,.int p[j],.inl n,by simp [l]⟩,λL H' => (∃ z,L = [ba (.ref b),z]) /\ bI G H' /\ H' b = ba (.tup (p.map V.int)) /\ ∃ c,H' D = ba (.dK c) /\ c.map Br = noK (ps.take i) ++ (p.take (j + 1)).map Fl ∧
  cG K (λ_=>True) H' (c.map By) (noV (ps.take i)++(p.take (j+1)).map λ_=>.tup (p.map .int)),λL H' w'=>⟨p.length-(j+1),by lia,rfl,l,w'⟩,λy H4 hy4=>?_⟩
 obtain⟨rfl,hx⟩:=hy4;have ex:=hx _ (.inl n);rw[Bo,De l]at ex;cases ex;have hkl:g.length=(ps.take i).flatten.length+j:=by rw[<-Bb (f:=Br),s,Be,noK,Bb,Bb,Cc,Na hj]
 have uc:=congrArg List.length U;simp only[Be]at uc;have j4:Fl p[j]∉g.map Br:=by
  rw[s,noK,<-Dg,Hv];rintro ⟨a,ha,ea⟩;cases ea;have nd:=hn.1;have ep:p.take j++(p[j]::p.drop (j+1))=p:=by rw[<-Cv l,List.take_append_drop]
  rw[U,<-ep,Cw,<-Cw]at nd;exact(Qi.mp nd).2.2 _ ha p[j] Bu rfl
 have M:p.take (j+1)=p.take j++[p[j]]:=by rw[Lk,De l];rfl
 unfold W0 IS tmD YV;simp only[List.set_cons_succ,List.set_cons_zero,if_true];refine⟨.int p[j],rfl,.ref b,rfl,_,.inl ⟨g,.inl p[j],F,rfl,by rw[Bg];lia,rfl⟩,⟨_,rfl⟩,AS P X,by rw[cL W];exact n,g++[(.inl p[j],.ref b)],?_,?_,?_⟩;rw[cM,IF j4];rw[Dg,s,M,Dg,Cw];rfl;rw[Dg,M,Dg,<- Cw];refine cG.append (T.fr (HL F (λz=>z)) λ_ _=>trivial) (.cons (gF ?_) .nil);rw[cL W];exact n;obtain rfl : j = p.length := by lia
 refine .inl ⟨⟨_,.inl n,by simp⟩,rfl,P,g,F,?_,?_⟩;rw[s,N,noK,noK,List.flatten_append,Dg,List.take_length];simp;rw[N,noV,List.flatMap_append];simpa[noV]using T
 obtain rfl : i = ds.length := by lia
 rw[Fc (by lia)]at C v;refine .inl ⟨w.2,k D H1 ?_⟩;have SL:=S0.unkeep.laid (o:=.dK c) X;refine⟨SL.same λb u e=>?_,f0.trans R.fr,λz=>(p0 z).trans R,?_,S0.unkeep.new X,S0.fresh X⟩;by_cases E:b=D;subst E;rw[cM]at e;cases e;exact t;rw[cL E]at e;exact R b u e;rw[<- C];exact .dct t (v.mono λ_ _=>trivial);cases q
structure qH(Y:Cx)(tg it2 tg2 kx vx:Uv):Prop where
 a:PG Y tg (W0 0)
 b:PE Y it2 (YV 0)
 c:PG Y tg2 (W0 1)
 d:PE Y kx (YV 1)
 e:PE Y vx (YV 0)
def gH{i:Nat}{y:Uq}{t u:Pos}{tg iter j f kx vx:Uv}{scope:Vd}{r:VI}(w:X.A.units+1<cLine)(F:X.N.Nodup)(N':List Uq)(E:PI X tg iter (LD K ml pi r))(s:N'.Nodup->∀(cl:List (Uq×Up)) (k:Ad) (H1:Hp) (fp:List Up),qH (a6 X N' scope cl k H1 fp) tg f j kx vx)(q:X.N[i]?=ba y:=by rfl)(v:X.env.scope.names.lookup y=ba .local:=by rfl)(G:X.K=K:=by rfl)(hc:X.calm=bc:=by rfl)(C:scope.kind=.function:=by rfl)(n:SK X.N N' [] scope.names X.env.kindOf=bc:=by rfl)(p:N'.length=2:=by rfl)(B:i∉ml:=by decide)(l:Va (.DictComp kx vx [⟨tg,iter,[],0⟩,⟨j,f,[],0⟩] scope pos) (ba (.Name y t)) u.line X.env=pure bc:=by rfl)(hs:∀x,Ux iter X.env x=pure x:=by intro _;rfl)(m:∀(env:Env) (x:Uo),Ux f env x=pure x:=by intro _ _;rfl):PS X (.Assign [.Name y t] (.DictComp kx vx [⟨tg,iter,[],0⟩,⟨j,f,[],0⟩] scope pos) u) (WZ K ml (aN i (xO (fNO r)))):=by subst G;have S:=X2 C n;refine(CI (ix:=[]) (nl:=2) (g:=W0 0) (tt:=IS) (tm:=tmNO X.K) (.inl rfl) F q v hc S (by simpa using p) E (λcl k H1 fp=>?_) l hs).imp λD σ H h=>Xb (x:=xO (fNO r)) (λσ H Q z=>tD (Wp (o:=bc) (pu:=pi) z)) B h;obtain⟨a,b,c,d,e⟩:=s S.nd cl k H1 fp;exact⟨a,M7,λD=>⟨_,lpD2,Yu rfl hc (Wr b) c M7 lpD3 (CF rfl (Lj w) d e) λx=>m _ x⟩⟩
end
section
variable{X:Cx}{K:Ag}{ml:List Nat}{pi:Bool}{B:Bs}{O:Nat->Option Up}{H H1 H':Hp}{σ:St}{δ δ':Ev}{v:V}{d:cZ}{D:Up}{pos:Pos}{ps:List (List Int)}{ds:List cZ}{p:List Int}{ls:List Up}{lls:List (List cZ)}
def WP(B:Bs)(ls:List Up):Bs:=ls.foldl Bs.add B
theorem N9{a:Up}:∀{ls:List Up}{B:Bs},(WP B ls).Z a↔B.Z a∨a∈ls
 |[],_=>by simp[WP]
 |l::ls,B=>by show(WP (B.add l) ls).Z a↔_;rw[N9];show(B.Z a∨a=l)∨a∈ls↔_;rw[Bj,or_assoc]
theorem MX:∀{ls:List Up}{B:Bs},(WP B ls).H0=B.H0
 |[],_=>rfl
 |l::ls,B=>MX (ls:=ls) (B:=B.add l)
def iW{l:Up}:WP B (ls++[l])=(WP B ls).add l:=by simp[WP]
theorem bN.unadds:∀{ls:List Up}{B:Bs},bN K ml (WP B ls) O H σ δ->bN K ml B O H σ δ
 |[],_,S=>S
 |_::ls,_,S=>(bN.unadds (ls:=ls) S).unadd
def bN.setNo(S:bN K ml B O H σ δ){i:Nat}{v:V}(h:i∉ml):bN K ml B (λj=>if j=i then bb else O j) H (σ.set i (ba v)) (δ.set i .no):=by
 have c:=S.setVa (i:=i) h (bV.non (K:=K) (N:=Nn B O) (H:=H) (M:=Nn B O));have no:∀{j:Nat}{s:Sl},(δ.set i .no)[j]?=ba s->s≠ .no->j≠i/\(δ.set i (.va .non))[j]?=ba s:=λ{j s} q n=>by
  rcases UH q with⟨rfl,z,_⟩|⟨b,q⟩;exact absurd z n;exact⟨b,by rw[Az (Dm b)];exact q⟩
 have g:∀{j:Nat}{x:Option V},j≠i->(σ.set i (ba .non))[j]?=ba x->(σ.set i (ba v))[j]?=ba x:=λ{j x} b q=>by rw[Az (Dm b)]at q⊢;exact q
 refine⟨by rw[Ct,Ct,S.len],λj e q=>?_,λj e q=>?_,λj a e=>?_,c.inj,c.old,c.zin,c.frm,c.par,c.pin,c.kep⟩;obtain ⟨b,q⟩ := no q (λz => nomatch z);obtain⟨u,f,r⟩:=c.va j e q;exact⟨u,g b f,r⟩;obtain ⟨b,q⟩ := no q (λz => nomatch z);obtain⟨a,f,k,w⟩:=c.ow j e q;exact⟨a,f,g b k,w⟩;by_cases b:j=i;simp[b]at e;obtain ⟨d,q⟩ := S.dom j a (by simpa [b]using e);exact⟨d,by rw[Az (Dm b)];exact q⟩
def G5(ps:List (List Int)):List (List Ky):=ps.map λp=>p.map Fl
structure E7(K:Ag)(B:Bs)(H:Hp)(D:Up)(ls:List Up)(ps:List (List Int))(lls:List (List cZ)):Prop where
 dic:H D=ba (.dT ((G5 ps).zip (ls.map V.ref)))
 len:ls.length=ps.length
 ln2:lls.length=ps.length
 all:∀(j:Nat) l ds,ls[j]?=ba l->lls[j]?=ba ds->∃xs,H l=ba (.lst xs)/\cG K (λ_=>True) H xs ds
 nd:ls.Nodup
 nz:∀l∈ls,¬(B.add D).Z l/\B.H0 l=bb
def E7.fr{kp:List (V×cZ)}(W:E7 K B H D ls ps lls)(S:bN K ml {WP (B.add D) ls with kp:=kp} O H1 σ δ)(f:Fr (OA O) H H1):E7 K B H1 D ls ps lls:=by
 have no:∀a,a=D∨a∈ls->¬OA O a:=λa h z=>by
  obtain⟨i,e⟩:=z;refine(S.old i a e).1 (N9.mpr ?_);rcases h with h|h;exact .inl (.inr h);exact .inr h
 refine⟨f _ _ W.dic λz=>absurd z (no D (.inl rfl)),W.len,W.ln2,λj l ds b k=>?_,W.nd,W.nz⟩;obtain⟨c,g,d⟩:=W.all j l ds b k;exact⟨c,f _ _ g λz=>absurd z (no l (.inr (Cn b))),d.fr f λ_ _=>trivial⟩
def E7.same(W:E7 K B H D ls ps lls)(f:bI H H1):E7 K B H1 D ls ps lls:=
 ⟨f _ _ W.dic,W.len,W.ln2,λj l ds e d=>let ⟨a,c,b⟩:=W.all j l ds e d;⟨a,f _ _ c,b.same f⟩,W.nd,W.nz⟩
def E7.app{j:Nat}{l:Up}{xs:List V}(W:E7 K B H D ls ps lls)(h:ls[j]?=ba l)(r:lls[j]?=ba ds)(q:H l=ba (.lst xs))(p:cG K (λ_=>True) H xs ds)(o:bV K (λ_=>True) H (λ_=>True) v d):E7 K B (upd H l (.lst (xs++[v]))) D ls ps (lls.set j (ds++[d])):=by
 have g:D≠l:=λz=>(W.nz l (Cn h)).1 (.inr z.symm);have f:Fr (λb=>b=l) H (upd H l (.lst (xs++[v]))):=HL q λz=>z;refine⟨by rw[cL g];exact W.dic,W.len,by rw[Ct];exact W.ln2,λi m k e c=>?_,W.nd,W.nz⟩;by_cases a:j=i;subst a;rw[h]at e;cases e;rw[Bx (Ai.mp r).1]at c;cases c;exact⟨_,cM,(p.snoc o).fr f λ_ _=>trivial⟩;rw[Az a]at c;have hl:m≠l:=λz=>by subst z;obtain⟨w,t⟩:=Ai.mp h;obtain⟨u,s⟩:=Ai.mp e;exact a ((Jj W.nd).mp (t.trans s.symm))
 obtain⟨n,q1,q2⟩:=W.all i m k e c;exact⟨n,by rw[cL hl];exact q1,q2.fr f λ_ _=>trivial⟩
theorem Ww:∀{ps:List (List Int)}{ls:List Up}{j:Nat}{l:Up},ps.Nodup->ps[j]?=ba p->ls[j]?=ba l->TY ((G5 ps).zip (ls.map V.ref)) (p.map Fl)=ba (.ref l)
 |[],_,_,_,_,h,_=>by simp at h
 |_::_,[],_,_,_,_,h=>by simp at h
 |q::ps,m::ls,0,l,_,h,g=>by
  cases g;exact U1 (p:=(q.map Fl,V.ref m)) (by rw[Cg (show ba q=ba p from h)])
 |q::ps,m::ls,j+1,l,a,h,g=>by
  obtain⟨c,b⟩:=El.mp a;have h:ps[j]?=ba p:=by simpa using h
  refine(WA (p:=(q.map Fl,V.ref m)) λz=>c ?_).trans (Ww b h (by simpa using g));have:q=p:=(Pp λ_ _ e=>Rt e).mp z;exact this▸Cn h
end
section
variable{X:Cx}{K:Ag}{ml:List Nat}{pi pi2 pt pk pa:Bool}{B:Bs}{O:Nat->Option Up}{H H1 H':Hp}{σ:St}{δ δ':Ev}{v:V}{d:cZ}{D:Up}{pos:Pos}{ps:List (List Int)}{ds:List cZ}{p:List Int}{ls:List Up}{lls:List (List cZ)}
def bN.writeG{o g:HO}(S:bN K ml B O H σ δ)(l:B.Z D)(hl:H D=ba o)(s:¬DA o)(t:B.H0 D=bb):bN K ml B O (upd H D g) σ δ:=by
 have k:Fr (λb=>b=D) H (upd H D g):=HL hl s;have f:∀b,b=D->Nn B O b:=λb z=>.inl (z▸l);have c:∀b,(∃u,H b=ba u)->∃u,upd H D g b=ba u:=λb q0=>by
  obtain⟨u,q⟩:=q0;by_cases j:b=D;exact⟨g,by rw[j];exact cM⟩;exact⟨u,by rw[cL j];exact q⟩
 refine⟨S.len,λi d q=>?_,λi d q=>?_,S.dom,S.inj,S.old,λb h=>c b (S.zin b h),λb u q n=>?_,S.par,λb h=>c b (S.pin b h),λp m=>(S.kep p m).fr k f f⟩;obtain⟨v,e,r⟩:=S.va i d q;exact⟨v,e,r.fr k f f⟩;obtain⟨a,e,x,w⟩:=S.ow i d q;exact⟨a,e,x,w.fr k f λz=>(S.old i a e).1 (z▸l)⟩;have j : b ≠ D := λz => by rw [z,t]at q;cases q
 rw[cL j];exact S.frm b u q n
theorem BC:∀{ls:List Up}{B:Bs},(WP B ls).kp=B.kp
 |[],_=>rfl
 |l::ls,B=>BC (ls:=ls) (B:=B.add l)
def lA{T M:Hp->Prop}(h:T H):IS σ H λb a=>if b=bc then T a else M a:=h
def tE:TE:=λ_ H Q=>∀p,H p=bb->Q (.ref p) (upd H p (.lst []))
def pe_e:PE X (.List [] pos) tE:=(ID ZX).imp λσ H Q h=>⟨Bz _,h⟩
def DQ(p:List Int):(p.map Fl).map kV=p.map V.int:=by rw[Ud];rfl
def dF(h:p.map Fl∈G5 ps):p∈ps:=by
 obtain⟨q,a,e⟩:=Hv.mp h;have:q=p:=(Pp λ_ _ e=>Rt e).mp e;exact this▸a
def rL{fi:VI}{δ1:Ev}{R:Up->Hp->Prop}(S:bN K ml B O H σ δ)(h1:fi δ=ba (ds,δ1))(h2:NG ds=ba ps)(hn:ps.Nodup)(hz:ps.length<=16777216)(k:∀d D ls H1,bN K ml (WP (Bs.add {B with kp:=d++B.kp} D) ls) O H1 σ δ1->E7 K {B with kp:=d++B.kp} H1 D ls ps (ps.map λ_=>[])->B.H0 D=bb->¬B.Z D->R D H1):LD K ml pi fi σ H λJ W=>∀D,W D=bb->JC D (.dT []) [] 1 J (W0 0) IS (λD=>tmD D (YV 0) tE) σ W λH'=>R D H':=by
 refine⟨B,O,δ,ds,δ1,S,h1,λJ d W U f0 p0 wk D N=>?_⟩;have ah:=IV h2;have h0:B.H0 D=bb:=U.fresh N;have E:¬B.Z D:=λz=>U.new N (.inl z);refine⟨λi m H1=>m=ds.length-i/\i<=ds.length/\∃ls,bN K ml (WP (Bs.add {B with kp:=d++B.kp} D) ls) O H1 σ δ1/\E7 K {B with kp:=d++B.kp} H1 D ls (ps.take i) ((ps.take i).map λ_=>[]),ds.length,⟨rfl,Bz _,[],U.laid N,cM,rfl,rfl,λj l ds e=>by simp at e,Nu,λl h=>nomatch h⟩,?_⟩;rintro i m H1 ⟨rfl,hi,ls,T,P⟩;have w:=wk (Nn (WP (Bs.add {B with kp:=d++B.kp} D) ls) O) H1 λp y=>T.kep p (by rw[BC];exact Aq _ y);by_cases q:i<ds.length;obtain ⟨go,yl⟩ := w.1 i ds[i] (by simp [q]);refine .inr ⟨go,λH1=>∃ls,bN K ml (WP (Bs.add {B with kp:=d++B.kp} D) ls) O H1 σ δ1/\E7 K {B with kp:=d++B.kp} H1 D ls (ps.take (i+1)) ((ps.take (i+1)).map λ_=>[]),λH' w'=>⟨ds.length-(i+1),by lia,rfl,q,w'⟩,λx H2 hy=>?_⟩;obtain⟨s,rx⟩:=yl x H2 hy;obtain⟨p,y,F⟩:=IU h2 (show ds[i]?=ba ds[i] by simp[q]);obtain⟨b,rfl,Y⟩:=CY rx F;have Q:=T.same s;have f:=P.same s;have C:ps.take (i+1)=ps.take i++[p]:=by rw[Lk,y];rfl
 have G:=f.len;rw[Cc,Na (by lia)]at G;have j4:p.map Fl∉((G5 (ps.take i)).zip (ls.map V.ref)).map Br:=by
  rw[Rj (by simp[G5,f.len])];intro z;have z:=dF z;obtain⟨hil,e⟩:=Ai.mp y;obtain⟨j,A,g⟩:=List.mem_take_iff_getElem.mp z;have:=(Jj hn).mp (g.trans e.symm);lia
 refine⟨rfl,lA ?_⟩;refine⟨.ref b,rfl,λl hl=>⟨_,.inr ⟨(G5 (ps.take i)).zip (ls.map V.ref),p.map Fl,b,?_,rfl,?_,?_,rfl⟩,rfl,ls++[l],?_⟩⟩;rw [cL (λz => by rw [<- z,f.dic]at hl;cases hl)];exact f.dic;rw [DQ,cL (λz => by rw [<- z,Y]at hl;cases hl)];exact Y;rw[List.length_zip,Bg];simp[G5];lia;have v:D≠l:=λz=>by rw[<-z,f.dic]at hl;cases hl
 have u:∀m,ls[m]? ≠ba l:=λm e=>by
  have A:m<((ps.take i).map λ_=>([]:List cZ)).length:=by
   have:=(Ai.mp e).1
   rw[Bb,Cc,Na (by lia)];lia
  obtain⟨X,h,_⟩:=f.all m l _ e (De A);rw[hl]at h;cases h
 rw[iW];refine⟨(Q.laid hl).writeG (o:=.dT ((G5 (ps.take i)).zip (ls.map V.ref))) (.inl (N9.mpr (.inl (.inr rfl)))) (by rw[cL v];exact f.dic) (λz=>z) ?_,?_⟩;show(WP (Bs.add {B with kp:=d++B.kp} D) ls).H0 D=bb;rw[MX];exact h0;rw[C];refine⟨?_,by simp[f.len],by simp,λj t es r g=>?_,?_,λt h=>?_⟩;rw [cM,IF j4,show G5 (ps.take i ++ [p]) = G5 (ps.take i) ++ [p.map Fl] by simp [G5],Dg,Mv (by simp [G5,f.len])];rfl;rw[List.getElem?_append]at r;split at r;rename_i A;rw[Dg,As (by simp;lia)]at g;obtain⟨X,q1,q2⟩:=f.all j t es r g;have M:t≠l:=λz=>u j (z▸r);have L:t≠D:=λz=>by rw[z,f.dic]at q1;cases q1
 refine⟨X,by rw[cL L,cL M];exact q1,?_⟩;rw[Bo]at g;obtain⟨_,_,rfl⟩:=Ah.mp g;cases q2;exact .nil;rename_i A;have I:=(Ai.mp r).1;simp at I;obtain rfl:j=ls.length:=by lia
 simp at r;subst r;rw[Bo]at g;obtain⟨_,_,rfl⟩:=Ah.mp g;exact⟨[],by rw[cL (Dm v),cM],.nil⟩;refine Qi.mpr ⟨f.nd,by simp,λa ha c hc z => ?_⟩;rw[Au.mp hc]at z;obtain⟨m,e⟩:=Jh.mp ha;exact u m (z▸e);rcases Ez.mp h with h|h;exact f.nz t h;rw[Au.mp h];refine⟨λz=>Q.new hl (.inl (N9.mpr (.inl z))),?_⟩;have:=Q.fresh hl;rw[MX]at this;exact this;obtain rfl : i = ds.length := by lia
 rw[Fc (by lia)]at P;exact .inl ⟨w.2,k d D ls H1 T P h0 E⟩
end
section
variable{X:Cx}{K:Ag}{ml:List Nat}{pi pi2 pt pk pa:Bool}{B:Bs}{O:Nat->Option Up}{H H1 H':Hp}{σ:St}{δ δ':Ev}{v:V}{d:cZ}{D:Up}{pos:Pos}{ps:List (List Int)}{ds:List cZ}{p:List Int}{ls:List Up}{lls:List (List cZ)}{i1 i2 iw:Nat}{fi fp:VI}{tb:VB}{fk fa:VF}
noncomputable def pr2:cZ->Option (cZ×cZ)
 |.tup [a,b]=>ba (a,b)
 |_=>bb
def wtL(i1 i2:Nat)(tb:VB)(fk fa:VF)(ps:List (List Int)):List cZ->List (List cZ)->Ev->Option (List (List cZ)×Ev)
 |[],ls,δ=>ba (ls,δ)
 | d :: r,ls,δ => (pr2 d).bind λz => (tb ((δ.set i1 (.va z.1)).set i2 (.va z.2))).bind λp => if p.1 = bc then (fk p.2).bind λk => (tpD k.1).bind λkey => (fa k.2).bind λa => (ls[ps.idxOf key]?).bind λl =>
   if ps[ps.idxOf key]?=ba key/\a.1.hard=bc/\l.length<16777216 then wtL i1 i2 tb fk fa ps r (ls.set (ps.idxOf key) (l++[a.1])) a.2 else bb else wtL i1 i2 tb fk fa ps r ls p.2
def sWt(iw i1 i2:Nat)(fi fp:VI)(tb:VB)(fk fa:VF):VS:=λδ=>(fi δ).bind λp=>(NG p.1).bind λps=>if ps.Nodup/\ps.length<=16777216/\iw<p.2.length then(fp (p.2.set iw .no)).bind λq=>
 (wtL i1 i2 tb fk fa ps q.1 (ps.map λ_=>[]) q.2).map λr=>.nx (r.2.set iw (.ow (.dcn (G5 ps) (r.1.map .lst))))else bb
abbrev gTwo(K:Ag)(i1 i2:Nat):TG:=gTup K 2 (Wj (W0 i1) (Wj (W0 i2) gNil))
abbrev tApp(K:Ag)(iw:Nat)(tk ta:TE):TE:=tBM K "list" IG (tOp (λx y H Q=>∃a v,x=.ref a/\U4 H a y (ba v)/\Q v H) (YV iw) tk) (N0 ta GQ)
def fM{a:Type}{l:List a}{i:Nat}{x:a}(h:l[i]?=ba x):l.set i x=l:=by
 refine He λj=>?_;by_cases b:i=j;subst b;rw[Bx (Ai.mp h).1,h];rw[Az b]
def jI{En:N5}{res:List (List cZ)}{e:Ev}(L:ps.Nodup)(N:i1∉ml)(M:i2∉ml)(n1:i1≠iw)(n2:i2≠iw)(S:bN K ml (WP (B.add D) ls) O H σ δ)(W:E7 K B H D ls ps lls)(hw:σ[iw]?=ba (ba (.ref D)))(h1:fp δ=ba (ds,e))(h2:wtL i1 i2 tb fk fa ps ds lls e=ba (res,δ'))(k:∀O' H' d kp,bN K ml {WP (B.add D) ls with kp:=kp++(WP (B.add D) ls).kp} O' H' d δ'->E7 K B H' D ls ps res->d[iw]?=ba (ba (.ref D))->En.nx d H'):tFor (LD K ml pi fp) (gTwo K i1 i2) (tIfS (TB K ml pt tb) (Vp (tApp K iw (TV K ml pk bc bc fk) (TV K ml pa bc bc fa))) Vq) En σ H:=by
 refine⟨_,O,δ,ds,e,S,h1,λJ g H1 S1 f1 _ wk=>?_⟩;refine⟨λi m σ H=>m=ds.length-i/\i<=ds.length/\∃O δ lls,bN K ml {WP (B.add D) ls with kp:=g++(WP (B.add D) ls).kp} O H σ δ/\E7 K B H D ls ps lls/\σ[iw]?=ba (ba (.ref D))/\wtL i1 i2 tb fk fa ps (ds.drop i) lls δ=ba (res,δ'),⟨ds.length,rfl,Bz _,O,e,lls,S1,W.fr S1 f1,hw,h2⟩,?_⟩;rintro i m σ H ⟨rfl,hi,O,δ,lls,S,W,hw,c⟩;have w:=wk (Nn (WP (B.add D) ls) O) H λp L=>S.kep p (Aq _ L);by_cases j:i<ds.length;obtain ⟨go,yl⟩ := w.1 i ds[i] (by simp [j]);rw[Cv j]at c;simp only[wtL]at c;obtain⟨⟨za,zb⟩,t,c⟩:=Aa.mp c;obtain⟨⟨Y,f⟩,g2,c⟩:=Aa.mp c;refine .inr ⟨go,λσ H=>∃O δ lls,bN K ml {WP (B.add D) ls with kp:=g++(WP (B.add D) ls).kp} O H σ δ/\E7 K B H D ls ps lls/\σ[iw]?=ba (ba (.ref D))/\wtL i1 i2 tb fk fa ps (ds.drop (i+1)) lls δ=ba (res,δ'),λd H' w'=>⟨ds.length-(i+1),by lia,rfl,j,w'⟩,λx H' hy=>?_⟩;obtain⟨U,V⟩:=yl x H' hy;have eT:ds[i]=.tup [za,zb]:=by
  generalize ds[i]=y at t;unfold pr2 at t;split at t;cases t;rfl;cases t
 rw[eT]at V;cases V.onT with
 | @tup a xs sq r=>
  cases r with
  | @cons va vs _ _ ra r=>
   cases r with
   | @cons F vs _ _ rb r=>
    cases r;have S2:=S.same U;have W2:=W.same U;have S3:=(S2.setVa N ra).setVa M (rb.mono (RJ (o:=bb)) (RJ (o:=bb)));have h:((σ.set i1 (ba va)).set i2 (ba F))[iw]?=ba (ba (.ref D)):=by rw[Az n2,Az n1];exact hw
    refine⟨a,_,rfl,sq,rfl,va,[F],rfl,F,[],rfl,rfl,_,_,_,Y,f,S3,g2,λH4 C=>?_⟩;have T:=W2.fr C.sta C.frm;cases Y with
    |false=>
     rw[if_neg Bw]at c;exact P7 ⟨_,f,lls,C.sta,T,h,c⟩
    |true=>
     rw[if_pos rfl]at c;obtain⟨⟨kd,q⟩,g3,c⟩:=Aa.mp c;obtain⟨key,g4,c⟩:=Aa.mp c;obtain⟨⟨ad,n⟩,g5,c⟩:=Aa.mp c;obtain⟨l0,P,c⟩:=Aa.mp c;split at c;rename_i hc;obtain⟨Z,c2,c3⟩:=hc;have l:ps.idxOf key<ls.length:=by rw[T.len];exact(Ai.mp Z).1
     have u:ls[ps.idxOf key]?=ba ls[ps.idxOf key]:=De l;refine P8 ⟨.ref D,h,_,_,f,kd,q,C.sta,g3,λy H5 A=>?_⟩;have R:=T.fr A.sta A.frm;obtain⟨b,rfl,hb⟩:=CY A.rep g4;obtain⟨E,q5,_⟩:=R.all _ _ _ u P;refine⟨D,.ref ls[ps.idxOf key],rfl,.inr ⟨_,key.map Fl,b,.inl R.dic,rfl,by rw[DQ];exact hb,(Ww L Z u).symm⟩,.inl ⟨rfl,E,W8.of q5⟩,_,_,q,ad,n,A.sta,g5,λG H6 v=>?_⟩;have Q:=R.fr v.sta v.frm;obtain⟨s,I,X⟩:=Q.all _ _ _ u P;refine⟨ls[ps.idxOf key],s,G,rfl,rfl,I,by rw[X.length,Bg];exact c3,_,n,_,v.sta.writeG (o:=.lst s) (N9.mpr (.inr (Me l))) I (λz=>z) ?_,Q.app u P I X (v.rep.hard c2),h,c⟩;show(WP (B.add D) ls).H0 _=bb;rw[MX];exact(Q.nz _ (Me l)).2;cases c
 obtain rfl : i = ds.length := by lia
 rw[Gd]at c;cases c;exact .inl ⟨w.2,k O H σ g S W hw⟩
end
structure fX(Y:Cx)(tg kx:Uv):Prop where
 a:PG Y tg (W0 0)
 b:PE Y kx (YV 0)
def gP{X:Cx}{K:Tv}{ml:List Nat}{pi C pt pk pa:Bool}{iw i1 i2:Nat}{y:Uq}{py pl pos c9 p E af t qv t9 uh:Pos}{tg iter kx m U c f s:Uv}{scope:Vd}{fi fp:VI}{P:VB}{fk fa:VF}{g':VS}{rest:List Vb}(hu:X.A.units+1<cLine)(hN:X.N.Nodup)(N':List Uq)(hi:PI X tg iter (LD K ml pi fi))(blk:N'.Nodup->∀(cl:List (Uq×Up)) (Q:Ad) (u:Hp) (fp:List Up),fX (a6 X N' scope cl Q u fp) tg kx)(hp:Mn (Uu X.prog X.w) X.A X.env X.xe)(hi2:PI X m U (LD K ml C fp))(hg:PG X m (gTwo X.K i1 i2))(ht:PT X c (TB K ml pt P))(ho:PE X (.Name y p) (YV iw))(hk:PE X f (TV K ml pk bc bc fk))(ha:PE X s (TV K ml pa bc bc fa))(hr:X4 X rest (WZ K ml g'))(hi':X.N[iw]?=ba y:=by rfl)(hy:X.env.scope.names.lookup y=ba .local:=by rfl)(hK:X.K=K:=by rfl)(hc:X.calm=bc:=by rfl)(hk':scope.kind=.function:=by rfl)(hok:SK X.N N' [] scope.names X.env.kindOf=bc:=by rfl)(hnl:N'.length=1:=by rfl)(L:iw∉ml/\i1∉ml/\i2∉ml/\i1≠iw/\i2≠iw:=by decide)(W:Va (.DictComp kx (.List [] pl) [⟨tg,iter,[],0⟩] scope pos) (ba (.Name y py)) c9.line X.env=pure bc:=by rfl)(hs:∀x,Ux iter X.env x=pure x:=by intro _;rfl)(Y:∀x,Ux U X.env x=pure x:=by intro _;rfl)(hx:PB f:=by exact λ_ _=>rfl)(ay:Ca (.Subscript (.Name y p) f E) "append" X.env (eval (.Subscript (.Name y p) f E) X.env)=eval (.Subscript (.Name y p) f E) X.env:=by rfl)(cf:((Co t (Us [s] X.env)).all (λx=> !x.1)&&(Ej t (Ck [] X.env)).all (λx=>x.1.isSome)&&decide (([s]:List Uv).length+([]:List Gr).length+(if([]:List Gr).isEmpty then 0 else 1)<30))=bc:=by rfl)(aw:(af.endLine==t.line)=bc:=by rfl)(I:SE X s []:=by rfl)(au:(Co t (Us [] X.env)).any (·.1)=be:=by rfl)(tj:Va (.Call (.Attribute (.Subscript (.Name y p) f E) "append" af) [s] [] t) bb qv.line X.env=pure be:=by rfl):X4 X (.Assign [.Name y py] (.DictComp kx (.List [] pl) [⟨tg,iter,[],0⟩] scope pos) c9:: .For m U [.If c [.Expr (.Call (.Attribute (.Subscript (.Name y p) f E) "append" af) [s] [] t) qv] [] t9] [] uh::rest) (WZ K ml (cH (sWt iw i1 i2 fi fp P fk fa) g')):=by
 subst hK;obtain⟨L,hm1,hm2,n1,n2⟩:=L;have S:=X2 hk' hok;refine(UV (CI (ix:=[]) (nl:=1) (g:=W0 0) (tt:=IS) (tm:=λD=>tmD D (YV 0) tE) (.inr rfl) hN hi' hy hc S (by simpa using hnl) hi (λcl Q u fp=>?_) W hs)
  (UV (ED hp hc hi2 hg (CJ (Vx ht (CJ (QD (Zk Et Fz Ga RY (Xq (Vn hu) ho hk hx) (bA ha ZX I) ay cf aw I au) tj)) IE)) Y) hr)).imp λD σ H Z=>?_
 obtain⟨a,b⟩:=blk S.nd cl Q u fp;exact⟨a,M7,λD=>⟨_,lpD1,CF rfl (Lj hu) b pe_e⟩⟩;obtain⟨B,O,δ,o,S,q,k⟩:=Z;unfold cH at q;obtain⟨z,q1,q⟩:=Aa.mp q;unfold sWt at q1;obtain⟨⟨ds,δ1⟩,h1,q1⟩:=Aa.mp q1;obtain⟨ps,h2,q1⟩:=Aa.mp q1;split at q1;rename_i J;obtain⟨J,hz,hl⟩:=J;obtain⟨⟨ds2,δ2⟩,h3,q1⟩:=Aa.mp q1;obtain⟨⟨r,δ3⟩,h4,q1⟩:=Ah.mp q1;cases q1;refine rL (R:=λM u=>tFor (LD X.K ml C fp) (gTwo X.K i1 i2) (tIfS (TB X.K ml pt P) (Vp (tApp X.K iw (TV X.K ml pk bc bc fk) (TV X.K ml pa bc bc fa))) Vq) {D with nx:=WZ X.K ml g' D} (σ.set iw (ba (.ref M))) u) S h1 h2 J hz λF M ls u S1 W1 h0 V=>?_;refine jI J hm1 hm2 n1 n2 (S1.setNo L) W1 (Bx (by rw[S1.len];exact hl)) h3 h4 λO' H' σ' kp S' n G=>?_;have S2:=S'.unkeep.unadds;have T:∀l∈ls,¬Nn (Bs.add {B with kp:=F++B.kp} M) O' l:=λl h z=>by
  rcases z with z|⟨i,e⟩;exact(n.nz l h).1 z;exact(S'.old i l e).1 (N9.mpr (.inr h))
 have own:=RM.dcn (K:=X.K) (N:=Nn (Bs.add {B with kp:=F++B.kp} M) O') (ds:=r.map .lst) n.dic (by rw[Rh (by simp[G5,n.len])];refine cG.of (by simp[n.len,n.ln2]) λj v d e1 e2=>?_;rw[Bo]at e1 e2;obtain⟨l,f1,rfl⟩:=Ah.mp e1;obtain⟨es,f2,rfl⟩:=Ah.mp e2;obtain⟨xs,g1,g2⟩:=n.all j l es f1 f2;exact .lst g1 (T l (Cn f1)) (g2.mono λ_ _=>trivial));rw[Rj (by simp[G5,n.len])]at own;have S3:=S2.setOw (i:=iw) L (by rw[<-S2.len];exact(Ai.mp G).1) V h0 own;rw[fM G]at S3;exact⟨B,_,_,o,S3.unkeep,q,k⟩;cases q1
section
variable{prog:Ao}{w:Uw}{A:Bp}{E:Uo->Ad->Prop}{s:Ad}{d it:Up}{es:Array Ff}{ep i:Nat}
def N6(h:Uy)(d:Up)(es:Array Ff)(ep:Nat):Prop:=∃o,h.get? d=ba o/\o.ExactDict/\o.data=.dict es ep
def N6.ty(x:N6 s.heap d es ep):s.TypeIs (.ref d) "dict":=let ⟨o,h,c,_⟩:=x;⟨o,h,c.1⟩
def N6.at{h h':Uy}(x:N6 h d es ep)(k:∀o,h.get? d=ba o->h'.get? d=ba o):N6 h' d es ep:=let ⟨o,e,r⟩:=x;⟨o,k o e,r⟩
def GD{Q:Uo->Ad->Prop}(lo:(d==Dv)=be)(x:N6 s.heap d es ep)(q:Q (.ref s.heap.objs.size) {s with heap:=s.heap.push {cls:=.type "dict_keyiterator",data:=.fields #[.ref d,.int 0 0,.int es.size 0,.int ep 0]}}):Ut (Uu prog w) A (Rz (.ref d)) Q E s:=by have ty:=x.ty;obtain⟨o,b,hc,e⟩:=x;refine wpAny_pyIter_slot ty Rk (Cf Rk ty F.entry_dict_iter ?_ (F.args_dict_iter_1 _));unfold Ey.«dict.__iter__» Builtin.Dict.dictSlotNone;refine Ab (Ab (wpAny_notOrdered_dict ty (Of (a:=An d) rfl ?_)));show Ut _ _ (Nb d>>=_) _ _ s;unfold Nb;rw[if_neg (by rw[lo];exact Bw)];exact Ab (Af (Ab (Iz b e (Ab (wpAny_dictEpoch b e (Ab (Bv (Af ⟨_,rfl,"dict_keyiterator",_,⟨_,Al _ rfl,rfl⟩,F.slot_dict_keyiterator_next.lookup,by simpa[rawInt]using q⟩))))))))
def MJ{Q:Option Uo->Ad->Prop}(r:A.handled=bb)(g:s.heap.IsKeyIter it d i es.size ep)(x:N6 s.heap d es ep)(p:∀e h',es[i]?=ba e->h'.IsKeyIter it d (i+1) es.size ep->Ek it s.heap h'->Q (ba e.key) {s with heap:=h'})(n:es[i]?=bb->∀h',Ja it s.heap h'->Q bb {s with heap:=h'}):Ut (Uu prog w) A (pyNext (.ref it)) Q E s:=by
 have ty:=g.typeIs;obtain⟨o,k,hc,j⟩:=g;obtain⟨od,f,t,h⟩:=x;unfold pyNext;refine Ab (Lv (Ci (name:=Ef "__next__") ty Jq (Cf Jq ty F.entry_dict_keyiterator_next (Ab (Af (Ab (Ab (Ab (Ge ty (Af (Ab (wpAny_fieldsOf k j ?_))))))))) (F.args_dict_keyiterator_next_1 _))));simp only[show Rs "dict_keyiterator"=be by decide,Eo,if_false];show Ut _ _ (if(An d==Value.none)=bc then _ else _) _ _ s;rw[if_neg (show¬((An d==Value.none)=bc) from Bw)];refine Ab (Af (Ab (Iz f h ?_)));rw[if_neg (by simp)];refine Ab (Af (Ab (wpAny_dictEpoch f h ?_)));rw[if_neg (by simp)];refine Af ?_;simp only[show¬((i:Int)<0) from by lia,if_false,Lf];cases q:es[i]? with
 |some e=>
  refine Ab (Ab (Ge ty (Af (Ab (Nc ty ?_)))));show Ut _ _ (setField (.ref it) 1 (rawInt ((i:Int)+1))>>=_) _ _ s;refine Ab (Kt k j (by simp) ?_);have l:(s.heap.update it (Lx (·.setIfInBounds 1 (rawInt ((i:Int)+1))))).IsKeyIter it d (i+1) es.size ep:=
   ⟨_,Gv _ k (Mw (Im j _)),(Qd ..).trans hc,by rw[Im j];simp[rawInt]⟩
  refine Ab (Bf (Ab (Nc (s:={s with heap:=s.heap.update it (Lx (·.setIfInBounds 1 (rawInt ((i:Int)+1))))}) l.typeIs ?_)));show Ut _ _ (pure e.key) _ _ _;exact Af (Af ⟨_,rfl,Af (p e _ q l (Hs ..))⟩)
 |none=>
  refine Ab (Ab (Ge ty (Af ?_)));show Ut _ _ (setField (.ref it) 0 .none>>=_) _ _ s;refine Ab (Kt k j (by simp) ?_);show Ut _ _ (newExc (.type "StopIteration") []>>=_) _ _ _;refine Ab ?_;simp only[newExc,newTuple];refine Ab (Bv ?_ (by size_fits));refine Ab (m:=Ku _ _) (Of (a:=Value.none) (by first|rfl|(simp only[Ku];rfl)) (Bv ?_ (by size_fits)));simp only[raiseNew];refine Ab (wpAny_handled ?_);rw[show A.in1.handled=bb from r];refine Ab (Af (wpAny_throw ?_));refine Ab (wpAny_isInstance (T:= "StopIteration") (b:=bc) ⟨_,Al _ rfl,rfl⟩ isSubtype_stop ?_);exact Af (n q _ (((Hs ..).extBut.push _).push _))
def dE(l:A.handled=bb){I:Up}(ne:d≠I):Walks prog w A I [I,d] [I] es.size (λi v=>∃e,es[i]?=ba e/\v=e.key) (λi h=>h.IsKeyIter I d i es.size ep/\N6 h d es ep) where
 sub:=λb a=>by simp at a;simp[a]
 frame:=λ_ _ _ st k=>⟨st.1.at λo e=>k I (by simp) o e,st.2.at λo e=>k d (by simp) o e⟩
 item:=λi s Q E n st f=>MJ l st.1 st.2 (λe g q m c=>f e.key g s.toks ⟨e,q,rfl⟩ ⟨m,st.2.at λo e=>c.extBut d o ne e⟩ λb o a e=>c.extBut b o (λh=>a (by simp[h])) e) λq=>by simp[n]at q
 done:=λs Q E st f=>MJ l st.1 st.2 (λe g q=>by simp at q) λ_ g j=>f g s.toks λb o a e=>j b o (λh=>a (by simp[h])) e
 self:=λ_ _ _ _ st f=>Nl st.1 f
def mC(lo:(d==Dv)=be):W.KdlSrc prog w "dict" d d es.size (λi v=>∃e,es[i]?=ba e/\v=e.key) (λh=>N6 h d es ep) where
 type:=λ_ x=>x.ty
 there:=λ_ ⟨_,h,_⟩=>⟨Aj h,Aj h⟩
 keep:=λ_ _ x b=>x.at λo e=>b d (.inl rfl) o e
 notList:=by decide
 notTuple:=by decide
 hint:=λ_ _ _ _ x a=>W.kdl_hint_dict x.ty a
 iter:=λ_ _ c x=>⟨_,_,(λ_ _ a=>GD lo x a),dE c (let ⟨_,h,_⟩:=x;Ap (Aj h)),⟨⟨_,Al _ rfl,rfl,rfl⟩,x.at λo e=>Ac _ e⟩⟩
def rS{Q:Uo->Ad->Prop}(lo:(d==Dv)=be)(x:N6 s.heap d es ep)(hz:es.size<=sizeLine)(q:∀t s',s'={s with toks:=s.toks+1+1}->Q (.int es.size t) s'):Ut (Uu prog w) A (call (.builtin "len") [.ref d]) Q E s:=by have ty:=x.ty;obtain⟨o,b,_,c⟩:=x;rw[Bg]at hz;refine Hq kind_len plain_len entry_len (args_len1 _) ?_;unfold Ey.«len»;refine Ab (m:=oneArg "len" _) (Af (Ab (m:=callSpecial? (.ref d) (Ef "__len__")) (Ci (name:=Ef "__len__") ty Sj (Cf Sj ty F.entry_dict_len ?_ (F.args_dict_len_1 _)))));show Ut _ _ (dictSize d>>=_) _ _ s;unfold dictSize;refine Ab (Ab (Iz b c (Af ?_)));show Ut _ _ (Builtin.Dict.pendingCount d>>=_) _ _ s;refine Ab (wpAny_pendingCount_other lo (wpAny_ret_mkInt ?_));rw[show((es.size:Int)+((0:Nat):Int))=es.size by simp];refine Ab (Bf (Af (Ab (Og ?_))));show Ut _ _ (if((es.size:Nat):Int)<0 then _ else _) _ _ _;rw[if_neg (by lia)];show Ut _ _ (if((es.size:Nat):Int)≥2 ^ 63 then _ else _) _ _ _;rw[if_neg (by lia)];exact Ab (wpAny_mkInt (Af ⟨_,rfl,q _ _ rfl⟩))
end
section
variable{X:Cx}{K:Ag}{ml:List Nat}{e a b c:Uv}{pa pb pu ta ia tb ib:Bool}{fk fv fa fb:VF}{B:Bs}{O:Nat->Option Up}{H H1 H':Hp}{σ:St}{δ δ':Ev}{v:V}{d:cZ}{pos:Pos}{ks:List (List Ky)}{ds:List cZ}
def bV.onK{N M:Up->Prop}(h:bV K N H M v (.dcn ks ds)):∃(a:Up) (kvs:List (List Ky×V)),v=.ref a/\H a=ba (.dT kvs)/\ks=kvs.map Br/\cG K N H (kvs.map By) ds:=by
 generalize b:cZ.dcn ks ds=d at h;cases h with
 |dcn q n r=>cases b;exact⟨_,_,rfl,q,rfl,r⟩
 |_=>cases b
def tkD(d:cZ):Option (List Ky):=(tpD d).map λp=>p.map Fl
def Vo{N M:Up->Prop}{k:List Ky}(h:bV K N H M v d)(e:tkD d=ba k):∃b,v=.ref b/\H b=ba (.tup (k.map kV)):=by obtain⟨p,a,rfl⟩:=Ah.mp e;rw[DQ];exact CY h a
def inT(k:List Ky)(ks:List (List Ky)):Bool:=ks.any λj=>decide (j=k)
def oInT(neg:Bool)(d:cZ):cZ->Option cZ
 |.dcn ks _=>(tkD d).map λk=>.bl (neg !=inT k ks)
 |_=>bb
def rInT(neg:Bool):R2:=λx y H Q=>∃l o,y=.ref l/\U4 H l x o/\Q (.bl (neg !=o.isSome)) H
def gD(c:X.A.units+1<cLine):XR X (Cd .In) (rInT be):=by intro aa s σ H x y v u Q I b a h;obtain⟨l,o,rfl,g,q⟩:=h;cases a;exact d_in c I g b λe d=>⟨.bl o.isSome,H,d,rfl,by simpa using q⟩
def pC(c:X.A.units+1<cLine):XR X (Cd .NotIn) (rInT bc):=by intro aa s σ H x y v u Q I b a h;obtain⟨l,o,rfl,g,q⟩:=h;cases a;exact BL c I g b λe d=>⟨.bl (!o.isSome),H,d,rfl,by simpa using q⟩
def pW{kvs:List (List Ky×V)}{k:List Ky}:(TY kvs k).isSome=inT k (kvs.map Br):=by unfold inT;rw[<-QH,Qu];rfl
def Wx{neg:Bool}:O9 K (rInT neg) (oInT neg):=by
 intro H N n M o x y d e c Q i g h k;cases e with
 |dcn ks ds=>
  obtain⟨m,l,rfl⟩:=Ah.mp (show(tkD d).map _=ba c from h);obtain⟨a,f,rfl,q,rfl,_⟩:=g.onK;obtain⟨b,rfl,j⟩:=Vo i l;exact⟨a,_,rfl,U4.t q j,by rw[pW];exact k _ λ_ _ _=>.bl _⟩
 |_=>cases h
def FY:List (List Ky)->List cZ->List Ky->Option cZ
 |a::ks,d::ds,k=>if a=k then ba d else FY ks ds k
 |_,_,_=>bb
theorem J0{N:Up->Prop}{k:List Ky}:∀{kvs:List (List Ky×V)}{ds:List cZ}{d:cZ},cG K N H (kvs.map By) ds->FY (kvs.map Br) ds k=ba d->∃v,TY kvs k=ba v/\bV K N H N v d
 |[],_,_,.nil,e=>by cases e
 | (k',v) :: kvs,_,d,.cons h t,e => by
  by_cases a:k'=k;simp[FY,a]at e;subst e;exact⟨v,U1 (p:=(k',v)) a,h⟩;obtain ⟨w,c,b⟩ := J0 (k := k) (d := d) t (by simpa [FY,a]using e);exact⟨w,(WA (p:=(k',v)) a).trans c,b⟩
def oIxT:cZ->cZ->Option cZ
 |.dcn ks ds,d=>(tkD d).bind λk=>FY ks ds k
 |_,_=>bb
def sT:OpI K (λx y H Q=>∃a v,x=.ref a/\U4 H a y (ba v)/\Q v H) oIxT:=by
 intro H N p M s x y d e c Q i g h k;cases d with
 |dcn ks ds=>
  obtain⟨o,l,h⟩:=Aa.mp (show(tkD e).bind _=ba c from h);obtain⟨a,f,rfl,q,rfl,r⟩:=i.onK;obtain⟨b,rfl,j⟩:=Vo g l;obtain⟨v,n,m⟩:=J0 r h;exact⟨a,v,rfl,n▸U4.t q j,k v m⟩
 |_=>cases h
def vixT(d:X.A.units+1<cLine)(f:PE X a (TV K ml pa ta ia fa))(e:PE X b (TV K ml pb tb ib fb))(c:PB b:=by exact λ_ _=>rfl)(hs:(pb || (ta&&ia))=bc:=by rfl):PE X (.Subscript a b pos) (TV K ml (pa&&pb) ia ia (f2 oIxT fa fb)):=Zi (Vn d) sT f e c hs
def Vz:cZ->Option cZ
 |.dcn ks _=>ba (.int ks.length)
 |_=>bb
def Yv:RC:=λb H Q=>∃(p:Up) (a:List (List Ky×V)),b=[.ref p]/\H p=ba (.dT a)/\Q (.int a.length) H
def sB:aV X (.builtin "len") Yv:=by
 intro aa s σ H m n Q I r h;obtain⟨p,a,rfl,e,q⟩:=h;obtain⟨u,rfl,d⟩:=U2 r;cases d;obtain⟨z,lo,l,b,o,k,x,j,i,g,f,_⟩:=(show a5 X.prog X.w H s.heap p (.dT a) from I.hok p _ e);have hl:k.size=a.length:=by rw[<-Df,f,Bb,<-Hz b]
 refine rS lo ⟨o,j,i,g⟩ (by rw[hl];exact z) λt v c=>?_;subst c;rw[hl];exact⟨.int a.length,H,I.tok _,⟨t,rfl⟩,q⟩
def rQ:C9 K Yv Vz:=by
 intro H N M x d c Q e h k;cases d with
 |dcn ks ds=>
  cases h;obtain⟨a,b,rfl,q,rfl,_⟩:=e.onK;exact⟨a,b,rfl,q,k _ λ_ _ _=>by rw[Bb];exact .int _⟩
 |_=>cases h
def kDat:Z2->cZ
 |.inl i=>.int i
 |.inr x=>.str x
theorem Vm{N:Up->Prop}:∀k:List Ky,cG K N H (k.map kV) (k.map kDat)
 |[]=>.nil
 |.inl _::k=>.cons (.int _) (Vm k)
 |.inr _::k=>.cons (.str _) (Vm k)
def Wz:cZ->Option cZ
 |.dcn ks _=>ba (.lst (ks.map λk=>.tup (k.map kDat)))
 |_=>bb
def Yz:RC:=λd H Q=>∃(p:Up) (a:List (List Ky×V)),d=[.ref p]/\H p=ba (.dT a)/\∀(l:Up) (bs:List Up),H l=bb->bs.length=a.length->(∀(j:Nat) b,bs[j]?=ba b->∃c,a[j]?=ba c/\H b=ba (.tup (c.1.map kV)))->Q (.ref l) (upd H l (.lst (bs.map V.ref)))
theorem ME{b a:Type}{F:b->a->Prop}:∀{l:List b}{m:List a}{j:Nat}{y:a},Paired F l m->m[j]?=ba y->∃x,l[j]?=ba x/\F x y
 |_,_,_,_,.nil,e=>by simp at e
 |_,_,0,_,.cons h _,e=>by cases e;exact⟨_,rfl,h⟩
 |_,_,j+1,_,.cons _ t,e=>by simpa using ME t (by simpa using e)
theorem GZ:∀{bs:List Up}{us:List Uo},us=bs.map An->bS (bs.map V.ref) us
 |[],_,h=>by subst h;exact .nil
 |_::_,_,h=>by subst h;exact .cons rfl (GZ rfl)
def sK(hc:X.calm=bc):aV X (.type "list") Yz:=by
 intro aa s σ H T U Q I r h;obtain⟨p,d,rfl,e,q⟩:=h;obtain⟨u,rfl,C⟩:=U2 r;cases C;obtain⟨z,lo,k,g,o,l,x,O,N,M,v,_⟩:=(show a5 X.prog X.w H s.heap p (.dT d) from I.hok p _ e);have f:k.length=d.length:=(Hz g).symm;have hl:l.size=d.length:=by rw[<-Df,v,Bb,f]
 refine W.kdl_call (mC (es:=l) (ep:=x) lo) (I.ok.hd hc) ⟨o,O,N,M⟩ (by rw[hl];exact z) λY B i c F J A=>?_;have S:i.toList=(k.map λy=>y.2.1).map An:=by
  refine He λj=>?_;by_cases m:j<i.size;obtain ⟨Z,t,L⟩ := A.2 j i[j] (by simp [m]);rw[<-Ji,v,Bo]at t;obtain⟨y,K,rfl⟩:=Ah.mp t;rw[Ud,Bo,K,Ji,Array.getElem?_eq_getElem m,L];rfl;rw[Cj (by rw[Df];lia),Cj (by
   have:=A.1
   simp;lia)]
 have G:=I.hok.fresh (Am s.heap.objs.size);refine⟨.ref s.heap.objs.size,_,I.laid (a:=s.heap.objs.size) (o:=.lst ((k.map λy=>y.2.1).map V.ref)) (t':=B) F (Am _) ⟨by simp;rw[f];exact z,i.toList,c,GZ S,by simpa using J⟩,rfl,q _ _ G (by simp[f]) λj b n=>?_⟩;rw[Bo]at n;obtain⟨y,E,rfl⟩:=Ah.mp n;obtain⟨D,R,_,P,_⟩:=ME g E;exact⟨D,R,P⟩
def uQ:CalN K Yz Wz:=by
 intro H N M x d c Q i h k;cases d with
 |dcn ks ds=>
  cases h;obtain⟨a,e,rfl,q,rfl,_⟩:=i.onK;refine⟨a,e,rfl,q,λl bs hl n m=>k l _ _ hl (cG.of (by simp[n]) λj v d g f=>?_) rfl⟩;rw[Bo]at g f;obtain⟨b,f1,rfl⟩:=Ah.mp g;obtain⟨s,f2,rfl⟩:=Ah.mp f;obtain⟨r,p,o⟩:=m j b f1;rw[Bo,p]at f2;cases f2;exact .tup (UN.of o) (Vm _)
 |_=>cases h
def jC:PE X (.Dict [] [] pos) (TN K ml bc (fC (.dcn [] []))):=zD7.imp λσ H Q b=>by obtain⟨B,O,δ,d,δ',S,q,k⟩:=b;cases q;exact λp a=>k p _ ⟨S.laid a,(Fr.refl _ _).trans (cR a).fr,λ_=>(bI.refl _).trans (cR a),.dcn (kvs:=[]) cM .nil,S.new a,S.fresh a⟩
noncomputable def ownT(δ:Ev)(i:Nat):Option (List (List Ky)×List cZ):=match δ[i]? with
 |some (.ow (.dcn ks ds))=>ba (ks,ds)
 |_=>bb
def AA{i:Nat}{z:List (List Ky)×List cZ}(h:ownT δ i=ba z):δ[i]?=ba (.ow (.dcn z.1 z.2)):=by
 unfold ownT at h;split at h;cases h;assumption;cases h
def bN.owT{i:Nat}{z:List (List Ky)×List cZ}(S:bN K ml B O H σ δ)(h:ownT δ i=ba z):∃(l:Up) (kvs:List (List Ky×V)),O i=ba l/\σ[i]?=ba (ba (.ref l))/\H l=ba (.dT kvs)/\kvs.map Br=z.1/\cG K (Nn B O) H (kvs.map By) z.2:=by
 obtain⟨b,a⟩:=z;obtain⟨l,d,c,w⟩:=S.ow i _ (AA h);have w:RM K (Nn B O) H l (.dcn b a):=w;generalize hw:cZ.dcn b a=e at w;cases w with
 |lst _ _=>cases hw
 |dct _ _=>cases hw
 |dcn q r=>cases hw;exact⟨l,_,d,c,q,rfl,r⟩
 |shp _ _=>cases hw
def EI(i:Nat)(fk fv:VF):VS:=λδ=>(fv δ).bind λp=>(ownT p.2 i).bind λ_=>(fk p.2).bind λq=>(tkD q.1).bind λk=>(ownT q.2 i).bind λz=>if inT k z.1=be/\z.1.length<16777216 then ba (.nx (q.2.set i (.ow (.dcn (z.1++[k]) (z.2++[p.1])))))else bb
def oR{i:Nat}{E:Pos}(L:X.A.units+1<cLine)(M:PE X a (YV i))(N:PE X b (TV K ml pa ta ia fk))(J:PE X c (TV K ml pb bc bc fv))(hs:Va c (ba (.Subscript a b E)) pos.line X.env=pure be:=by rfl):
  PS X (.Assign [.Subscript a b E] c pos) (WZ K ml (EI i fk fv)):=(CH L M N J hs).imp λD σ H n=>by
 obtain⟨B,O,δ,o,S,q,k⟩:=n;unfold EI at q;obtain⟨⟨z,f⟩,U,q⟩:=Aa.mp q;obtain⟨z0,V,q⟩:=Aa.mp q;obtain⟨⟨y,g⟩,T,q⟩:=Aa.mp q;obtain⟨e,R,q⟩:=Aa.mp q;obtain⟨F,Q,q⟩:=Aa.mp q;split at q;rename_i m;cases q;refine⟨B,O,δ,z,f,S,U,λu H1 s=>?_⟩;obtain⟨l,I,r,Y,_⟩:=s.sta.owT V;refine⟨.ref l,Y,B,O,f,y,g,s.sta,T,λv2 Z R2=>?_⟩;obtain⟨b,rfl,P⟩:=Vo R2.rep R;obtain⟨l',d,C,_,x,v,W⟩:=R2.sta.owT Q;rw[r]at C;cases C;rw[<-v]at m;have G:=s.rep.fr R2.frm (λa z=>.inr z) λa z=>.inr z;refine⟨l,_,rfl,KQ.t x P (by rw[Bg];simpa using m.2),k σ _ O (R2.sta.wrote r (λz=>z) ?_)⟩;have p:e∉d.map Br:=λz=>by have h:(d.map Br).any (λj=>decide (j=e))=bc:=Ri.mpr ⟨e,z,decide_eq_true rfl⟩;rw[show(d.map Br).any (λj=>decide (j=e))=be from m.1]at h;cases h
 rw[IF p];have w:RM K (Nn B O) (upd Z l (.dT (d++[(e,u)]))) l (.dcn ((d++[(e,u)]).map Br) (F.2++[z])):=.dcn cM (by rw[Dg];exact(W.snoc G).fr (HL x λz=>z) λa z=>z▸ .inr ⟨i,r⟩);rw[Dg,v]at w;exact w;cases q
end
def a5.alive{P:Ao}{w:Uw}{H:Hp}{h:Uy}{a:Up}{o:HO}(x:a5 P w H h a o):∃u,h.get? a=ba u:=by
 cases o with
 |lst c=>obtain⟨_,_,_,_,e⟩:=x;exact⟨_,e⟩
 |tup c=>obtain⟨_,_,_,d,e,_⟩:=x;exact⟨_,e⟩
 |dK b=>obtain⟨_,_,_,_,o,_,_,e,_⟩:=x;exact⟨_,e⟩
 |dT b=>obtain⟨_,_,_,_,o,_,_,e,_⟩:=x;exact⟨_,e⟩
 |set S n=>obtain⟨o,_,_,_,e,_⟩:=x;exact⟨_,e⟩
 |ins C i fs=>obtain⟨_,_,_,e,_⟩:=x;exact⟨_,e⟩
 |shp C i fs g p c=>obtain⟨_,_,e,_⟩:=x;exact⟨_,e⟩
 |own y=>exact x
 |xd fs=>obtain⟨_,⟨_,_,_,e,_⟩,_⟩:=x;exact⟨_,e⟩
 |rng lo l=>obtain⟨_,_,_,e⟩:=x;exact⟨_,e⟩
 |frz d u=>obtain⟨e,_⟩:=x;exact⟨_,e⟩
 |tbl k=>exact⟨_,(show h.get? a=ba _ from x)⟩
 |met f y=>exact⟨_,(show h.get? a=ba _ from x)⟩
 |ext j=>exact x.2.1
structure XP(K:Ag)(C Cp:Up):Prop where
 at_:Cq K Ur "PackError"=ba (ba (.ref Cp))
 ty:Tj K (.ref Cp)=ba (.type "type")
 cls:(Sk K Cp).isSome=bc
 base:Qg K (.ref Cp) (.type "BaseException")=ba bc
 sub:Qg K (.ref C) (.ref Cp)=ba bc
structure XC(K:Ag)(x:Uq)(C:Up):Prop where
 at_:Cq K Ur x=ba (ba (.ref C))
 att:XA K C
 cls:(Sk K C).isSome=bc
 pk:∃Cp,XP K C Cp
structure XE(K:Ag)(x:Uq)(C:Up):Prop where
 xc:XC K x C
 exc:W.excIn K C vbs "ValueError.__new__"=bc
def ExcF(l:List Env)(g:Uy)(H:Hp)(C:Up)(p:Option Up)(e:Uo)(h:Uy):Prop:=
 ∃a d B,e=.ref a/\Ko B l a (.ref C) d h/\Dc a p h/\(∀b o,g.get? b=ba o->b∉TW l->∃c,h.get? b=ba c/\B.get? b=ba c)/\∀b u,H b=ba u->∃o,h.get? b=ba o/\B.get? b=ba o
def T1(P:Ao)(w:Uw):E8:=λa H s E e b=>∃C p c,b.os=s.os/\Ln b.gens/\Un (TW a) [] H c s.heap b.heap/\T6 P w c b.heap/\ExcF a s.heap c C p e b.heap/\E (.ref C) p c
def BQ{P:Ao}{w:Uw}{H:Hp}{h h' B:Uy}(ok:T6 P w H h)(st:B.StaysIn h')(i:∀b u,H b=ba u->∃o,h.get? b=ba o/\B.get? b=ba o):T6 P w H h':=λb u e=>
 (ok b u e).stay (λc v hc q => by
  have:∃u,H c=ba u:=by
   rcases hc with rfl|hc;exact⟨u,e⟩;exact⟨_,hc⟩
  obtain⟨d,g⟩:=this;obtain⟨o,a,f⟩:=i c d g;rw[q]at a;cases a;exact st c v f) (λ_ q=>q) λ_ _ q=>q
section
variable{X:Cx}{aa:List (Up×Vc)}{σ:St}{H H1:Hp}{s s':Ad}{g h' B:Uy}{C a:Up}{a0:Uo}
def cI.fly(I:cI X aa σ H s)(st:B.StaysIn h')(y:s.heap.UpToSlots h')(N:∀b o,X.s₀.heap.get? b=ba o->b∉TW X.stack->∃h,s.heap.get? b=ba h/\B.get? b=ba h)(S:∀p∈X.pn++aa,B.get? p.1=ba p.2)(T:∀b u,H b=ba u->∃o,s.heap.get? b=ba o/\B.get? b=ba o):cI X aa σ H {s with heap:=h'}:=by
 have E:∀b o,X.s₀.heap.get? b=ba o->b≠X.env.locals:=λb o e=>Ap (Ba (Aj e) I.ok.above);have t:∀b o,X.s₀.heap.get? b=ba o->b∉X.fs->b∉TW X.stack:=λb o e a z=>(Bj.mp (I.stkSub b z)).elim (E b o e) a;have L:∀b∈X.fs,∀o,s.heap.get? b=ba o->∃C,h'.get? b=ba {o with slots:=C}:=λb a o e=>by obtain⟨_,h,M,D⟩:=I.funs.mem a;rw[e]at M;cases M;exact y b o e D
 have K:∀x c,X.env.cells.lookup x=ba c->∀v,s.heap.IsCell c v->h'.IsCell c v:=λx c _ v q0=>by
  obtain⟨o,P,J⟩:=q0;obtain⟨C,e⟩:=y c o P λU q=>by rw[J]at q;cases q
  exact⟨_,e,J⟩
 refine⟨I.ok,I.os,I.bare,⟨λb o e n a w=>?_,λb o e n a w=>?_,I.base.free,λb o e w=>?_,I.base.tups,I.base.frzs,I.base.tbls⟩,?_,λx c e=>?_,I.free,I.freeC,λp F=>?_,BQ I.hok st T,I.len⟩;obtain⟨h,g,f⟩:=N b o e (t b o e a);rw[I.base.keep b o e n a w]at g;cases g;exact st b o f;obtain⟨C,g⟩:=I.base.slot b o e n a w;obtain⟨j,f⟩:=L b a _ g;exact⟨j,f⟩;by_cases a:b∈X.fs;obtain⟨h,g⟩:=I.base.there b o e w;obtain⟨j,f⟩:=L b a _ g;exact⟨_,f⟩;obtain⟨h,g,f⟩:=N b o e (t b o e a);exact⟨h,st b h f⟩;obtain⟨m,Q,hl⟩:=I.loc;refine⟨m,y.ns Q,λi x v g f R=>?_⟩;obtain⟨u,r,l⟩:=hl i x v g f R;refine⟨u,r,?_⟩;rcases l with l|⟨k,c,e,z⟩;exact .inl l;exact .inr ⟨k,c,e,K x c e _ z⟩;obtain⟨v,z⟩:=I.cell x c e;exact⟨v,K x c e v z⟩;obtain⟨e,n,O,D,d⟩:=I.pin p F;exact⟨st _ _ (S p F),n,O,D,d⟩
structure Low(X:Cx)(aa:List (Up×Vc))(g:Uy):Prop where
 s0:∀b o,X.s₀.heap.get? b=ba o->b∉TW X.stack->∃o',g.get? b=ba o'
 pin:∀p∈X.pn++aa,∃o,g.get? p.1=ba o
def cI.low(I:cI X aa σ H s)(a:X.ex=[]):Low X aa s.heap:=
 ⟨λb o e _=>I.base.there b o e (by rw[a];simp),λp c=>⟨_,(I.pin p c).1⟩⟩
def cI.flyG(I:cI X aa σ H s)(lo:Low X aa g)(st:B.StaysIn h')(j:s.heap.UpToSlots h')(i:∀b o,g.get? b=ba o->b∉TW X.stack->∃a,s.heap.get? b=ba a/\B.get? b=ba a)(r:∀b u,H b=ba u->∃o,s.heap.get? b=ba o/\B.get? b=ba o):cI X aa σ H {s with heap:=h'}:=by
 refine I.fly st j (λb o e f=>?_) (λp c=>?_) r;obtain⟨a,q⟩:=lo.s0 b o e f;exact i b a q f;obtain⟨o,e⟩:=lo.pin p c;obtain⟨n,_,l,k,_⟩:=I.pin p c;obtain⟨a,h,m⟩:=i p.1 o e λz=>(Bj.mp (I.stkSub _ z)).elim l k;rw[n]at h;cases h;exact m
def RzF(X:Cx)(R:Uq->Option Up->St->Hp->Prop):Prop:=∀(aa:List (Up×Vc)) (x:Uq) (C:Up) (p:Option Up) (σ:St) (H1:Hp) (e:Uo) (s':Ad) (g:Uy),XC X.K x C->cI X aa σ H1 s'->ExcF X.stack g H1 C p e s'.heap->Low X aa g->R x p σ H1->X.xe e s'
def RzM(X:Cx)(R:Uq->Option Up->St->Hp->Prop):Prop:=∀(aa:List (Up×Vc)) (x:Uq) (C a:Up) (args:List Uo) (σ:St) (H1:Hp) (h:Uy) (s':Ad),XC X.K x C->cI X aa σ H1 {s' with heap:=h}->Heap.MadeExcOf h s'.heap a (.ref C) args->R x bb σ H1->X.xe (.ref a) s'
def RzP(X:Cx)(R:Uq->Option Up->St->Hp->Prop):Prop:=∀(aa:List (Up×Vc)) (x b:Uq) (C a:Up) (v:V) (u:Uo) (σ:St) (H1:Hp) (h:Uy) (s':Ad),XC X.K x C->cI X aa σ H1 {s' with heap:=h}->A9 h s'.heap a C b u->b3 v u->(∀D,H1 D=bb->R x (ba D) σ (upd H1 D (.xd [(b,v)])))->X.xe (.ref a) s'
end
section
variable{P:Ao}{w:Uw}{K:Ag}{mg:Uq->Option Uo}{base:Uy}{N:List Uq}{qual:Uq}{scope:Vd}{f:Up}{cd:Uo}{A:Bp}{outer:List Env}{s:Ad}{H:Hp}{E:XK}
def rE(K:Ag)(E:XK):Uq->Option Up->St->Hp->Prop:=λx p _ a=>∀C,XC K x C->E (.ref C) p a
def IC{aa:List (Up×Vc)}{σ:St}{t:Hp}{s':Ad}{g h' B:Uy}{C a:Up}{p:Option Up}{O:Uo}{d:Drawn}{tk:Nat}(U:Dc a p h')(I:cI (TU (T1 P w) P w K mg base N qual scope f cd A outer s H E) aa σ t s')(lo:∀b o,s.heap.get? b=ba o->b∉TW (envOfC qual scope s.heap.objs.size f cd::outer)->∃c,g.get? b=ba c)(l:Ko B outer a (.ref C) O h')(Q:s'.heap.UpToSlots h')(V:∀b o,g.get? b=ba o->b∉TW (envOfC qual scope s.heap.objs.size f cd::outer)->∃c,s'.heap.get? b=ba c/\B.get? b=ba c)(M:∀b u,t b=ba u->∃o,s'.heap.get? b=ba o/\B.get? b=ba o)(T:E (.ref C) p t):T1 P w outer H s E (.ref a) {s' with heap:=h',drawn:=d,toks:=tk}:=by
 have bs:Un (TW outer) [] H t s.heap s'.heap:=I.base;have v:s'.heap.FunFrames base (envOfC qual scope s.heap.objs.size f cd::outer):=I.stack;have k:∀b o,s.heap.get? b=ba o->b∉TW outer->∃c,s'.heap.get? b=ba c/\B.get? b=ba c:=λb o q h=>by
  have F:b∉TW (envOfC qual scope s.heap.objs.size f cd::outer):=λz=>by
   rcases Bj.mp (show b∈s.heap.objs.size::TW outer from z)with z|z;have:=Aj q
   rw[z]at this;exact absurd this (Di _);exact h z
  obtain⟨c,e⟩:=lo b o q F;exact V b c e F
 have J:∀b∈TW outer,∀o,s'.heap.get? b=ba o->∃D,h'.get? b=ba {o with slots:=D}:=λb h o e=>by obtain⟨_,c,L,R⟩:=v.mem (Ay _ h:b∈s.heap.objs.size::TW outer);rw[e]at L;cases L;exact Q b o e R
 refine⟨C,p,t,I.os,I.bare,⟨λb o q n h r=>?_,λb o q n h r=>?_,bs.free,λb o q r=>?_,bs.tups,bs.frzs,bs.tbls⟩,BQ I.hok l.1 M,⟨a,O,B,rfl,l,U,λb o e S=>?_,λb u e=>?_⟩,T⟩;obtain⟨c,j,i⟩:=k b o q h;rw[bs.keep b o q n h r]at j;cases j;exact l.1 b o i;obtain⟨D,j⟩:=bs.slot b o q n h r;obtain⟨m,y⟩:=J b h _ j;exact⟨m,y⟩;by_cases h:b∈TW outer;obtain⟨c,j⟩:=bs.there b o q r;obtain⟨m,y⟩:=J b h _ j;exact⟨_,y⟩;obtain⟨c,j,i⟩:=k b o q h;exact⟨c,l.1 b c i⟩;obtain⟨c,j,i⟩:=k b o e S;exact⟨c,l.1 b c i,i⟩;obtain⟨o,j,i⟩:=M b u e;exact⟨o,l.1 b o i,i⟩
def WU:RzF (TU (T1 P w) P w K mg base N qual scope f cd A outer s H E) (rE K E):=by intro aa x C p σ t e h g j I F lo k;obtain⟨a,r,B,rfl,l,m,o,n⟩:=F;exact OB (KD.leave _ _) m (wpAny_leaves_onW (I.ok.frames.trans rfl) rfl l λq b i c=>IC (d:=h.drawn) (tk:=h.toks) c I lo.s0 b i o n (k C j))
def WV:RzM (TU (T1 P w) P w K mg base N qual scope f cd A outer s H E) (rE K E):=by
 intro aa x C a args σ J h i v I M B;have k:h.FunFrames base (envOfC qual scope s.heap.objs.size f cd::outer):=I.stack;have l:∀c∈(envOfC qual scope s.heap.objs.size f cd::outer),∀b,c.frame=ba b->b∈TW (envOfC qual scope s.heap.objs.size f cd::outer):=λc y b m=>Ie.mpr ⟨c,y,m⟩;have G:Dc a bb i.heap:=by obtain⟨t,e,_⟩:=M.there;exact Dc.of e
 refine OB (KD.leave _ _) G (wpAny_leaves_madeW (base:=Rw h (TW (envOfC qual scope s.heap.objs.size f cd::outer))) (h:=h) (I.ok.frames.trans rfl) rfl (λb o q=>Qo _ q) (Rl k l) M λD t F _ _ r n=>?_);have j:h.UpToSlots D:=(Tt M.keeps).trans r;exact IC (s':={i with heap:=h}) (g:=h) (d:=i.drawn) (tk:=i.toks) n I (λb o q _=>I.base.there b o q (λz=>nomatch z)) F j (λb o e m=>⟨o,e,Lm _ e m⟩) (λb u e=>by obtain⟨o,q⟩:=(I.hok b u e).alive;exact⟨o,q,Lm _ q λz=>by have:=I.stkFree b z;rw[e]at this;cases this⟩) (B C v)
def M8:RzP (TU (T1 P w) P w K mg base N qual scope f cd A outer s H E) (rE K E):=by
 intro aa x l C a v u σ H1 h c Z I M Q hR;obtain⟨t,D,n,ht,J,y,p⟩:=M.there;have fD:H1 D=bb:=I.hok.fresh J;have m:=I.laid (a:=D) (o:=.xd [(l,v)]) (h':=c.heap) (t':=c.toks) M.keeps J ⟨_,p,λf=>by
  show WJ (Dy f [(l,v)]) (if f=l then ba u else bb);by_cases z:f=l;subst z;simp[WJ,Q];rw[if_neg z];simp[Dy,beq_eq_false_iff_ne.mpr z,WJ]⟩
 have k:c.heap.FunFrames base (envOfC qual scope s.heap.objs.size f cd::outer):=m.stack;have S:a∉TW (envOfC qual scope s.heap.objs.size f cd::outer):=λz=>by obtain⟨_,o',O,R⟩:=k.mem z;rw[n]at O;cases O;exact R _ rfl
 have r:∀i∈(envOfC qual scope s.heap.objs.size f cd::outer),∀b,i.frame=ba b->b∈a::TW (envOfC qual scope s.heap.objs.size f cd::outer):=λi he b j=>Ay _ (Ie.mpr ⟨i,he,j⟩);refine OB (KD.leave _ _) (Dc.of n) (wpAny_leaving_firstW (base:=Rw c.heap (a::TW (envOfC qual scope s.heap.objs.size f cd::outer))) (I.ok.frames.trans rfl) (Rl k r) rfl n (λb o q=>Qo _ q) (Nr _ (Bu ..)) rfl rfl rfl λh' L B=>?_);obtain⟨Y,⟨_,_,X⟩,W,V⟩:=L;have F:∀b o,c.heap.get? b=ba o->b≠a->b∉TW (envOfC qual scope s.heap.objs.size f cd::outer)->(Rw c.heap (a::TW (envOfC qual scope s.heap.objs.size f cd::outer))).get? b=ba o:=λb o e U T=>Lm _ e λz=>(Bj.mp z).elim U T;refine IC (s':=c) (g:=h) (d:=c.drawn) (tk:=c.toks) B m (λb o q _=>I.base.there b o q (λz=>nomatch z)) ⟨Y,Nr _ (Bu ..),X,W⟩ V (λb o e j=>⟨o,M.keeps b o e,F b o (M.keeps b o e) (λz=>by rw[z,M.new]at e;cases e) j⟩) (λb w e=>?_) (hR D fD C Z);obtain⟨o,q⟩:=(m.hok b w e).alive;refine⟨o,q,F b o q (λz=>?_) λz=>by have:=m.stkFree b z;rw[e]at this;cases this⟩;by_cases j:b=D;exact y (j▸z);rw[cL j]at e;obtain⟨o2,q2⟩:=(I.hok b w e).alive;rw[z,show({c with heap:=h}:Ad).heap.get? a=bb from M.new]at q2;cases q2
end
def pT{K:Ag}{h:Uy}{C:Up}{c:List Uo}{e:String}(X:K.In h)(q:W.excIn K C c e=bc):∃bm N nm q bs hdct sn sub ab col dd k0 k1 k2 k3 k5 mN,h.get? C=ba (Gx nm q C N bs bm hdct sn sub ab col dd k0 k1 k2 k3 k5 e)/\h.Ns N mN/\mN "__init__"=bb/\Oj h c bm:=by
 unfold W.excIn at q;split at q;rename_i dd s d o;split at q;rename_i t bm k0 k1 k2 k3 n k5 i g;simp only[Ae,beq_iff_eq,Qj]at q;obtain⟨⟨⟨⟨⟨rfl,rfl⟩,f⟩,m⟩,a⟩,b⟩:=q;obtain⟨nm,bs,l,k,j,p,sn,sub,ab,col,r⟩:=s;dsimp only at i f a b;subst i f;obtain⟨d⟩:=d;simp only at g;subst g;exact⟨bm,k,nm,j,bs,p,sn,sub,ab,col,dd,k0,k1,k2,k3,k5,_,X _ _ o,.of_isNs (W.isNs_of_in X a),W.nsMap_none_of_in X a b,W.tail_of_in X m⟩;cases q;cases q
abbrev Xw:=Uq×Option (Uq×cZ)
abbrev VZ:=Ev->Option (Xw×Ev)
def Pay(K:Ag)(N:Up->Prop)(H:Hp):Option Up->Option (Uq×cZ)->Prop
 |none,bb=>True
 |some D,ba (n,d)=>∃v,H D=ba (.xd [(n,v)])/\bV K N H N v d
 |_,_=>False
def Pay.mono{K:Ag}{N N':Up->Prop}{H:Hp}{p:Option Up}{y:Option (Uq×cZ)}(h:Pay K N H p y)(b:∀a,N' a->N a):Pay K N' H p y:=by
 unfold Pay at h⊢;split at h;trivial;obtain⟨v,e,r⟩:=h;exact⟨v,e,r.mono b b⟩;exact h
def TZ(R:Uq->Option Up->St->Hp->Prop)(K:Ag)(ml:List Nat)(z:VZ)(σ:St)(H:Hp):Prop:=∃B O d x b,bN K ml B O H σ d/\z d=ba (x,b)/\∀a c e p,bN K ml B e c a b->Pay K (Nn B e) c p x.2->R x.1 p a c
abbrev ZE(R:Uq->Option Up->St->Hp->Prop)(K:Ag)(ml:List Nat)(z:VZ):TE:=λσ H _=>TZ R K ml z σ H
abbrev ZS(R:Uq->Option Up->St->Hp->Prop)(K:Ag)(ml:List Nat)(z:VZ):TS:=λ_ σ H=>TZ R K ml z σ H
section
variable{X:Cx}{K:Ag}{ml:List Nat}{e a b c:Uv}{es:List Uv}{pa ta ia pb tb ib pc tc ic pu bt bi ps bs:Bool}{fa fb fc f:VF}{B B':Bs}{O:Nat->Option Up}{H H1 H':Hp}{σ:St}{δ δ':Ev}{v:V}{d:cZ}{pos:Pos}{st:Vb}{rest:List Vb}{g g':VS}{z z':VZ}{R:Uq->Option Up->St->Hp->Prop}
def K6:VZ:=λ_=>bb
def Z1{a:List Vb}:X4 X a (ZS R K ml K6):=λ_ _ _ _ _ _ h=>by obtain⟨_,_,_,_,_,_,q,_⟩:=h;cases q
def VD(z z':VZ):VZ:=λδ=>match z δ with
 |some r=>ba r
 |none=>z' δ
def tM(h:TZ R K ml (VD z z') σ H):TZ R K ml z σ H∨TZ R K ml z' σ H:=by
 obtain⟨B,O,δ,x,δ',S,q,k⟩:=h;unfold VD at q;cases a:z δ with
 |some r=>rw[a]at q;exact .inl ⟨B,O,δ,x,δ',S,a.trans q,k⟩
 |none=>rw[a]at q;exact .inr ⟨B,O,δ,x,δ',S,q,k⟩
def ZP{a:List Vb}(c:X4 X a (ZS R K ml z))(b:X4 X a (ZS R K ml z')):X4 X a (ZS R K ml (VD z z')):=λaa s σ H D I h=>
 (tM h).elim (c aa s σ H D I) (b aa s σ H D I)
def WC(g:VS)(z:VZ):VZ:=λδ=>match g δ with
 |some (.nx δ')=>z δ'
 |_=>bb
def aG(e:PS X st (WZ K ml g))(d:X4 X rest (ZS R K ml z)):X4 X (st::rest) (ZS R K ml (WC g z)):=(UV e d).imp λD σ H q0=>by
 obtain⟨B,O,δ,x,δ',S,q,k⟩:=q0;unfold WC at q;split at q;rename_i a c;exact⟨B,O,δ,.nx a,S,c,λb H' h f=>⟨B,h,a,x,δ',f,q,k⟩⟩;cases q
def cJ(h:PS X st (ZS R K ml z)):X4 X (st::rest) (ZS R K ml z):=(UV h AH).imp λ_ _ _ h=>h
def O6(t:VB)(z z':VZ):VZ:=λδ=>(t δ).bind λp=>if p.1=bc then z p.2 else z' p.2
def YQ{x y:List Vb}{t:VB}(f:PT X c (TB K ml pc t))(h:X4 X x (ZS R K ml z))(g:X4 X y (ZS R K ml z')):PS X (.If c x y pos) (ZS R K ml (O6 t z z')):=(Vx f h g).imp λD σ H q0=>by
 obtain⟨B,O,δ,x,δ',S,q,k⟩:=q0;unfold O6 at q;cases b:t δ with
 |none=>rw[b]at q;cases q
 |some p=>
  obtain⟨d,a⟩:=p;rw[b]at q;refine⟨B,O,δ,d,a,S,b,λH1 e=>?_⟩;cases d with
  |true=>exact P8 ⟨B,O,a,x,δ',e.sta,q,k⟩
  |false=>exact P7 ⟨B,O,a,x,δ',e.sta,q,k⟩
def Xh{t:VB}(h:PT X c (TB K ml pc t))(j:PE X a (ZE R K ml z))(i:PE X b (ZE R K ml z')):PE X (.IfExp c a b pos) (ZE R K ml (O6 t z z')):=(GA h j i).imp λσ H Q q0=>by
 obtain⟨B,O,δ,x,δ',S,q,k⟩:=q0;unfold O6 at q;cases e:t δ with
 |none=>rw[e]at q;cases q
 |some p=>
  obtain⟨f,d⟩:=p;rw[e]at q;refine⟨B,O,δ,f,d,S,e,λH1 g=>?_⟩;cases f with
  |true=>exact P8 ⟨B,O,d,x,δ',g.sta,q,k⟩
  |false=>exact P7 ⟨B,O,d,x,δ',g.sta,q,k⟩
def UJ(h:PE X e (ZE R K ml z)):PS X (.Return (ba e) pos) (ZS R K ml z):=(EE h).imp λ_ _ _ h=>h
def M9(h:PE X e (ZE R K ml z))(hs:Va e bb pos.line X.env=pure be:=by rfl):PS X (.Expr e pos) (ZS R K ml z):=(QD h hs).imp λ_ _ _ h=>h
def YI{x:Uq}{np n f:Pos}{t:Uq}{j:Nat}(hK:X.K=K)(hz:RzM X R)(hc:X.calm=bc)(hg:Gl X x)(hx:∃C,XE K x C/\X.mg x=ba (.ref C))(m:(x==("__debug__":Uq))=be:=by decide)(i:(Co n (Us [.Constant (.str t) j f] X.env)).any (·.1)=be:=by rfl):PS X (.Raise (ba (.Call (.Name x np) [.Constant (.str t) j f] [] n)) bb pos) (ZS R K ml λδ=>ba ((x,bb),δ)):=by intro aa s σ H D I h;obtain⟨B,O,δ,x',δ',S,q,k⟩:=h;cases q;subst hK;obtain⟨C,M,hm⟩:=hx;obtain⟨Q,N,y,q,bs,c,u,sub,T,d,P,L,J,G,F,E,A,o1,Z,Y,w⟩:=pT I.ok.mod.kin M.exc;refine wpAny_Raise_call_subT (C:=C) (nm:=y) (q:=q) (N:=N) (bs:=bs) (bm:=Q) (hdct:=c) (sn:=u) (sub:=sub) (ab:=T) (col:=d) (dd:=P) (k0:=L) (k1:=J) (k2:=G) (k3:=F) (k5:=E) (mN:=A) Hk (w.hasType (by decide)) (I.ok.hd hc) i Y (WS I hg hm ⟨rfl,?_⟩ m);have pa:PA X [.Constant (.str t) j f] _:=bA Wu ZX;refine Ed (Aw (pa n aa s σ H (λp H'=>H'=H/\p.length=1) I ⟨rfl,rfl⟩) (λr v hq=>?_) λ_ _ z=>z);obtain⟨p,V,U,W,rfl,hl⟩:=hq;have g:∀b o,X.base.get? b=ba o->v.heap.get? b=ba o:=λb o e=>(U.bs b o e).1;refine⟨rfl,?_,g _ _ o1,Z.keeps g,w.keeps g,λh' a l=>hz aa x C a r σ V v.heap _ M.xc U l (k σ V O bb S trivial)⟩;show r.length<=sizeLine;rw[<-W.length,hl];decide
def uB{x:Uq}{o:Nat}{j:List Uq}{sp:Sp}{m:Up}{fd:Bq}{p':Pos}{t:TA}{CX:E8}(F:bZ X.prog X.w X.K X.mg X.base CX o m fd j sp)(q:aT o X.A)(z:Gl X x)(v:X.mg x=ba (.ref m))(y:Fh X.K (.ref m)=bc)(d:YZ X.K fd j [])(C:PA X (e::es) t)(l:(x==("__debug__":Uq))=be:=by decide)(B:Us (e::es) X.env=(be,eval e X.env)::Us es X.env:=by rfl)(k:(Co pos (Us es X.env)).any (·.1)=be:=by rfl):PE X (.Call (.Name x p') (e::es) [] pos) (λσ H Q=>t σ H λg H1=>∃E,(∀(aa:List (Up×Vc)) (s:Ad) (f:Uo) (s':Ad),cI X aa σ H1 s->CX X.stack H1 s E f s'->X.xe f s')/\sp g H1 Q E):=by
 intro aa s σ H Q I h;refine Dz (WS I z v (Ht (h₀:=X.base) I.ok.mod.kin y (aD (C pos aa s σ H _ I h) λc i a=>?_) B k) l);obtain⟨g,H1,b,n,E,D,p⟩:=a;have hl:c.length=j.length:=by rw[<-n.length];exact F.len _ _ _ _ p
 have d:=d i c b.kIn (by simpa using hl);rw[Bi]at d;refine⟨b.kIn,Ft (Fi (F.run X.A X.stack i H1 ⟨c,[]⟩ c g Q E q b.env0 d n p) λr s' a=>?_)⟩;cases r with
 |error f=>exact D aa i f s' b a
 |ok G=>cases G with
  |ret u=>exact b.after a
  |next=>cases a
  |brk=>cases a
  |cont=>cases a
def QQ(K:Ag)(n:Nat)(c:List cZ->Option Xw):Sp:=λb H _ E=>∃(Z:Up->Prop) (a:List cZ) (x:Xw),a.length=n/\Vk K [] Z H b a/\c a=ba x/\∀C H' p,XC K x.1 C->bI H H'->Pay K Z H' p x.2->E (.ref C) p H'
structure DefX(P:Ao)(w:Uw)(K:Ag)(mg:Uq->Option Uo)(base:Uy)(x:Uq)(k:Nat)(ps:List Uq)(XF:List cZ->Option Xw)(f:Up):Prop where
 at_:mg x=ba (.ref f)
 ok:∃fd,bZ P w K mg base (T1 P w) k f fd ps (QQ K ps.length XF)/\YZ K fd ps []
 kp:Fh K (.ref f)=bc
noncomputable def XW:List AV->Option (List cZ)
 |[]=>ba []
 |.d d::b=>(XW b).map λa=>d::a
 |.o _::_=>bb
theorem R0{N:Up->Prop}:∀{vs:List V}{as:List AV}{ds:List cZ},YT K N H σ vs as->XW as=ba ds->vs.length=ds.length/\∀(i:Nat) (d:cZ),ds[i]?=ba d->∃v,vs[i]?=ba v/\bV K N H N v d
 |_,_,_,.nil,h=>by cases h;exact⟨rfl,λi d e=>by simp at e⟩
 | _,.d c :: as,_,.d r t,h => by
  unfold XW at h;cases e:XW as with
  |none=>rw[e]at h;cases h
  |some ds=>
   rw[e]at h;cases h;obtain⟨b,a⟩:=R0 t e;refine⟨by simp[b],λi d q=>?_⟩;cases i with
   |zero=>simp at q;subst q;exact⟨_,rfl,r⟩
   |succ i=>exact a i d (by simpa using q)
 |_,.o _::_,_,.o _ _,h=>by cases h
def MV(n:Nat)(b:List cZ->Option Xw)(fs:UL):VZ:=λδ=>(fs δ).bind λp=>(XW p.1).bind λa=>if a.length=n then(b a).map λx=>(x,p.2)else bb
def C0{fs:UL}{D:List cZ->Option Xw}{n:Nat}{Q:VK}(hz:RzF X R)(Z:X.K=K)(hex:X.ex=[])(h:TZ R K ml (MV n D fs) σ H):NI K ml ps fs σ H λo H1=>∃E,(∀(aa:List (Up×Vc)) (s:Ad) (l:Uo) (s':Ad),cI X aa σ H1 s->T1 X.prog X.w X.stack H1 s E l s'->X.xe l s')/\QQ K n D o H1 Q E:=by
 subst Z;obtain⟨B,O,δ,x,δ',S,q,k⟩:=h;unfold MV at q;cases A:fs δ with
 |none=>rw[A]at q;cases q
 |some p=>
  obtain⟨M,m⟩:=p;rw[A,Ar]at q;cases y:XW M with
  |none=>rw[y]at q;cases q
  |some L=>
   rw[y,Ar]at q;split at q;rename_i V;cases u:D L with
   |none=>rw[u]at q;cases q
   |some x'=>
    rw[u]at q;cases q;refine⟨B,O,δ,M,m,S,A,λo H1 G=>⟨λv p g=>∃x C,v=.ref C/\XC X.K x C/\R x p σ g,λaa s l s' I hc=>?_,?_⟩⟩;obtain⟨C,p,g,os,f,un,ok,F,N,C1,P,t,Y⟩:=hc;cases P;exact hz aa N C p σ g l s' s.heap t (I.call' os un ok f λb W=>nomatch W) F (I.low hex) Y;obtain⟨g1,g2⟩:=R0 G.rep y;have J:∀a,Zp (Nn B O) [] o a->Nn B O a:=λa z=>z.elim id λ⟨i,c,_⟩=>nomatch c;refine⟨Nn B O,L,x,V,⟨g1,λi c=>(nomatch c),λi d _ e=>?_,λi d c=>(nomatch c),λi j a c=>(nomatch c),λa z=>G.sta.nin z⟩,u,λC g p t T U=>⟨x.1,C,rfl,t,k σ g O p (G.sta.same T) U⟩⟩;obtain⟨v,e1,r⟩:=g2 i d e;exact⟨v,e1,r.mono J J⟩
   cases q
def C8{x:Uq}{d j:Nat}{c:List Uq}{f:List cZ->Option Xw}{o:Up}{p':Pos}{fs:UL}(hz:RzF X R)(n:X.K=K)(D:DefX X.prog X.w K X.mg X.base x d c f o)(g:aT j X.A)(i:d<=j)(k:Gl X x)(hex:X.ex=[])(m:PA X (e::es) (NI K ml ps fs))(b:(x==("__debug__":Uq))=be:=by decide)(l:Us (e::es) X.env=(be,eval e X.env)::Us es X.env:=by rfl)(a:(Co pos (Us es X.env)).any (·.1)=be:=by rfl):PE X (.Call (.Name x p') (e::es) [] pos) (ZE R K ml (MV c.length f fs)):=by obtain⟨q,F,p⟩:=D.ok;subst n;exact(uB F (g.mono i) k D.at_ D.kp p m b l a).imp λσ H Q h=>C0 hz rfl hex h
end
def UY(n:Nat)(z:VZ):List cZ->Option Xw:=λa=>(z (WR [] n a)).map (·.1)
def aC.okX{P:Ao}{w:Uw}{K:Ag}{mg:Uq->Option Uo}{base:Uy}{x qual:Uq}{st:Vb}{f:Up}{fd:Bq}{N ps:List Uq}{k:Nat}{z:VZ}(F:aC K x qual st f fd)(S:cO N ps (c7 st))(j:ps.length<=N.length)(R:∀(c:Uo) (A:Bp) (outer:List Env) (s:Ad) (H:Hp) (E:XK),aT k (A.deeper (envOfC qual (c7 st) s.heap.objs.size f c))->X4 (TU (T1 P w) P w K mg base N qual (c7 st) f c A outer s H E) (bT st) (ZS (rE K E) K [] z)):bZ P w K mg base (T1 P w) (k+1) f fd ps (QQ K ps.length (UY N.length z)):=by
 obtain⟨X,od,kV,doc,W,Y,c,ct,y,rfl,D,m⟩:=F.ex;refine BO D m S (λv H Q E h=>?_) λA outer s H v Q E G g=>⟨_,R c A outer s H E G,?_⟩;obtain⟨Z,r,x,l,AV,_⟩:=h;rw[AV.len,l];obtain⟨Z,r,x,l,AV,d,M⟩:=g;obtain⟨B,J,T⟩:=OW (N:=N) AV (by rw[l];exact j);unfold UY at d;cases n:z (WR [] N.length r)with
 |none=>rw[n]at d;cases d
 |some p=>
  obtain⟨u,e⟩:=p;rw[n]at d;cases d;exact⟨_,B,_,u,e,T,n,λt V O' p U I C O=>M C V p O (λb o q=>U.frm b o q λ⟨i,L,_⟩=>nomatch L) (I.mono λa z=>.inl z)⟩
end L2
namespace L2
open PySem PySem.Spec PyProof.Rows PySem.W PySem.Calls PySem.Builtin PySem.Builtin.ObjectAttr PySem.Builtin.Getset_descriptor
section
variable{prog:Ao}{w:Uw}{A:Bp}{E:Uo->Ad->Prop}{s:Ad}{K:Vh}{x C:Up}{o:Vc}{R:Tx->Ad->Prop}
def pX{a:Uo}(X:K.In s.heap)(b:s.heap.get? x=ba o)(hc:o.cls=.ref C)(F:XA K C)(h:R (.ok (.ret (.ref C))) s):Gg (Uu prog w) A (.call (.builtin "getset_descriptor.__get__") ⟨[.builtin "object.__class__",.ref x,a],[]⟩) R s:=by
 obtain⟨c,g,d,t,os⟩:=s;have f:Looks (Uu prog w) c (Nt (.ref x)) (.ref C):=hc▸(Nh b).andThen .now;have e:=looks_mroIn (M:=Uu prog w) X F.mro;refine Fp KF.slot_gs.plain KF.entry_gs (KF.slot_gs.check _ _ _ _ _ _ _ _ KF.type_class (KF.args_gs _ _ _) ?_);unfold Ey.«getset_descriptor.__get__» descrGet;rw[dga_obj];refine Ab (Af ?_);unfold descrGetter descrCheckInstance descrNameAndClass Li;simp only[KF.owner_class];repeat lk
 refine⟨Io _ (by decide+kernel),Mz KF.entry_class ?_⟩;unfold Ey.«object.__class__» shownTypeOf;repeat lk
 exact h
def sJ{tk:Vi}{Q:Fin->Ad->Prop}(X:K.In s.heap)(b:s.heap.get? x=ba o)(hc:o.cls=.ref C)(F:XA K C)(h:Q (.done (.ret (.ref C))) s):Ut (Uu prog w) A (Ey.«object.__getattribute__» ⟨[.ref x,.str "__class__" tk],[]⟩) Q E s:=by
 obtain⟨a,g,c,t,os⟩:=s;have j:Looks (Uu prog w) a (Nt (.ref x)) (.ref C):=hc▸(Nh b).andThen .now;have i:=Hw (M:=Uu prog w) X F.cls;have f:Looks (Uu prog w) a (getOf (ba (.builtin "object.__class__"))) (ba (.builtin "getset_descriptor.__get__")):=looks_specialIn X F.get;have e:=looks_takesIn (M:=Uu prog w) X F.tak;have d:Looks (Uu prog w) a (find (.ref x) (.ref C) "__class__") (.bind (.builtin "getset_descriptor.__get__") (.builtin "object.__class__")):=
  i.andThen (f.andThen ((show Looks (Uu prog w) a (dataDescriptor? (ba (.builtin "object.__class__")) (ba (.builtin "getset_descriptor.__get__"))) (ba (.builtin "getset_descriptor.__get__",.builtin "object.__class__")) from e.andThen .now).andThen (Looks.tag .now)))
 unfold Ey.«object.__getattribute__»;repeat (any_goals (first|assumption|with_reducible refine Looks.at j ?_|with_reducible refine Looks.at d ?_|wp_step))
 refine pX (s:=⟨a,g,c,t,os⟩) X b hc F ?_;exact Af h
def rM{tk:Vi}(X:K.In s.heap)(c:s.heap.get? x=ba o)(hc:o.cls=.ref C)(F:XA K C)(h:R (.ok (.ret (.ref C))) s):Gg (Uu prog w) A (.call (.builtin "BaseException.__getattribute__") ⟨[.ref x,.str "__class__" tk],[]⟩) R s:=by
 obtain⟨a,g,d,t,os⟩:=s;have j:Looks (Uu prog w) a (Nt (.ref x)) (.ref C):=hc▸(Nh c).andThen .now;have i:=looks_subIn (M:=Uu prog w) X F.sub;have f:builtinKind "BaseException.__getattribute__"=ba .slot:=by decide+kernel
 have e:splitId "BaseException.__getattribute__"=ba ("BaseException","__getattribute__"):=by decide+kernel
 have k:=Nk (.ref x) (.str "__class__" tk);refine Fp PySem.F.excAttr_ValueError.ga.plain My (Aw (Q:=λ_ b=>b=⟨a,g,d,t,os⟩) ?_ (λ_ b z=>?_) λ_ _ z=>z)
 ·simp only[Md,f,e]
  unfold Li;repeat (any_goals (first|rfl|assumption|with_reducible refine Looks.at j ?_|with_reducible refine Looks.at i ?_|wp_step))
 subst z;refine sJ (s:=⟨a,g,d,t,os⟩) X c hc F ?_;exact h
def jV{Q:Option Uo->Ad->Prop}(X:K.In s.heap)(b:s.heap.get? x=ba o)(hc:o.cls=.ref C)(F:XA K C)(h:Q (ba (.ref C)) {s with toks:=s.toks+1}):Ut (Uu prog w) A (getAttr? (.ref x) "__class__") Q E s:=by
 obtain⟨c,g,e,t,os⟩:=s;have d:Looks (Uu prog w) c (Nt (.ref x)) (.ref C):=hc▸(Nh b).andThen .now;have i:=Hw (M:=Uu prog w) X F.ga;have f:=Hw (M:=Uu prog w) X F.no;have j:=PySem.F.excAttr_ValueError.ga.bind (.ref x);unfold getAttr? getAttrBy? getAttrBy;refine Ab (Qw (Ab (Lv (Bf (Ab (d.at (Ab (i.at ?_))))))));show Ut _ _ (Kc _ _ _ _ _ _) _ _ _;unfold Kc hookBefore callGetattribute boundAndCalled;repeat (any_goals (first|assumption|with_reducible refine Looks.at d ?_|with_reducible refine Looks.at f ?_|wp_step))
 refine rM (s:=⟨c,g,e,t+1,os⟩) X b hc F ?_;refine handed_on rfl ?_;first|exact h|exact Af h|exact Af (Af h)
def FV(F:XA K C)(hdct:(clsIn K C).isSome=bc):KitX K (.ref x) (.ref C) (λh=>∃o,h.get? x=ba o/\o.cls=.ref C) where
 ty:=λM h _ p=>by obtain⟨o,d,c⟩:=p;exact c▸(Nh d).andThen .now
 it:=λ_ _ X _=>by
  unfold clsIn at hdct;split at hdct;rename_i b;intro s m r j k q;unfold isType loadHead;exact Ab (Kq (k _ _ (X _ _ b)) (Af q));cases hdct
 ne:=λh f l g n i X a=>by
  refine Bool.eq_false_iff.mpr λq=>?_;have e:C=f:=Value.ref.inj (beq_iff_eq.mp q);subst e;unfold clsIn at hdct;split at hdct;rename_i b;have z:=(X _ _ b).symm.trans a;cases z;cases hdct
 ca:=λX p k=>by obtain⟨o,d,c⟩:=p;exact jV X d c F k
end
end L2
namespace L2
open PySem PySem.Spec PyProof.Rows
structure YC(k:Nat)(A:Bp):Prop where
 dp:A.depth+3*k+5<Eu
 un:A.units+16*k+200<cLine
def aT.h{k:Nat}{A:Bp}(r:aT k A):YC k A:=⟨r.dp,r.un⟩
def YC.mono{j k:Nat}{A:Bp}(r:YC k A)(h:j<=k):YC j A:=⟨by have:=r.dp;lia,by have:=r.un;lia⟩
def YC.deeper{k:Nat}{A:Bp}(r:YC (k+1) A)(env:Env):YC k (A.deeper env):=
 ⟨by have:=r.dp;show A.depth+1+3*k+5<_;lia,by have:=r.un;show A.units+3+16*k+200<_;lia⟩
def YC.units{k:Nat}{A:Bp}(r:YC k A):A.units+64<cLine:=by have:=r.un;lia
def YC.unit{k:Nat}{A:Bp}(r:YC k A):A.units+1<cLine:=by have:=r.un;lia
def cxH(P:Ao)(w:Uw)(K:Ag)(mg:Uq->Option Uo)(base:Uy)(N:List Uq)(qual:Uq)(scope:Vd)(f:Up)(b:Uo)(A:Bp)(outer:List Env)(s:Ad)(H:Hp):Cx:=
 {TU CX0 P w K mg base N qual scope f b A outer s H E0 with calm:=be,xe:=λ_ _=>False}
structure FnH(P:Ao)(w:Uw)(K:Ag)(mg:Uq->Option Uo)(base:Uy)(k:Nat)(f:Up)(fd:Bq)(ps:List Uq)(sp:Sp):Prop where
 len:∀vs H Q E,sp vs H Q E->vs.length=ps.length
 run:∀(A:Bp) (outer:List Env) (s:Ad) (H:Hp) (args:Args) (us:List Uo) (vs:List V) (Q:VK),YC k A->HA P w K mg base A outer s H->Oa s fd args (ps.zip us)->bS vs us->sp vs H Q E0->
  Gg (Uu P w) A (.call (.ref f) args) (CR CX0 outer P w H s Q E0) s
def cI.around{X:Cx}{c:Bp}{b:List (Up×Vc)}{a:St}{H:Hp}{s:Ad}{xe:Uo->Ad->Prop}(I:cI X b a H s)(d:c.frames=X.A.frames):cI {X with A:=c,calm:=be,xe:=xe} b a H s:=
 ⟨⟨I.ok.mod,I.ok.kind,I.ok.glob,I.ok.blt,I.ok.above,I.ok.inj,I.ok.has,I.ok.cab,λz=>(nomatch z),d.trans I.ok.frames,I.ok.stk,I.ok.exf,I.ok.bs,I.ok.bsz,I.ok.noex,I.ok.exfs,I.ok.funs,I.ok.frf⟩,I.os,I.bare,I.base,I.loc,I.cell,I.free,I.freeC,I.pin,I.hok,I.len⟩
def cI.back{X:Cx}{c:Bp}{b:List (Up×Vc)}{a:St}{H:Hp}{s:Ad}{xe:Uo->Ad->Prop}(ok:X.Ok)(I:cI {X with A:=c,calm:=be,xe:=xe} b a H s):cI X b a H s:=
 ⟨ok,I.os,I.bare,I.base,I.loc,I.cell,I.free,I.freeC,I.pin,I.hok,I.len⟩
def aC.okH{P:Ao}{w:Uw}{K:Ag}{mg:Uq->Option Uo}{base:Uy}{x qual:Uq}{st:Vb}{f:Up}{fd:Bq}{N ps:List Uq}{k:Nat}{sp:Sp}(F:aC K x qual st f fd)(S:cO N ps (c7 st))(len:∀vs H Q E,sp vs H Q E->vs.length=ps.length)(ai:∀(a:Uo) (A:Bp) (outer:List Env) (s:Ad) (H:Hp) (vs:List V) (Q:VK),YC k (A.deeper (envOfC qual (c7 st) s.heap.objs.size f a))->sp vs H Q E0->∃t,X4 (cxH P w K mg base N qual (c7 st) f a A outer s H) (bT st) t/\t {nx:=λ_ g=>Q .non g,rt:=Q} (start N vs) H):FnH P w K mg base (k+1) f fd ps sp:=by
 obtain⟨oc,od,kV,doc,pm,an,a,ct,L,rfl,M,B⟩:=F.ex;refine⟨len,λA outer s H args G vs Q C c Y r i=>?_⟩;have hl:=len _ _ _ _ i;have D:K.In s.heap:=c.mod.kin.keeps λb o e=>(c.bs b o e).1;have z:s.heap.NoLimit:=c.mod.nolimit.keeps λb o e=>(c.bs b o e).1;have f8:∀y∈ps.zip G,(c7 st).names.lookup y.1=ba .local∨((c7 st).names.lookup y.1=ba .cell/\((Ve (s.heap.objs.size+1) (c7 st).names []).lookup y.1).isSome=bc):=λ⟨n,v⟩ R=>by
  rcases S.par n (Ii R).1 with q|q;exact .inl q;exact .inr ⟨q,Ma _ _ _ (.inl q)⟩
 have O:A.depth<Eu:=by have:=C.dp;lia
 refine Jg O (D _ _ M) rfl S.co S.gen rfl (W.codeRec_of D B) (Y _ _ _ _ ?_);refine Hj S.kind f8 λenv X l x=>?_;subst X;refine⟨z.keeps x.toInCall.keep,Qs ?_⟩;obtain⟨t,T,U⟩:=ai a A outer s H vs Q (C.deeper _) i;have e1:HA P w K mg base {A with handled:=bb} outer s H:=⟨c.frames,c.mod,c.bs,c.bsz,c.funs,c.frf,c.hok,c.bare⟩;have I0:cI (TU CX0 P w K mg base N qual (c7 st) f a {A with handled:=bb} outer s H E0) [] (start N vs) H l:=JU S rfl e1 hl r x;have I:cI (cxH P w K mg base N qual (c7 st) f a A outer s H) [] (start N vs) H l:=I0.around rfl;refine Aw (T [] l (start N vs) H _ I U) (λZ m h=>?_) λe m h=>(show False from h).elim;have j:∀{d:St}{g:Hp}{v:V}{u:Uo},cI (cxH P w K mg base N qual (c7 st) f a A outer s H) [] d g m->b3 v u->Q v g->CE outer P w H s Q u m:=
  λ{d g v u} J p q=>⟨v,g,J.os,J.bare,J.base,J.hok,p,q⟩
 cases Z with
 |ret u=>
  obtain⟨v,d,g,J,p,q⟩:=h;exact j J p q
 |next=>
  obtain⟨d,g,J,q⟩:=h;exact j (v:=V.non) (u:=Value.none) J rfl q
 |brk=>
  obtain⟨_,_,_,q⟩:=h;cases q
 |cont=>
  obtain⟨_,_,_,q⟩:=h;cases q
structure DefH(P:Ao)(w:Uw)(K:Ag)(mg:Uq->Option Uo)(base:Uy)(x:Uq)(k:Nat)(ps:List Uq)(sp:Sp)(f:Up):Prop where
 at_:mg x=ba (.ref f)
 ok:∃fd,FnH P w K mg base k f fd ps sp/\YZ K fd ps []
 kp:Fh K (.ref f)=bc
section
variable{X:Cx}{K:Ag}{ml:List Nat}{e a b c:Uv}{es:List Uv}{ps:Bool}{pos:Pos}
def fR{x:Uq}{o j n:Nat}{m:List Uq}{c:List Nat}{F:bR}{N:Up}{z:Pos}{fs:UL}(D:DefH X.prog X.w K X.mg X.base x o m (spV K c n F) N)(B:YC j X.A)(J:PA X (e::es) (NI K ml ps fs))(L:X.K=K:=by rfl)(C:o<=j:=by decide)(E:Gl X x:=by rfl)(i:(x==("__debug__":Uq))=be:=by decide)(G:Us (e::es) X.env=(be,eval e X.env)::Us es X.env:=by rfl)(g:(Co pos (Us es X.env)).any (·.1)=be:=by rfl):PE X (.Call (.Name x z) (e::es) [] pos) (TV K ml (ps&&c.isEmpty) bc bc (cE n c F fs)):=by
 subst L;obtain⟨T,q,R⟩:=D.ok;refine PE.imp (t:=GP (spV X.K c n F) [] E0 (NI X.K ml ps fs)) (λO s v H Q I h=>?_) λ_ _ _ h=>IW h;refine Dz (WS I E D.at_ (Ht (h₀:=X.base) I.ok.mod.kin D.kp (aD (J pos O s v H _ I h) λb k a=>?_) G g) i);obtain⟨y,P,d,l,f⟩:=a;rw[Bi]at f;have hl:b.length=m.length:=by rw[<-l.length];exact q.len _ _ _ _ f
 have p:=R k b d.kIn (by simpa using hl);rw[Bi]at p;refine⟨d.kIn,Ft (Fi (q.run X.A X.stack k P ⟨b,[]⟩ b y Q (B.mono C) d.env0 p l f) λr S a=>?_)⟩;cases r with
 |error U=>cases a
 |ok M=>cases M with
  |ret u=>exact d.after a
  |next=>cases a
  |brk=>cases a
  |cont=>cases a
end
def aC.okVH{P:Ao}{w:Uw}{K:Ag}{mg:Uq->Option Uo}{base:Uy}{x qual:Uq}{st:Vb}{f:Up}{fd:Bq}{N ps:List Uq}{k:Nat}{ml:List Nat}{g:VS}(F:aC K x qual st f fd)(S:cO N ps (c7 st))(b:ps.length<=N.length)(i:∀(a:Uo) (A:Bp) (outer:List Env) (s:Ad) (H:Hp),YC k (A.deeper (envOfC qual (c7 st) s.heap.objs.size f a))->X4 (cxH P w K mg base N qual (c7 st) f a A outer s H) (bT st) (WZ K ml g)):FnH P w K mg base (k+1) f fd ps (spV K ml ps.length (bC N.length ml g)):=by refine F.okH S (λc H Q E h=>?_) (λa A outer s H c Q d h=>⟨_,i a A outer s H d,Wm (E:=E0) b h⟩);obtain⟨Z,j,r,os,e,AV,_⟩:=h;rw[AV.len,e]
structure XQ(K:Ag)(C Cp:Up)(r:Bool):Prop where
 ty:Tj K (.ref Cp)=ba (.type "type")
 cls:(Sk K Cp).isSome=bc
 base:Qg K (.ref Cp) (.type "BaseException")=ba bc
 sub:Qg K (.ref C) (.ref Cp)=ba r
def XP.q{K:Ag}{C Cp:Up}(h:XP K C Cp):XQ K C Cp bc:=⟨h.ty,h.cls,h.base,h.sub⟩
def dP{r:Bool}{prog:Ao}{w:Uw}{A:Bp}{E:Uo->Ad->Prop}{s:Ad}{K:Ag}{x C Cp:Up}{o:Vc}{Q:Bool->Ad->Prop}(X:K.In s.heap)(c:s.heap.get? x=ba o)(hc:o.cls=.ref C)(F:XQ K C Cp r)(h:Q r s):Ut (Uu prog w) A (excMatches (.ref x) (.ref Cp)) Q E s:=by
 obtain⟨b,g,p,t,os⟩:=s;cases r
 all_goals
  have m:W.Looks (Uu prog w) b (Nt (.ref x)) (.ref C):=hc▸(W.Looks.ld c).andThen .now;have l:=W.looks_typeIn (M:=Uu prog w) X F.ty;have j:=W.looks_subIn (M:=Uu prog w) X F.base;have i:=W.looks_subIn (M:=Uu prog w) X F.sub;have e:W.Looks (Uu prog w) b (isType (.ref Cp)) bc:=by
   have a:=F.cls;unfold Sk at a;split at a;rename_i d;intro y u v n k q;unfold isType loadHead;exact Ab (Kq (k _ _ (X _ _ d)) (Af q));cases a
  have f:=tc_notTuple;unfold excMatches isExcClass Li;repeat (any_goals (first|assumption|with_reducible refine W.Looks.at m ?_|with_reducible refine W.Looks.at l ?_|with_reducible refine W.Looks.at j ?_|with_reducible refine W.Looks.at i ?_|with_reducible refine W.Looks.at e ?_|wp_step))
def excP(a C:Up):Option Up->Uy->Prop
 |none=>λh=>A8 h a C
 |some D=>λh=>Yj h a C D
section
variable{X:Cx}{aa:List (Up×Vc)}{σ:St}{H:Hp}{s:Ad}{h':Uy}{a C:Up}
def cI.track{o:Vc}{vs:Array Uo}{p:Option Up}(I:cI X aa σ H s)(P:H a=bb)(i:s.heap.get? a=ba o)(hc:o.cls=.ref C)(w:o.data=.fields vs)(g:o.dict=p)(hs:X.s₀.heap.get? a=bb)(O:∀p∈X.pn++aa,p.1≠a):cI X aa σ (upd H a (.ext (excP a C p))) s:=by
 have y:∀b o,X.s₀.heap.get? b=ba o->b≠a:=λb o e z=>by rw[z,hs]at e;cases e
 have f:∀b u,H b=ba u->b≠a:=λb u e z=>by rw[z,P]at e;cases e
 refine⟨I.ok,I.os,I.bare,⟨I.base.keep,I.base.slot,λb o e n N=>?_,I.base.there,λb E e=>?_,λb o u e=>?_,λb J e=>?_⟩,I.loc,I.cell,?_,λx c e=>?_,λp F=>?_,λb u e=>?_,I.len⟩;rw[cL (y b o e)];exact I.base.free b o e n N;have q:=I.base.tups b E e;rw[cL (f b _ q)];exact q;have q:=I.base.frzs b o u e;rw[cL (f b _ q)];exact q;obtain⟨M,q⟩:=I.base.tbls b J e;exact⟨M,by rw[cL (f b _ q)];exact q⟩;obtain⟨m,⟨U,_,_,r,t,_⟩,_⟩:=I.loc;have:X.env.locals≠a:=λz=>by rw[z,i]at r;cases r;rw[w]at t;cases t
 rw[cL this];exact I.free;obtain⟨v,T,l,g⟩:=I.cell x c e;have:c≠a:=λz=>by rw[z,i]at l;cases l;rw[w]at g;cases g
 rw[cL this];exact I.freeC x c e;obtain⟨e,n,L,K,d⟩:=I.pin p F;exact⟨e,by rw[cL (O p F)];exact n,L,K,d⟩;by_cases G:b=a;subst G;rw[cM]at e;cases e;cases p with
 |none=>exact⟨⟨o,vs,i,hc,w⟩,⟨o,i⟩,λR Q q k=>by obtain⟨j,h,D,B,A⟩:=q;exact⟨j,h,k j D,B,A⟩⟩
 |some V=>exact⟨⟨o,vs,i,hc,w,g⟩,⟨o,i⟩,λR Q q k=>by obtain⟨j,h,D,B,A,S⟩:=q;exact⟨j,h,k j D,B,A,S⟩⟩
 rw[cL G]at e;exact(I.hok b u e).stay (λ_ _ _ q=>q) (λc q=>by rw[cL (f c _ q)];exact q) λc E q=>by rw[cL (f c _ q)];exact q
def cI.unbound{r:Uq->Option Uo}{t':Nat}(I:cI X aa σ H s)(ns:h'.Ns X.env.locals r)(f:Ek X.env.locals s.heap h'):cI X aa (Av X.N.length bb) H {s with heap:=h',toks:=t'}:=by
 have a:∀b o,X.s₀.heap.get? b=ba o->b≠X.env.locals:=λb o e=>Ap (Ba (Aj e) I.ok.above);have g:∀b u,H b=ba u->b≠X.env.locals:=λb u e z=>by rw[z,I.free]at e;cases e
 refine⟨I.ok,I.os,I.bare,⟨λb o e n j h=>(f.2 b (a b o e)).trans (I.base.keep b o e n j h),λb o e n j h=>?_,I.base.free,λb o e h=>?_,I.base.tups,I.base.frzs,I.base.tbls⟩,⟨r,ns,λi x v _ k _=>?_⟩,λx c e=>?_,I.free,I.freeC,λp B=>?_,λb u e=>?_,by simp⟩;obtain⟨w,l⟩:=I.base.slot b o e n j h;exact⟨w,(f.2 b (a b o e)).trans l⟩;obtain⟨y,l⟩:=I.base.there b o e h;exact⟨y,(f.2 b (a b o e)).trans l⟩
 ·rw[Dj]at k
  split at k<;>cases k
 obtain⟨v,z⟩:=I.cell x c e;exact⟨v,z.sameBut f (I.cne x c e)⟩;obtain⟨e,n,m,A,d⟩:=I.pin p B;exact⟨(f.2 p.1 m).trans e,n,m,A,d⟩;refine (I.hok b u e).stay (λc v hc q => (f.2 c ?_).trans q) (λ_ q => q) λ_ _ q => q;rcases hc with rfl|hc;exact g _ u e;exact g c _ hc
end
def Cx.Ok.pns{X:Cx}(ok:X.Ok)(pn:List (Up×Vc))(xe:Uo->Ad->Prop):Cx.Ok {X with pn:=pn,xe:=xe}:=
 ⟨ok.mod,ok.kind,ok.glob,ok.blt,ok.above,ok.inj,ok.has,ok.cab,ok.hd,ok.frames,ok.stk,ok.exf,ok.bs,ok.bsz,ok.noex,ok.exfs,ok.funs,ok.frf⟩
abbrev Cx.hnd(X:Cx)(a:Up):Cx:={X with A:=X.A.mark (ba (.ref a)),calm:=be,xe:=λ_ _=>False}
def DN:Xw->cZ
 |(x,bb)=>.exn x
 |(x,ba (n,d))=>.exr x n d
section
variable{X:Cx}{K:Ag}{ml:List Nat}{pos:Pos}{g k kA:VS}{z:VZ}
def jM{n:Uq}{dw:Pos}{b0:Vb}{cj:List Vb}{i:Nat}{R:List (Up×Vc)}{D:N5}{B:Bs}{W:Nat->Option Up}{δ1 t:Ev}{d:cZ}{H:Xw}{C a:Up}{a0:Uo}{p:Option Up}{c:St}{l:Hp}{s':Ad}{gh V Y:Uy}(hN:X.N.Nodup)(hi:X.N[i]?=ba n)(hl:X.env.kindOf n=ba .local)(him:i∉ml)(hst:X.stack=X.env::X.outer)(hk:∀a,X4 (X.hnd a) (b0::cj) (WZ X.K ml k))(hx:XC X.K H.1 C)(J':cI X R c l s')(G:Low X R gh)(fl5:Ko Y (X.env::X.outer) a (.ref C) a0 V)(dc5:Dc a p V)(up5:s'.heap.UpToSlots V)(c1:∀b o,gh.get? b=ba o->b∉TW X.stack->∃F,s'.heap.get? b=ba F/\Y.get? b=ba F)(c2:∀b u,l b=ba u->∃o,s'.heap.get? b=ba o/\Y.get? b=ba o)(S1:bN X.K ml B W l c δ1)(E:Pay X.K (Nn B W) l p H.2)(h3:k (δ1.set i (.va (DN H)))=ba (.rt d t))(J:Post X.K ml B D (.rt d t)):Gg (Uu X.prog X.w) (X.A.mark (ba (.ref a))) (.handlers (.ref a) [.ExceptHandler bb (ba n) (b0::cj) dw] X.env) (λr s=>match r with
   |.ok f=>Ut (Uu X.prog X.w) X.A (do Rp X.env n .none;unbindBehindTheSuite X.env n dw) (λ_ I=>SP X R D f I) X.xe s
   |.error x=>cameBackBy (Uu X.prog X.w) X.A X.env X.xe x s) {s' with heap:=V}:=by
 refine codeAny_handlers_suite_as (OB (KD.flight _ _) dc5 (lands_againW fl5 λh6 g Z dc6=>?_));have I6:cI X R c l {s' with heap:=h6}:=J'.flyG G g.1 (up5.trans Z) c1 c2;obtain⟨oe,vs,_,_,_,P,hcl,Q,_⟩:=id g.2.2.2;have dct:oe.dict=p:=dc6.at P;have Bn:Y.get? a=bb:=g.2.1;have L:a∉TW X.stack:=λhb=>by rw[hst]at hb;obtain⟨_,F,e',nf⟩:=g.2.2.1.mem hb;rw[P]at e';cases e';exact nf vs Q
 have na:∀b o,gh.get? b=ba o->b≠a:=λb o e z=>by subst z;obtain⟨F,_,j⟩:=c1 b o e L;rw[Bn]at j;cases j
 have U:l a=bb:=by
  cases e:l a with
  |none=>rfl
  |some u=>
   obtain⟨F,_,j⟩:=c2 a u e;rw[Bn]at j;cases j
 have hs0:X.s₀.heap.get? a=bb:=by
  cases e:X.s₀.heap.get? a with
  |none=>rfl
  |some F=>
   obtain⟨o2,j⟩:=G.s0 a F e L;exact absurd rfl (na a o2 j)
 have I7:=I6.track (p:=p) (C:=C) U P hcl.1 Q dct hs0 λq hq=>by obtain⟨o2,j⟩:=G.pin q hq;exact na _ o2 j
 have S7:bN X.K ml B W (upd l a (.ext (excP a C p))) c δ1:=S1.same (cR U);refine V9 (X:=X.hnd a) (I7.around rfl) hN hi (.inl hl) (v:=.ref a) rfl (λs8 I8=>?_) (.inr hl);have rx:∀M,bV X.K (Nn B W) (upd l a (.ext (excP a C p))) M (.ref a) (DN H):=λM=>by
  obtain⟨xn,y⟩:=H;cases p with
  |none=>
   cases y with
   |none=>exact .exn hx.at_ cM λh z=>z
   |some y=>exact E.elim
  |some D0=>
   cases y with
   |none=>exact E.elim
   |some y=>
    obtain⟨yn,yd⟩:=y;obtain⟨v,e,r⟩:=E;have nD:D0≠a:=λq=>by rw[q,U]at e;cases e
    exact .exr hx.at_ cM (λh z=>z) (by rw[cL nD];exact e) (r.same (cR U))
 have S8:=S7.setVa (i:=i) (v:=.ref a) (d:=DN H) him (rx _);refine Aw (hk a R s8 _ _ ⟨λ_ _=>False,D.rt,λ_ _=>False,λ_ _=>False⟩ I8 ⟨B,_,_,.rt d t,S8,h3,J⟩) (λf s9 T=>?_) λe s9 P=>(show False from P).elim;cases f with
 |next=>obtain⟨_,_,_,z⟩:=T;cases z
 |brk=>obtain⟨_,_,_,z⟩:=T;cases z
 |cont=>obtain⟨_,_,_,z⟩:=T;cases z
 |ret u=>
  obtain⟨v,σ9,H9,S,r9,hD⟩:=T;have S:=S.back J'.ok;obtain⟨m,hn,_⟩:=id S.loc;refine wpAny_nameGoes hl hn (by rw[S.ok.kind];rfl) λh' m' ns' sb=>?_;exact⟨v,_,H9,S.unbound ns' sb,r9,hD⟩
def CQ(g:VS)(z:VZ)(i:Nat)(e:Uq->VS):VS:=λc=>match g c with
 |some o=>ba o
 | none => match z c with
  |some (x,b)=>match e x.1 (b.set i (.va (DN x)))with
   |some (.rt d a)=>ba (.rt d a)
   |_=>bb
  |none=>bb
structure Yp(X:Cx)(ml:List Nat)(i:Nat)(kk:Uq->VS)(aa:List (Up×Vc))(D:N5)(C a:Up)(x:Xw)(s':Ad)(h5:Uy):Prop where
 xc:XC X.K x.1 C
 ex:∃B O' δ1 δ2 d a0 p σ2 H2 gh Bh,cI X aa σ2 H2 s'/\Low X aa gh/\Ko Bh (X.env::X.outer) a (.ref C) a0 h5/\Dc a p h5/\s'.heap.UpToSlots h5/\(∀b o,gh.get? b=ba o->b∉TW X.stack->∃o',s'.heap.get? b=ba o'/\Bh.get? b=ba o')∧
  (∀b u,H2 b=ba u->∃o,s'.heap.get? b=ba o/\Bh.get? b=ba o)/\bN X.K ml B O' H2 σ2 δ1/\Pay X.K (Nn B O') H2 p x.2/\kk x.1 (δ1.set i (.va (DN x)))=ba (.rt d δ2)/\Post X.K ml B D (.rt d δ2)
def kW{body:List Vb}{h0:Pq}{hs:List Pq}{i:Nat}{U:Uq->VS}(hK:X.K=K)(v:X.stack=X.env::X.outer)(V:X.env.frame=ba X.env.locals)(hg:X4 X.nox body (WZ K ml g))(hz:∀(pn:List (Up×Vc)) (xe:Uo->Ad->Prop) (R:Uq->Option Up->St->Hp->Prop),RzF {X with pn:=pn,xe:=xe} R->X4 {X with pn:=pn,xe:=xe} body (ZS R K ml z))(hh:∀b D C a x s' E,Yp X ml i U b D C a x s' E->Ut (Uu X.prog X.w) X.A (handleBy (.ref a) X.env (h0::hs)) (λf s=>SP X b D f s) X.xe {s' with heap:=E}):PS X (.Try body (h0::hs) [] [] pos) (WZ K ml (CQ g z i U)):=by
 intro b s k H D I h;obtain⟨B,O,y,o,S,q,l⟩:=h;refine wpAny_Try_except ?_;unfold CQ at q;cases h1:g y with
 |some o'=>
  rw[h1]at q;cases q;refine Aw (hg b s k H D (I.wish _) ⟨B,O,y,o,S,h1,l⟩) (λf P j=>?_) λe P W=>(show False from W).elim;have j:=j.unwish;cases f with
  |next=>exact Gm j
  |_=>exact j
 |none=>
  rw[h1]at q;dsimp only at q;cases h2:z y with
  |none=>rw[h2]at q;cases q
  |some p=>
   obtain⟨n,c⟩:=p;rw[h2]at q;dsimp only at q;cases Z:U n.1 (c.set i (.va (DN n)))with
   |none=>rw[Z]at q;cases q
   |some ok=>
    rw[Z]at q;cases ok with
    |nx _=>cases q
    |bk _=>cases q
    |ct _=>cases q
    |rt d L=>
     cases q;subst hK;have I1:∀{xe:Uo->Ad->Prop}{k:St}{H:Hp}{s:Ad},cI X b k H s->cI {X with pn:=X.pn++b,xe:=xe} [] k H s:=λI=>⟨I.ok.pns _ _,I.os,I.bare,I.base,I.loc,I.cell,I.free,I.freeC,λp m=>I.pin p (by simpa using m),I.hok,I.len⟩;have I2:∀{xe:Uo->Ad->Prop}{ps:List (Up×Vc)}{k:St}{H:Hp}{s:Ad},cI {X with pn:=X.pn++b,xe:=xe} ps k H s->cI X b k H s:=λJ=>⟨I.ok,J.os,J.bare,J.base,J.loc,J.cell,J.free,J.freeC,λp m=>J.pin p (Aq _ m),J.hok,J.len⟩;refine Aw (hz (X.pn++b) _ (λx p t H'=>x=n.1/\∃r,bN X.K ml B r H' t c/\Pay X.K (Nn B r) H' p n.2) (λps x C p G H2 e s' gh hx J F lo hR=>?_) [] s k H ⟨λ_ _=>False,λ_ _=>False,λ_ _=>False,λ_ _=>False⟩ (I1 I) ⟨B,O,y,n,c,S,h2,λt H' r p S' m=>⟨rfl,r,S',m⟩⟩) (λf P j=>?_) λe P W=>W;rotate_left;cases f with
     |next=>obtain⟨_,_,_,z⟩:=j;cases z
     |brk=>obtain⟨_,_,_,z⟩:=j;cases z
     |cont=>obtain⟨_,_,_,z⟩:=j;cases z
     |ret u=>obtain⟨_,_,_,_,_,z⟩:=j;cases z
     obtain⟨rfl,r,S1,Q⟩:=hR;have J':=I2 J;have T:Low X b gh:=⟨lo.s0,λp m=>lo.pin p (Aq _ m)⟩;obtain⟨a,a0,Bh,rfl,fl,dc,c1,c2⟩:=F;have fl:Ko Bh (X.env::X.outer) a (.ref C) a0 s'.heap:=v▸fl;refine OB (KD.note _ _) dc (wpAny_looks_onW (J'.ok.frames.trans (by rw[v])) V fl λh4 Y N dc4=>OB (KD.flight _ _) dc4 (wpAny_landsW Y λE fl5 M dc5=>?_));exact hh b D C a n s' E ⟨hx,B,r,c,L,d,a0,p,G,H2,gh,Bh,J',T,fl5,dc5,N.trans M,c1,c2,S1,Q,Z,l⟩
def OF{n o:Uq}{np dw:Pos}{Q:Vb}{M:List Vb}{rest:List Pq}{i:Nat}{I:Uq->VS}{m:List (Up×Vc)}{D:N5}{C a U:Up}{x:Xw}{s':Ad}{l:Uy}{r:Bool}(u:X.stack=X.env::X.outer)(hN:X.N.Nodup)(hi:X.N[i]?=ba n)(hl:X.env.kindOf n=ba .local)(y:i∉ml)(z:Gl X o)(hm:X.mg o=ba (.ref U))(hq:XQ X.K C U r)(F:(o==("__debug__":Uq))=be)(L:Yp X ml i I m D C a x s' l)(v:r=bc->(∀a,X4 (X.hnd a) (Q::M) (WZ X.K ml k))/\I x.1=k)(hr:r=be->Ut (Uu X.prog X.w) X.A (handleBy (.ref a) X.env rest) (λf s=>SP X m D f s) X.xe {s' with heap:=l}):Ut (Uu X.prog X.w) X.A (handleBy (.ref a) X.env (.ExceptHandler (ba (.Name o np)) (ba n) (Q::M) dw::rest)) (λf s=>SP X m D f s) X.xe {s' with heap:=l}:=by
 obtain⟨hx,B,O',W,V,d,a0,p,e,T,gh,Bh,R,j,c,G,g,P,O,S1,t,J,h⟩:=L;have S:cI X m e T {s' with heap:=l}:=R.flyG j c.1 g P O;have H:cI (X.hnd a) m e T {s' with heap:=l}:=S.around rfl;refine wpAny_handleBy_cons (codeAny_handlers_test (WS (X:=X.hnd a) H z hm ?_ F)) (by intro q;cases q);obtain⟨oe5,Y,_,_,_,E,Z,_⟩:=id c.2.2.2;refine dP S.kIn E Z.1 hq ?_;cases r with
 |false=>exact hr rfl
 |true=>
  obtain⟨v,ek⟩:=v rfl;rw[ek]at J;exact jM hN hi hl y u v hx R j c G g P O S1 t J h
end
section
variable{X:Cx}{K:Ag}{ml:List Nat}{e a b c fx:Uv}{es:List Uv}{pa ta ia pb tb ib pf ft fi ps:Bool}{fa fb fe:VF}{B:Bs}{O:Nat->Option Up}{H H1 H':Hp}{σ:St}{δ δ':Ev}{v:V}{d:cZ}{pos:Pos}{R:Uq->Option Up->St->Hp->Prop}
def V0:List cZ->Option (List Bool)
 |[]=>ba []
 |.bl i::b=>(V0 b).map λa=>i::a
 |_=>bb
theorem JJ{N:Up->Prop}:∀{xs:List V}{ds:List cZ}{ns:List Bool},cG K N H xs ds->V0 ds=ba ns->xs=ns.map V.bl
 |_,_,_,.nil,h=>by cases h;rfl
 | _,_,_,@cG.cons _ _ _ v c d ds h t,e => by
  cases d with
  |bl k=>
   cases h;have e:(V0 ds).map (λb=>k::b)=ba _:=e;cases a:V0 ds with
   |none=>rw[a]at e;cases e
   |some b=>
    rw[a]at e;cases e;rw[JJ t a];rfl
  |_=>cases e
noncomputable def EB(n:Bool):List Bool->Option Nat
 |[]=>bb
 |i::a=>if i=n then ba 0 else(EB n a).map (· +1)
theorem J8{n:Bool}:∀{ns:List Bool}{j:Nat},EB n ns=ba j->ns[j]?=ba n/\∀m,m<j->ns[m]? ≠ba n
 |[],_,h=>by cases h
 | i :: ns,j,h => by
  unfold EB at h;split at h;rename_i b;cases h;exact⟨by rw[b];rfl,λm a=>absurd a (Sf _)⟩;rename_i b;cases c:EB n ns with
  |none=>rw[c]at h;cases h
  |some k=>
   rw[c]at h;cases h;obtain⟨e,d⟩:=J8 c;refine⟨by simpa using e,λm a=>?_⟩;cases m with
   |zero=>simpa using b
   |succ m=>simpa using d m (Nat.lt_of_succ_lt_succ a)
def FT(n:Bool):Uo->Bool
 |.bool i=>i==n
 |_=>be
theorem LG:∀{ns:List Bool}{us:List Uo},bS (ns.map V.bl) us->us=ns.map Gy
 |[],_,.nil=>rfl
 |i::ns,_,.cons r t=>by rw[LG t];cases r;rfl
def II(K:Ag):V->List V->Hp->VK->Prop:=λx b H Q=>∃(l:Up) (a:List Bool) (n:Bool) (j:Nat),x=.ref l/\b=[.bl n]/\W8 K H l (a.map V.bl)/\EB n a=ba j/\Q (.int j) H
def IH(K:Ag):V->List V->Hp->VK->Prop:=λx b H Q=>∃(l:Up) (a:List Bool) (n:Bool),x=.ref l/\b=[.bl n]/\W8 K H l (a.map V.bl)/\Q (.int (a.count n:Nat)) H
def Zl{us:List Uo}{n:Bool}(r:bS [V.bl n] us):us=[.bool n]:=by
 cases r with
 |cons r t=>cases t;cases r;rfl
def rP:MtM X "list.index" (II X.K):=by
 intro R s σ H x N v O Q I A B h;obtain⟨l,a,n,j,rfl,rfl,E,J,q⟩:=h;cases A;obtain rfl:=Zl B;obtain⟨C,r,⟨o,c,e,hc,p,u⟩,k⟩:=I.list E;obtain⟨M,P,data,w⟩:=o;simp only at hc p u;subst hc p u;have hl:=r.length;obtain rfl:=LG r;obtain⟨t,L⟩:=J8 J;have b:j<a.length:=(Ai.mp t).1;have D:a.length<=16777216:=by rw[Bb]at k;rw[<-Bg];exact k
 refine Gf F.slot_list_index ⟨_,e,rfl⟩ F.entry_list_index (F.args_list_index_2 _ _) (SeqAt.list_indexAt l (a.map Gy).toArray c bb w (.bool n) (FT n) j (by simpa using b) (by lia) ?_ ?_) ⟨e,?_,?_⟩;have : a[j] = n := by have := De b;rw [t]at this;exact (Cg this).symm
 simp[FT,this];intro m G f;have g:m<a.length:=by simpa using G
 have:=L m f
 rw[De g]at this;simp only[List.getElem_toArray,List.getElem_map,FT];exact beq_eq_false_iff_ne.mpr λz=>this (by rw[z]);intro y d;have d:y∈a.map Gy:=by simpa using d
 obtain⟨i,_,rfl⟩:=Hv.mp d;exact Nm i n;exact⟨.int j,H,I.tok _,⟨_,rfl⟩,q⟩
def pZ:MtM X "list.count" (IH X.K):=by
 intro C s σ H x w v z Q I k m h;obtain⟨l,a,n,rfl,rfl,t,q⟩:=h;cases k;obtain rfl:=Zl m;obtain⟨p,r,⟨o,c,e,hc,d,f⟩,A⟩:=I.list t;obtain⟨u,B,data,j⟩:=o;simp only at hc d f;subst hc d f;obtain rfl:=LG r;refine Gf F.slot_list_count ⟨_,e,rfl⟩ F.entry_list_count (F.args_list_count_2 _ _) (SeqAt.list_countAt l (a.map Gy).toArray c bb j (.bool n) (FT n)) ⟨e,?_,?_⟩;intro y b;have b:y∈a.map Gy:=by simpa using b
 obtain⟨i,_,rfl⟩:=Hv.mp b;exact Nm i n;have g:(a.map Gy).toArray.toList.countP (FT n)=a.count n:=by rw[List.toList_toArray,List.countP_map];rfl
 refine⟨.int (a.count n:Nat),H,I.tok _,⟨s.toks,?_⟩,q⟩;rw[g]
def IA:cZ->cZ->Option cZ
 |.lst ds,.bl n=>(V0 ds).bind λa=>(EB n a).map λj=>.int j
 |_,_=>bb
def HZ:cZ->cZ->Option cZ
 |.lst ds,.bl n=>(V0 ds).map λa=>.int (a.count n:Nat)
 |_,_=>bb
def Yy{j e:Pos}{name:Uq}{id:String}{r:V->List V->Hp->VK->Prop}{o:cZ->cZ->Option cZ}(F:X.K=K)(v:Slot "list" name id)(ty:Nt (.builtin id)=pure (.type "method_descriptor"))(mt:MtM X id r)(C:∀{x y d:cZ},o x y=ba d->∃ds n ns i,x=.lst ds/\y=.bl n/\V0 ds=ba ns/\d=.int i/\∀(H:Hp) (l:Up) (Q:VK),W8 K H l (ns.map V.bl)->Q (.int i) H->r (.ref l) [.bl n] H Q)(E:PE X a (TV K ml pa ta ia fa))(D:PE X b (TV K ml pb tb ib fb))(R:Ca a name X.env (eval a X.env)=eval a X.env:=by rfl)(P:((Co e (Us (b::[]) X.env)).all (λx=> !x.1)&&(Ej e (Ck [] X.env)).all (λx=>x.1.isSome)&&decide ((b::([]:List Uv)).length+([]:List Gr).length+(if([]:List Gr).isEmpty then 0 else 1)<30))=bc:=by rfl)(T:(j.endLine==e.line)=bc:=by rfl)(hs:Us (b::[]) X.env=(be,eval b X.env)::Us [] X.env:=by rfl)(U:(Co e (Us [] X.env)).any (·.1)=be:=by rfl)(hl:(pb || (ta&&ia))=bc:=by rfl):PE X (.Call (.Attribute a name j) [b] [] e) (TV K ml (pa&&pb) bc bc (f2 o fa fb)):=
 (kBm (K := K) F Et v ty mt E (bA D ZX hs) R P T hs U).imp λσ H Q q0 => by
  obtain⟨B,O,δ,d,g,S,q,k⟩:=q0;obtain⟨x,c,y,M,L,J⟩:=OH q;obtain⟨ds,n,ns,i,rfl,rfl,I,rfl,G⟩:=C J;refine⟨B,O,δ,_,c,S,M,λY H1 f=>?_⟩;obtain⟨l,u,rfl,sq,_⟩:=f.rep.lstE;refine⟨.inl ⟨rfl,u,sq⟩,B,O,c,_,g,f.sta,L,λW m R2=>?_⟩;have w:=R2.rep;cases w;obtain⟨Z,t,N,h,A⟩:=(R2.live hl f.rep).lstE;cases N;have:=JJ A I;subst this;exact G m l Q h (k _ m ⟨R2.sta,f.frm.trans R2.frm,λz=>by obtain⟨s,p⟩:=(Ae _ _).mp z;exact(f.pur s).trans (R2.pur p),.int _⟩)
def tP{x y d:cZ}(h:IA x y=ba d):∃ds n ns i,x=.lst ds/\y=.bl n/\V0 ds=ba ns/\d=.int i/\∀(H:Hp) (l:Up) (Q:VK),W8 K H l (ns.map V.bl)->Q (.int i) H->II K (.ref l) [.bl n] H Q:=by
 unfold IA at h;split at h;rename_i ds n;cases b:V0 ds with
 |none=>rw[b]at h;cases h
 |some ns=>
  rw[b,Ar]at h;cases a:EB n ns with
  |none=>rw[a]at h;cases h
  |some j=>
   rw[a]at h;cases h;exact⟨ds,n,ns,j,rfl,rfl,b,rfl,λH l Q sq q=>⟨l,ns,n,j,rfl,rfl,sq,a,q⟩⟩
 cases h
def pK{x y d:cZ}(h:HZ x y=ba d):∃ds n ns i,x=.lst ds/\y=.bl n/\V0 ds=ba ns/\d=.int i/\∀(H:Hp) (l:Up) (Q:VK),W8 K H l (ns.map V.bl)->Q (.int i) H->IH K (.ref l) [.bl n] H Q:=by
 unfold HZ at h;split at h;rename_i ds n;cases a:V0 ds with
 |none=>rw[a]at h;cases h
 |some ns=>
  rw[a]at h;cases h;exact⟨ds,n,ns,_,rfl,rfl,a,rfl,λH l Q sq q=>⟨l,ns,n,rfl,rfl,sq,q⟩⟩
 cases h
def eU(h:X.K=K:=by rfl):MtM X "list.index" (II K):=by subst h;exact rP
def iM(h:X.K=K:=by rfl):MtM X "list.count" (IH K):=by subst h;exact pZ
def rIsx(K:Ag):RC:=λc H Q=>∃a C b u k,c=[.ref a,u]/\H a=ba (.ext b)/\(∀h,b h->A8 h a C)/\XA K C/\(Sk K C).isSome=bc/\((∃D,u=.ref D/\Hb K (.ref C) (.ref D)=ba k)∨∃n,u=.ty n/\Hb K (.ref C) (.type n)=ba k)/\Q (.bl k) H
def mW:aV X (.builtin "isinstance") (rIsx X.K):=by
 intro w s σ H y B Q I r h;obtain⟨a,C,x,u,k,rfl,t,f,g,hc,b,q⟩:=h;obtain⟨v,c,rfl,p,j⟩:=GY r;cases p;obtain⟨o,A,m,l,_⟩:=f _ (I.hok a _ t).1;have d:∀e,EP X w σ Q (.bool k) {s with toks:=e}:=λe=>⟨.bl k,H,I.tok e,rfl,q⟩;rcases b with⟨D,rfl,b⟩|⟨n,rfl,b⟩
 cases j;exact Er (FV g hc) I.kIn ⟨o,m,l⟩ b (λz=>nomatch z) d;cases j;exact Er (FV g hc) I.kIn ⟨o,m,l⟩ b (λz=>nomatch z) d
def Q2(h:X.K=K:=by rfl):aV X (.builtin "isinstance") (rIsx K):=by subst h;exact mW
structure XI(K:Ag)(cs all:List Uq):Prop where
 own:∀c∈cs,∃C,XC K c C
 isi:∀c∈cs,∀C,Cq K Ur c=ba (ba (.ref C))->∀x∈all,∃D,Cq K Ur x=ba (ba (.ref D))/\Hb K (.ref C) (.ref D)=ba (decide (c=x))
 val:∀c∈cs,∀C,Cq K Ur c=ba (ba (.ref C))->Hb K (.ref C) (.type "ValueError")=ba bc
 pke:∀c∈cs,∀C,Cq K Ur c=ba (ba (.ref C))->∃D,Cq K Ur "PackError"=ba (ba (.ref D))/\Hb K (.ref C) (.ref D)=ba bc
noncomputable def B5(cs all:List Uq)(c:Uq):cZ->Option cZ
 |.fn x=>if c∈cs/\x∈all then ba (.bl (decide (c=x)))else if c∈cs/\x= "PackError" then ba (.bl bc)else bb
 |.ty n=>if c∈cs/\n= "ValueError" then ba (.bl bc)else bb
 |_=>bb
def SX(cs all:List Uq):cZ->cZ->Option cZ
 |.exn c,y=>B5 cs all c y
 |.exr c _ _,y=>B5 cs all c y
 |_,_=>bb
def Yr{cs all:List Uq}(F:XI K cs all){N M:Up->Prop}{p:Uq}{C a:Up}{m:Uy->Prop}{y d:cZ}{u:V}{Q:VK}(g:Cq K Ur p=ba (ba (.ref C)))(j:H a=ba (.ext m))(f:∀h,m h->A8 h a C)(n:bV K N H M u y)(h:B5 cs all p y=ba d)(k:∀b:Bool,d=.bl b->Q (.bl b) H):rIsx K [.ref a,u] H Q:=by
 unfold B5 at h;split at h;rename_i r;cases n with
 |fn o=>
  split at h;rename_i c;cases h;obtain⟨q,e⟩:=F.own _ c.1;have:=g.symm.trans e.at_;cases this;obtain⟨D,l,i⟩:=F.isi _ c.1 _ g _ c.2;have:=o.symm.trans l;cases this;exact⟨_,_,_,_,_,rfl,j,f,e.att,e.cls,.inl ⟨_,rfl,i⟩,k _ rfl⟩;split at h;rename_i c;cases h;obtain⟨c,rfl⟩:=c;obtain⟨q,e⟩:=F.own _ c;have:=g.symm.trans e.at_;cases this;obtain⟨D,l,i⟩:=F.pke _ c _ g;have:=o.symm.trans l;cases this;exact⟨_,_,_,_,_,rfl,j,f,e.att,e.cls,.inl ⟨_,rfl,i⟩,k _ rfl⟩;cases h
 rename_i s;cases n;split at h;rename_i c;cases h;obtain⟨c,rfl⟩:=c;obtain⟨q,e⟩:=F.own _ c;have:=g.symm.trans e.at_;cases this;exact⟨_,_,_,_,_,rfl,j,f,e.att,e.cls,.inr ⟨_,rfl,F.val _ c _ g⟩,k _ rfl⟩;cases h;cases h
def V8{cs all:List Uq}(F:XI K cs all):K7 K (rIsx K) (SX cs all):=by
 intro H N q M r x y d e c Q j i h k;unfold SX at h;split at h;cases j with
 |exn f g a=>exact Yr F f g a i h λb e=>k (.bl b) λ_ _ _=>by rw[e];exact .bl b
 cases j with
 |exr f g a _ _=>exact Yr F f g (λh z=>by obtain⟨o,l,p,n,m,_⟩:=a h z;exact⟨o,l,p,n,m⟩) i h λb e=>k (.bl b) λ_ _ _=>by rw[e];exact .bl b
 cases h
noncomputable def MA(cs:List Uq)(nm:Uq):cZ->Option cZ
 |.exr x n d=>if x∈cs/\n=nm then ba d else bb
 |_=>bb
def hJ{v:V}{u:Uo}(h:b3 v u):Sx u=bc:=by
 cases v<;>first|(cases h;rfl)|(obtain⟨_,h⟩:=h;cases h;rfl)
def C4{cs:List Uq}{nm:Uq}(G:X.K=K)(L:∀x∈cs,∀C,Cq K Ur x=ba (ba (.ref C))->∃Cp,XG K C Cp nm/\XA K C)(F:PE X a (TV K ml pa ta ia fa))(E:Ca a nm X.env (eval a X.env)=eval a X.env:=by rfl):PE X (.Attribute a nm pos) (TV K ml pa ia ia (f1 (MA cs nm) fa)):=by
 subst G;intro Z s σ H Q I h;obtain⟨B,O,δ,d,δ',S,q,k⟩:=h;obtain⟨x,N,c⟩:=UB q;unfold MA at c;split at c;rename_i l n y;split at c;rename_i hc;cases c;obtain⟨hc,rfl⟩:=hc;refine MY E (Aw (F Z s σ H (λv H1=>∃B O δ',Res X.K ml B O H σ pa ta ia H1 δ' v (.exr l n d)/\∀v H',Res X.K ml B O H σ pa ia ia H' δ' v d->Q v H') I ⟨B,O,δ,_,δ',S,N,λv H1 R=>⟨B,O,δ',R,k⟩⟩) (λu s1 A=>?_) λ_ _ z=>z);obtain⟨v,H1,e,m,B,O,δ',R,k⟩:=A;have r:=R.rep;cases r with
 |exr D J f M p=>
  cases m;obtain⟨Cp,i,j⟩:=L _ hc _ D;obtain⟨o,vs,Y,W,U,T⟩:=f _ (e.hok _ _ J).1;obtain⟨w,t,b⟩:=(e.hok _ _ M);have b:=b n;have P:∀y:V,Dy n [(n,y)]=ba y:=λy=>by unfold Dy;rw[beq_self_eq_true]
  rw[P]at b;cases g:w n with
  |none=>rw[g]at b;cases b
  |some u=>
   rw[g]at b;have b:b3 _ u:=b;exact oK e.kIn Y W U T t g (hJ b) i j ⟨_,H1,e.tok _,b,k _ H1 ⟨R.sta,R.frm,R.pur,p.mono (λ_ z=>z) BD⟩⟩
 cases c;cases c
end
end L2
namespace L2
open PySem PySem.Spec PyProof.Rows PySem.W
def D1{K:Vh}{h:Uy}{N:Up}{m:Uq->Option Uo}{n:Uq}{v:Uo}(X:K.In h)(G:h.Ns N m)(e:nsIn K N n=ba (ba v)):m n=ba v:=by
 obtain⟨o,l,p,a,g,_,b⟩:=G;unfold nsIn at e;split at e
 ·rename_i c d i k j q
  have:=X _ _ q
  rw[a]at this;cases this;cases g;split at e;rename_i f;cases e;rw[<-b];unfold nsFind findBy;rw[<-Ox,f];rfl
  ·split at e<;>cases e
 cases e
noncomputable def excI(K:Vh)(C fI:Up):Bool:=match K.lookup C with
 |some ⟨.type "type",_,.cls a,b⟩=>(match a.mro,b.toList with
  |.ref C'::c,[_,_,_,_,ba (.builtin n),_]=>C'==C&&(n== "ValueError.__new__"&&(!a.hasDel&&(tailIn K vbs c&&(nsOkIn K a.ns&&nsIn K a.ns "__init__"==ba (ba (.ref fI))))))
  |_,_=>be)
 |_=>be
def sW{K:Vh}{h:Uy}{C fI:Up}(X:K.In h)(q:excI K C fI=bc):∃bm N nm q bs hdct sn sub ab col dd k0 k1 k2 k3 k5 mN,h.get? C=ba (Gx nm q C N bs bm hdct sn sub ab col dd k0 k1 k2 k3 k5 "ValueError.__new__")/\h.Ns N mN/\mN "__init__"=ba (.ref fI)/\Oj h vbs bm:=by
 unfold excI at q;split at q;rename_i dd p c l;split at q;rename_i r bm k0 k1 k2 k3 n k5 f e;simp only[Ae,beq_iff_eq,Qj]at q;obtain⟨rfl,rfl,d,k,a,b⟩:=q;obtain⟨nm,bs,j,i,g,m,sn,sub,ab,col,o⟩:=p;dsimp only at f d a b;subst f d;obtain⟨c⟩:=c;simp only at e;subst e;have G:=Heap.Ns.of_isNs (isNs_of_in X a);exact⟨bm,i,nm,g,bs,m,sn,sub,ab,col,dd,k0,k1,k2,k3,k5,_,X _ _ l,G,D1 X G b,tail_of_in X k⟩;cases q;cases q
structure XZ(K:Vh)(x nm:Uq)(C:Up):Prop where
 xc:XC K x C
 mak:∃Cp fI qual st txt fd,nsIn K Ur "PackError"=ba (ba (.ref Cp))/\excI K C fI=bc/\typeIn K (.ref fI)=ba (.type "function")/\LB K qual st nm txt fI fd/\XG K C Cp nm/\XH K Cp
noncomputable def UK(x nm:Uq)(fs:UL):VZ:=λa=>(fs a).bind λp=>match p.1 with
 |[.d d]=>ba ((x,ba (nm,d)),p.2)
 |_=>bb
section
variable{X:Cx}{K:Vh}{ml:List Nat}{R:Uq->Option Up->St->Hp->Prop}{pos:Pos}
def R7{x nm:Uq}{np Q:Pos}{e:Uv}{ps:Bool}{fs:UL}{j:Nat}(hK:X.K=K)(hz:RzP X R)(hc:X.calm=bc)(hr:aT j X.A)(hg:Gl X x)(hx:∃C,XZ K x nm C/\X.mg x=ba (.ref C))(hm:∀C,nsIn K Ur "PackError"=ba (ba (.ref C))->X.mg "PackError"=ba (.ref C))(ha:PA X [e] (NI K ml ps fs))(J:(x==("__debug__":Uq))=be:=by decide)(he:Us [e] X.env=[(be,eval e X.env)]:=by rfl):PS X (.Raise (ba (.Call (.Name x np) [e] [] Q)) bb pos) (ZS R K ml (UK x nm fs)):=by
 intro aa s g H D I h;obtain⟨B,O,V,x',i,S,q,k⟩:=h;subst hK;unfold UK at q;cases P:fs V with
 |none=>rw[P]at q;cases q
 |some p=>
  obtain⟨as,δ1⟩:=p;rw[P,Ar]at q;dsimp only at q;split at q;rename_i d;cases q;obtain⟨C,hC,F⟩:=hx;obtain⟨U,fI,c,st,l,fd,L,hE,hf,hI,hG,hH⟩:=hC.mak;obtain⟨bm,N,E,q,bs,f,W,sub,ab,m,dd,k0,k1,k2,k3,k5,mN,o1,o2,o3,Z⟩:=sW I.ok.mod.kin hE;have y:Co Q (Us [e] X.env)=[(be,eval e X.env)]:=by rw[he];rfl
  refine kC (C:=C) (cn:=E) (q:=q) (N:=N) (bs:=bs) (bm:=bm) (hdct:=f) (sn:=W) (sub:=sub) (ab:=ab) (col:=m) (dd:=dd) (k0:=k0) (k1:=k1) (k2:=k2) (k3:=k3) (k5:=k5) (mN:=mN) (mg:=X.mg) (Cp:=U) (fI:=fI) (K:=X.K) (nm:=nm) (qual:=c) (st:=st) (txt:=l) (fd:=fd) (Z.hasType (by decide)) (I.ok.hd hc) (by have:=hr.dp;lia) (by rw[y];rfl) (WS I hg F ⟨rfl,?_⟩ J);rw[y];refine Ed ?_;rw[<-y];refine Aw (ha Q aa s g H (λw T=>bN X.K ml B O T g i/\YT X.K (Nn B O) T g w [.d d]) I ⟨B,O,V,_,i,S,P,λw T G=>⟨G.sta,G.rep⟩⟩) (λus Y hq=>?_) λ_ _ z=>z;obtain⟨w,H2,n,rv,S2,rg⟩:=hq;cases rg with
  |d r t=>
   cases t;obtain⟨u,rfl,ru⟩:∃u,us=[u]/\b3 _ u:=by
    cases rv with
    |cons a b=>cases b;exact⟨_,rfl,a⟩
   have v:∀b o,X.base.get? b=ba o->Y.heap.get? b=ba o:=n.bk;refine⟨u,rfl,n.kIn,n.nolimit,n.mod.glob.keeps v,hm U L,v _ _ o1,o2.keeps v,o3,hf,Z.keeps v,hI,hG,hH,λh' a tk M=>hz aa x nm C a _ u g H2 Y.heap _ hC.xc (n.tok tk) M ru λD hD=>?_⟩;exact k g _ O (ba D) (S2.same (cR hD)) ⟨_,cM,r.same (cR hD)⟩
  cases q
end
end L2
namespace L2
open PySem PySem.Spec PyProof.Rows
section
variable{cs ps:List Uq}{mg:Uq->Option Uo}{x qual:Uq}{P:Ao}{w:Uw}{base:Uy}{st:Vb}{fd:Bq}{xs:List V}
def lW(l b:Up)(u v:Array Uo)(n m:Nat)(e:Array (Option Uo))(p:¬(!u.isEmpty&&Fv (u.size+v.size))=bc)(j:u.size<=sizeLine)(i:(u++v).size<=sizeLine+1):Meets (Ey.«list.extend» ⟨[.ref l,.ref b],[]⟩) (λ_ R s=>s.heap.get? l=ba ⟨.type "list",bb,.seq u n,#[]⟩/\s.heap.get? b=ba ⟨.type "list",bb,.seq v m,e⟩/\R (.ok (.ret .none)) {s with heap:=s.heap.update l (Hc λx=>x++v)}):=
 .of_wp λa w A R s h=>by
  obtain⟨o,g,d,k,os⟩:=s;obtain⟨hl,f,h⟩:=h;have f1:=Mf;have f2:=AutoSeq1.sub_tuple_tuple;have f3:=AutoSeq1.sub_list_list;have r:=AutoSeq1.sub_tuple_list;have q:=AutoSeq1.sub_list_tuple;wp_walk using(wpAny_updateSeq hl rfl (hz:=j) (_hz':=i)),Ep hl,Ep f
  exact⟨_,rfl,h⟩
def Wo(K:Ag):V->List V->Hp->VK->Prop:=λx d H Q=>∃l b c a,x=.ref l/\d=[.ref b]/\H l=ba (.lst c)/\W8 K H b a/\c.length+a.length<=sizeLine/\Q .non (upd H l (.lst (c++a)))
def v6{X:Cx}:MtM X "list.extend" (Wo X.K):=by
 intro N s C H x G v J Q I m o h;obtain⟨l,b,E,D,rfl,rfl,i,y,L,q⟩:=h;cases m;obtain⟨u,rfl,p⟩:=o.one;cases p;obtain⟨z,a,n,r,hl,e⟩:=I.lstM i;obtain⟨d,f,⟨⟨B,M,data,k⟩,t,A,hc,g,j⟩,_⟩:=I.list y;simp only at hc g j;subst hc g j;have w:=f.length;have c:a.toArray.size+d.toArray.size<=sizeLine:=by rw[Ak,Ak];lia
 refine Gf F.slot_list_extend ⟨_,e,rfl⟩ F.entry_list_extend (F.args_list_extend_2 _ _) (lW l b a.toArray d.toArray n t k (by rw[mM c,Bool.and_false];exact Bw) (by rw[Ak];lia) (by rw[Qh];lia)) ⟨e,A,?_⟩;refine⟨.non,_,I.lset (its':=a++d) i e (by simp) (r.append f) ?_,rfl,q⟩;rw[Be];lia
def Wf{X:Cx}{K:Ag}(h:X.K=K):MtM X "list.extend" (Wo K):=by subst h;exact v6
noncomputable def mExt:List cZ->List cZ->Option (List cZ)
 |b,[.lst a]=>if b.length+a.length<=16777216 then ba (b++a)else bb
 |_,_=>bb
def DU{K:Ag}:MuV K (Wo K) mExt:=by
 intro H N l f g p c n Q hl o a i h k;cases i with
 |nil=>cases h
 | @cons v g d c m t=>
  cases t with
  |cons _ _=>cases d<;>cases h
  |nil=>
   cases d with
   |lst c=>
    simp only[mExt]at h;split at h;rename_i j;cases h;obtain⟨b,e,rfl,sq,r⟩:=m.lstE;exact⟨l,b,f,e,rfl,rfl,hl,sq,by rw[a.length,r.length,Bg];exact j,k _ _ (a.append r)⟩;cases h
   |_=>cases h
def K0:Bm "ValueError"=ba (.type "ValueError"):=by decide+kernel
def YC.mark{k:Nat}{A:Bp}(r:YC k A)(h:Option Uo):YC k (A.mark h):=⟨r.dp,r.un⟩
def xiOk(K:Ag)(cs all:List Uq):Bool:=cs.all λc=>match Cq K Ur c with
 |some (ba (.ref C))=>all.all (λx=>match Cq K Ur x with
  |some (ba (.ref D))=>Hb K (.ref C) (.ref D)==ba (decide (c=x))
  |_=>be)&&(Hb K (.ref C) (.type "ValueError")==ba bc&&match Cq K Ur "PackError" with
  |some (ba (.ref D))=>Hb K (.ref C) (.ref D)==ba bc
  |_=>be)
 |_=>be
def XI.of{K:Ag}{all:List Uq}(own:∀c∈cs,∃C,XC K c C)(h:xiOk K cs all=bc):XI K cs all:=by
 have key:∀c∈cs,∀C,Cq K Ur c=ba (ba (.ref C))->(∀x∈all,∃D,Cq K Ur x=ba (ba (.ref D))/\Hb K (.ref C) (.ref D)=ba (decide (c=x)))/\Hb K (.ref C) (.type "ValueError")=ba bc/\∃D,Cq K Ur "PackError"=ba (ba (.ref D))/\Hb K (.ref C) (.ref D)=ba bc:=by
  intro c hc C a;have:=Fe.mp h c hc;rw[a]at this;simp only[Ae,beq_iff_eq]at this;refine⟨λx e=>?_,this.2.1,?_⟩;rotate_left;have b:=this.2.2;split at b;rename_i D d;exact⟨D,d,beq_iff_eq.mp b⟩;cases b;have b:=Fe.mp this.1 x e;split at b;rename_i D d;exact⟨D,d,beq_iff_eq.mp b⟩;cases b
 exact⟨own,λc hc C a=>(key c hc C a).1,λc hc C a=>(key c hc C a).2.1,λc hc C a=>(key c hc C a).2.2⟩
def xqOk(K:Ag)(cs:List Uq)(y:Uq)(a:Up):Bool:=Tj K (.ref a)==ba (.type "type")&&((Sk K a).isSome&&(Qg K (.ref a) (.type "BaseException")==ba bc&&cs.all λc=>match Cq K Ur c with
 |some (ba (.ref C))=>Qg K (.ref C) (.ref a)==ba (decide (c=y))
 |_=>be))
def XQ.of{K:Ag}{y:Uq}{b:Up}(h:xqOk K cs y b=bc):∀x∈cs,∀C,Cq K Ur x=ba (ba (.ref C))->XQ K C b (decide (x=y)):=by intro x c C d;unfold xqOk at h;simp only[Ae,beq_iff_eq]at h;have a:=Fe.mp h.2.2.2 x c;rw[d]at a;exact⟨h.1,h.2.1,h.2.2.1,beq_iff_eq.mp a⟩
def BW{K:Ag}{nm:Uq}(h:∃C,XZ K x nm C/\mg x=ba (.ref C)):∀y∈[x],∀C,Cq K Ur y=ba (ba (.ref C))->∃Cp,XG K C Cp nm/\XA K C:=by
 intro y b C c;obtain⟨e,a,_⟩:=h;cases Au.mp b;have:=c.symm.trans a.xc.at_;cases this;obtain⟨Cp,_,_,_,_,_,_,_,_,_,d,_⟩:=a.mak;exact⟨Cp,d,a.xc.att⟩
def Xa{K:Ag}{h:Uy}{f:Up}{j:List cZ->Option Xw}{k:Nat}(X:K.In h)(G:h.Ns Ur mg)(p:A4 K x st f)(ok:∀{fd:Bq},aC K x x st f fd->bZ P w K mg base (T1 P w) k f fd ps (QQ K ps.length j))(m:∀{kV doc g:Uo}{i:Option Up}{e ct:Uo}(us:List Uo),us.length=ps.length->bindArgs (Hi x x (a7 st) (bT st) (c7 st) .none kV doc g i e ct) ⟨us,[]⟩=pure (ps.zip us)):DefX P w K mg base x k ps j f:=by obtain⟨n,od,kV,doc,g,i,e,ct,l,a,b,c,d⟩:=p;have U:=QX (st:=st) b c d;exact⟨Cm X G a,⟨_,ok U,U.binds λ_ _ _ _ _ _=>m⟩,d⟩
def iZ{K:Ag}{h:Uy}{f:Up}{sp:Sp}{k:Nat}(X:K.In h)(G:h.Ns Ur mg)(p:A4 K x st f)(ok:∀{fd:Bq},aC K x x st f fd->FnH P w K mg base k f fd ps sp)(l:∀{kV doc g:Uo}{i:Option Up}{e ct:Uo}(us:List Uo),us.length=ps.length->bindArgs (Hi x x (a7 st) (bT st) (c7 st) .none kV doc g i e ct) ⟨us,[]⟩=pure (ps.zip us)):DefH P w K mg base x k ps sp f:=by obtain⟨m,od,kV,doc,g,i,e,ct,j,a,b,c,d⟩:=p;have U:=QX (st:=st) b c d;exact⟨Cm X G a,⟨_,ok U,U.binds λ_ _ _ _ _ _=>l⟩,d⟩
def okZ(P:Ao)(w:Uw)(K:Ag)(mg:Uq->Option Uo)(base:Uy){f:Up}(N ps:List Uq)(k:Nat)(z:VZ)(F:aC K x qual st f fd)(S:cO N ps (c7 st))(d:∀(a:Uo) (A:Bp) (outer:List Env) (s:Ad) (H:Hp) (E:XK) (b:aT k (A.deeper (envOfC qual (c7 st) s.heap.objs.size f a))) (_:(A.deeper (envOfC qual (c7 st) s.heap.objs.size f a)).units+64<cLine) (_:(A.deeper (envOfC qual (c7 st) s.heap.objs.size f a)).units+1<cLine),X4 (TU (T1 P w) P w K mg base N qual (c7 st) f a A outer s H E) (bT st) (ZS (rE K E) K [] z))(c:ps.length<=N.length:=by decide):bZ P w K mg base (T1 P w) (k+1) f fd ps (QQ K ps.length (UY N.length z)):=
 aC.okX F S c λa A outer s H E b=>d a A outer s H E b b.units (BR b)
def okWH(P:Ao)(w:Uw)(K:Ag)(mg:Uq->Option Uo)(base:Uy){f:Up}(N ps:List Uq)(k:Nat)(g:VS)(ml:List Nat)(F:aC K x qual st f fd)(S:cO N ps (c7 st))(d:∀(a:Uo) (A:Bp) (outer:List Env) (s:Ad) (H:Hp) (b:YC k (A.deeper (envOfC qual (c7 st) s.heap.objs.size f a))) (_:(A.deeper (envOfC qual (c7 st) s.heap.objs.size f a)).units+64<cLine) (_:(A.deeper (envOfC qual (c7 st) s.heap.objs.size f a)).units+1<cLine),X4 (cxH P w K mg base N qual (c7 st) f a A outer s H) (bT st) (WZ K ml g))(c:ps.length<=N.length:=by decide):FnH P w K mg base (k+1) f fd ps (spV K ml ps.length (bC N.length ml g)):=
 aC.okVH F S c λa A outer s H b=>d a A outer s H b b.units b.unit
def U8{a:Type}(k:Nat)(xs:List a):List a:=(Av k xs).flatten
def MK{a:Type}(k:Nat)(xs:List a):(U8 k xs).length=xs.length*k:=by
 unfold U8;induction k with
 |zero=>simp
 |succ k b=>rw[Du,Gb,Be,b,Nat.mul_succ,Nat.add_comm]
def bS.repV{us:List Uo}(r:bS xs us)(k:Nat):bS (U8 k xs) (U8 k us):=by
 unfold U8;induction k with
 |zero=>exact .nil
 |succ k a=>rw[Du,Du,Gb,Gb];exact r.append a
def cG.rep{K:Ag}{N:Up->Prop}{H:Hp}{ds:List cZ}(r:cG K N H xs ds)(k:Nat):cG K N H (U8 k xs) (U8 k ds):=by
 unfold U8;induction k with
 |zero=>exact .nil
 |succ k a=>rw[Du,Du,Gb,Gb];exact r.append a
def OO:fillsNumberSlot (.type "tuple") "mul"=pure be:=
 PySem.fillsNumberSlot_seq (id:= "tuple.__mul__") (r:=ba (.builtin "tuple.__rmul__")) F.slot_tuple_mul.lookup (by decide+kernel) F.slot_tuple_rmul.lookup (by decide+kernel)
def IK:seqRepeat? (.type "tuple")=pure (ba (.builtin "tuple.__mul__")):=by unfold seqRepeat?;rw[Rm (T:= "tuple") (name:= "__mul__") (id:= "tuple.__mul__") F.slot_tuple_mul.lookup (by decide+kernel),Rm (T:= "tuple") (name:= "__rmul__") (id:= "tuple.__rmul__") F.slot_tuple_rmul.lookup (by decide+kernel)];rfl
def EG(a:Int)(t:Vi)(l:Up)(u:Array Uo)(n:Nat)(dd:Option Up)(c:Array (Option Uo)):Meets (Ey.«int.__rmul__» ⟨[.int a t,.ref l],[]⟩) (λ_ R s=>s.heap.get? l=ba ⟨.type "tuple",dd,.seq u n,c⟩/\R (.ok (.ret Value.notImplemented)) s):=
 .of_wp λb w A R s h=>by obtain⟨f,g,d,e,os⟩:=s;obtain⟨hl,h⟩:=h;wp_walk;exact⟨_,rfl,h⟩
def DV(l:Up)(t:Vi)(u:Array Uo)(n:Nat)(dd:Option Up)(b:Array (Option Uo)):Meets (Ey.«tuple.__mul__» ⟨[.ref l,.int 1 t],[]⟩) (λ_ R s=>s.heap.get? l=ba ⟨.type "tuple",dd,.seq u n,b⟩/\R (.ok (.ret (.ref l))) s):=
 .of_wp λa w A R s h=>by
  obtain⟨e,g,d,c,os⟩:=s;obtain⟨hl,h⟩:=h;have f1:=Mf;unfold Ey.«tuple.__mul__»;wp_walk using Ep hl
  exact⟨_,rfl,h⟩
def DW(l:Up)(x:Int)(t:Vi)(u:Array Uo)(n:Nat)(dd:Option Up)(i:Array (Option Uo))(z:1<x)(y:x<2 ^ 62)(j:u.isEmpty=be)(hz:u.size*x.toNat<=16777216):Meets (Ey.«tuple.__mul__» ⟨[.ref l,.int x t],[]⟩) (λ_ R s=>s.heap.get? l=ba ⟨.type "tuple",dd,.seq u n,i⟩/\R (.ok (.ret (.ref s.heap.objs.size))) {s with heap:=s.heap.push {cls:=.type "tuple",data:=.seq ((Av x.toNat u).foldl (· ++ ·) #[])}}):=
 .of_wp λa w A R s h=>by
  obtain⟨v,g,d,r,os⟩:=s;obtain⟨hl,h⟩:=h;have f1:=Mf;unfold Ey.«tuple.__mul__»;have q:(decide (x< -2 ^ 63) || decide (x≥2 ^ 63))=be:=by simp;lia
  have p:(x==1)=be:=by simp;lia
  have o:decide (x<=0)=be:=by simp;lia
  have c:(u.size:Int)*x=((u.size*x.toNat:Nat):Int):=by rw[Int.natCast_mul,Int.toNat_of_nonneg (by lia)]
  have m:¬((u.size:Int)*x>(2 ^ 63-1)/8):=by rw[c];lia
  have k:Kl ((u.size:Int)*x)=be:=by rw[c];unfold Kl;simp only[Bg,decide_eq_false_iff_not];lia
  wp_walk using Ep hl
  rw[q];wp_walk using Ep hl
  simp only[j,p,o,Tl];wp_walk;rw[k,if_neg m];have B:¬(List.foldl (λf e=>f++e) #[] (Av x.toNat u)).size>sizeLine:=by
   have:=MK x.toNat u.toList
   unfold U8 at this;rw[listMul_foldl,Ak];show¬([]++(Av x.toNat u.toList).flatten).length>sizeLine;rw[Sm,this,Df,Bg];lia
  wp_walk;exact⟨_,rfl,h⟩
end
section
variable{X:Cx}{K:Ag}
def Zg(K:Ag):R2:=λx y H Q=>∃l a k,x=.ref l/\y=.int k/\W8 K H l a/\(0<=k/\k<2 ^ 62)/\a.length*k.toNat<=16777216/\∀p,H p=bb->Q (.ref p) (upd H p (.lst (U8 k.toNat a)))
def zG0:XR X (Fg .Mult) (Zg X.K):=by
 intro J s B H x y v u Q I p m h;obtain⟨l,j,x,rfl,rfl,z,⟨D,C⟩,f,q⟩:=h;cases p;obtain⟨t,rfl⟩:=m;obtain⟨a,r,⟨⟨A,G,data,d⟩,n,c,hc,g,i⟩,_⟩:=I.list z;simp only at hc g i;subst hc g i;have hl:=r.length;have w:a.toArray.size*x.toNat<=16777216:=by rw[Ak,<-hl];exact f
 refine Kv (T:= "list") (U:= "int") (by decide) ⟨_,c,rfl⟩ (λk=>Nf k x t) noFill_list_mul Sn Ke repeat_list F.slot_int_index.lookup
  (Gf Ke (Nf s x t) Rn (Qk _ _) (lm_int_rmul_list_any x t l a.toArray n bb d) ⟨c,rfl,⟨_,c,rfl⟩,?_⟩)
 refine Gf F.slot_list_mul ⟨_,c,rfl⟩ F.entry_list_mul (F.args_list_mul_2 _ _) (lm_list_mul_any l a.toArray n bb d x t (by simp[Builtin.List.listFitsIndex];lia) (by lia) (by simp[Fv,sizeLine];lia)) ⟨c,?_⟩;rw[listMul_foldl_if];refine⟨.ref s.heap.objs.size,_,I.laid (t':=s.toks) (o:=.lst (U8 x.toNat j)) (λb E e=>Ac _ e) (Am _) ?_,rfl,q _ (I.hok.fresh (Am _))⟩;exact⟨by rw[MK,Bg];exact f,U8 x.toNat a,0,r.repV _,Al _ rfl⟩
def Wt(K:Ag):R2:=λx y H Q=>∃l a k,x=.ref l/\y=.int k/\UN K H l a/\a≠[]/\(1<=k/\k<2 ^ 62)/\a.length*k.toNat<=16777216/\(k=1->Q (.ref l) H)/\∀p,H p=bb->Q (.ref p) (upd H p (.tup (U8 k.toNat a)))
def kU:XR X (Fg .Mult) (Wt X.K):=by
 intro N s J H x y v u Q I B A h;obtain⟨l,p,x,rfl,rfl,D,i,⟨L,w⟩,k,q1,q⟩:=h;cases B;obtain⟨t,rfl⟩:=A;obtain⟨c,r,⟨⟨G,j,data,f⟩,d,hc,n,m⟩,_⟩:=I.tuple D;simp only at hc m;subst hc m;have hl:=r.length;have g:c.toArray.size*x.toNat<=16777216:=by rw[Ak,<-hl];exact k
 have C:c.toArray.isEmpty=be:=by
  cases c with
  |nil=>exact absurd (r.nil_iff.mp rfl) i
  |cons a b=>rfl
 refine Kv (T:= "tuple") (U:= "int") (by decide) ⟨_,d,rfl⟩ (λz=>Nf z x t) OO Sn Ke IK F.slot_int_index.lookup
  (Gf Ke (Nf s x t) Rn (Qk _ _) (EG x t l c.toArray n j f) ⟨d,rfl,⟨_,d,rfl⟩,?_⟩)
 by_cases E:x=1;subst E;exact Gf Ro ⟨_,d,rfl⟩ Ql (Pr _ _) (DV l t c.toArray n j f) ⟨d,⟨.ref l,H,I,rfl,q1 rfl⟩⟩;refine Gf Ro ⟨_,d,rfl⟩ Ql (Pr _ _) (DW l x t c.toArray n j f (by lia) w C g) ⟨d,?_⟩;rw[listMul_foldl];refine⟨.ref s.heap.objs.size,_,I.laid (t':=s.toks) (o:=.tup (U8 x.toNat p)) (λb M e=>Ac _ e) (Am _) ?_,rfl,q _ (I.hok.fresh (Am _))⟩;exact⟨by rw[MK,Bg];exact k,U8 x.toNat c,r.repV _,Ov _ _⟩
def Zq(K:Ag):R2:=λx y H Q=>Zg K x y H Q∨Wt K x y H Q
def kRep(h:X.K=K:=by rfl):XR X (Fg .Mult) (Zq K):=by subst h;exact zG0.or kU
noncomputable def W3:cZ->cZ->Option cZ
 |.lst a,.int k=>if(0<=k/\k<2 ^ 62)/\a.length*k.toNat<=16777216 then ba (.lst (U8 k.toNat a))else bb
 |.tup (d::a),.int k=>if(1<=k/\k<2 ^ 62)/\(a.length+1)*k.toNat<=16777216 then ba (.tup (U8 k.toNat (d::a)))else bb
 |_,_=>bb
def JN:OpC K (Zq K) W3:=by
 intro H N M s x y d e c Q r n h k;cases d with
 |lst j=>
  cases e with
  |int i=>
   simp only[W3]at h;split at h;rename_i g;cases h;obtain⟨a,l,rfl,q1,b⟩:=r.lstE;cases n;exact .inl ⟨a,l,i,rfl,rfl,q1,g.1,by rw[b.length];exact g.2,λp f=>k _ _ (cR f) λM m=>.lst cM (λz=>by obtain⟨o,q⟩:=m _ z;rw[f]at q;cases q) ((b.rep _).same (cR f))⟩;cases h
  |_=>cases h
 |tup j=>
  cases j with
  |nil=>cases h
  |cons d j=>
   cases e with
   |int i=>
    simp only[W3]at h;split at h;rename_i g;cases h;obtain⟨a,l,rfl,q1,b⟩:=r.tupE;cases n;refine .inr ⟨a,l,i,rfl,rfl,q1,λz=>?_,g.1,by rw[b.length];exact g.2,λz=>?_,λp f=>k _ _ (cR f) λM m=>.tup (UN.of cM) ((b.rep _).same (cR f))⟩;subst z;cases b;subst z;refine k _ _ (bI.refl _) λM m=>?_;rw[show U8 (1:Int).toNat (d::j)=d::j by simp[U8]];exact .tup q1 b;cases h
   |_=>cases h
 |_=>cases h
end
noncomputable def litA:Uv->Option cZ
 |.Constant (.int i) _ _=>ba (.int i)
 |.Constant (.bool i) _ _=>ba (.bl i)
 |.Constant (.str i) _ _=>ba (.str i)
 |.Constant .none _ _=>ba .non
 |.UnaryOp .USub (.Constant (.int i) _ _) _=>ba (.int (-i))
 |_=>bb
def K1(f:Uv->Option cZ):List Uv->Option (List cZ)
 |[]=>ba []
 |e::a=>(f e).bind λd=>(K1 f a).map λb=>d::b
def FX:Nat->Uv->Option cZ
 |0,e=>litA e
 |k+1,e=>match e with
  |.Tuple es _ _=>(K1 (FX k) es).bind λa=>if a.length<=16777216 then ba (.tup a)else bb
  |.List es _=>(K1 (FX k) es).bind λa=>if a.length<=16777216 then ba (.lst a)else bb
  |e=>litA e
section
variable{X:Cx}{K:Ag}{ml:List Nat}
def BX{e:Uv}{d:cZ}(h:litA e=ba d):PE X e (TV K ml bc bc bc (fC d)):=by
 unfold litA at h;split at h;cases h;exact cS;cases h;exact bG;cases h;exact bX;cases h;exact bM;cases h;exact E2 cS;cases h
def JY{e:Uv}{es:List Uv}{d:cZ}(h:litA e=ba d):Us (e::es) X.env=(be,eval e X.env)::Us es X.env:=by
 unfold litA at h;split at h<;>first
  |rfl
  |cases h
theorem HW{f:Uv->Option cZ}(i:∀e d,f e=ba d->PE X e (TV K ml bc bc bc (fC d))/\∀es,Us (e::es) X.env=(be,eval e X.env)::Us es X.env):∀{es:List Uv}{ds:List cZ},K1 f es=ba ds->PA X es (TAV K ml bc bc λj=>ba (ds,j))
 |[],_,h=>by
  cases h;exact cF
 | e :: es,ds,h => by
  have h:((f e).bind λd=>(K1 f es).map λds=>d::ds)=ba ds:=h;cases g:f e with
  |none=>rw[g]at h;cases h
  |some d=>
   rw[g]at h;have h:(K1 f es).map (λds=>d::ds)=ba ds:=h;cases c:K1 f es with
   |none=>rw[c]at h;cases h
   |some k=>
    rw[c]at h;cases h;obtain⟨a,b⟩:=i e d g;exact cV a (HW i c) (b es)
theorem HV:∀{k:Nat}{e:Uv}{d:cZ},FX k e=ba d->PE X e (TV K ml bc bc bc (fC d))/\∀es,Us (e::es) X.env=(be,eval e X.env)::Us es X.env
 |0,e,d,h=>⟨BX h,λes=>JY h⟩
 | k + 1,e,d,h => by
  have hl:∀(es:List Uv) (g:List cZ->cZ) (l:N8->VF),(∀fs f,l fs f=(fs f).bind λp=>if p.1.length<=16777216 then ba (g p.1,p.2)else bb)->((K1 (FX k) es).bind λc=>if c.length<=16777216 then ba (g c)else bb)=ba d->∃c,PA X es (TAV K ml bc bc λf=>ba (c,f))/\l (λf=>ba (c,f))=fC d:=by
   intro es g l n h;cases j:K1 (FX k) es with
   |none=>rw[j]at h;cases h
   |some c=>
    rw[j]at h;have h:(if c.length<=16777216 then ba (g c)else bb)=ba d:=h;split at h
    ·rename_i m
     cases h;refine⟨c,HW (λe d=>HV) j,funext λf=>?_⟩;rw[n];show(if c.length<=16777216 then ba (g c,f)else bb)=_;rw[if_pos m];rfl
    cases h
  unfold FX at h;split at h;rename_i es o i;obtain⟨c,a,b⟩:=hl es .tup aJ (λ_ _=>rfl) h;exact⟨b▸bH a,λ_=>rfl⟩;rename_i es i;obtain⟨c,a,b⟩:=hl es .lst aQ (λ_ _=>rfl) h;exact⟨b▸jF a,λ_=>rfl⟩;exact⟨BX h,λes=>JY h⟩
def Q6{k:Nat}{e:Uv}{d:cZ}(h:FX k e=ba d):PE X e (TV K ml bc bc bc (fC d)):=(HV h).1
def Q8{k:Nat}{es:List Uv}{pos:Pos}{ds:List cZ}(h:K1 (FX k) es=ba ds)(hz:ds.length<=16777216):PE X (.List es pos) (TN K ml bc (fC (.lst ds))):=by
 have a:=aZ (pos:=pos) (HW (X:=X) (K:=K) (ml:=ml) (λe d=>HV (k:=k)) h);have b:aQ (λc=>ba (ds,c))=fC (.lst ds):=funext λc=>by show(if ds.length<=16777216 then ba (cZ.lst ds,c)else bb)=_;rw[if_pos hz];rfl
 exact b▸a
end
section
variable{X:Cx}{K:Ag}{ml:List Nat}{e a b c:Uv}{es:List Uv}{pa ta ia pb tb ib pc tc ic pu bt bi ps bs:Bool}{fa fb fc f:VF}{B B':Bs}{O:Nat->Option Up}{H H1 H':Hp}{σ:St}{δ δ':Ev}{v:V}{d:cZ}{pos:Pos}{st:Vb}{rest:List Vb}{g g':VS}{z z':VZ}{R:Uq->Option Up->St->Hp->Prop}
def aY:PE X e (TV K ml bc bc bc (λ_=>bb)):=λ_ _ _ _ _ _ h=>by obtain⟨_,_,_,_,_,_,q,_⟩:=h;cases q
def JB{tg:Uv}(a:PE X e (ZE R K ml z))(hs:Ib [tg] e pos.line X.env=pure be:=by rfl)(hw:Ic [tg] e X.env=pure bb:=by rfl)(b:(Uz [tg] X.env).map (·.2)=[Hh tg X.env]:=by rfl):PS X (.Assign [tg] e pos) (ZS R K ml z):=
 (EC (g:=λ_ _ _ _=>False) a (λ_ _ _ _ _ _ _ _ _ h=>h.elim) hs hw b).imp λ_ _ _ h=>h
def A5{a:List Vb}:X4 X a (WZ K ml λ_=>bb):=λ_ _ _ _ _ _ ⟨_,_,_,_,_,q,_⟩=>nomatch q
end
section
variable{X:Cx}{K:Ag}{ml:List Nat}{e a b c:Uv}{es:List Uv}{pa ta ia pb tb ib pc tc ic pu bt bi ps bs:Bool}{fa fb fc f:VF}{B B':Bs}{O:Nat->Option Up}{H H1 H':Hp}{σ:St}{δ δ':Ev}{v:V}{d:cZ}{p:Up}{pos:Pos}
def oInS:cZ->cZ->Option cZ
 |.str i,.str j=>ba (.bl (!(Ig j i 0 j.length 1).isEmpty))
 |_,_=>bb
def eY:O9 K (λx y H Q=>∃i j,x=.str i/\y=.str j/\Q (.bl (!(Ig j i 0 j.length 1).isEmpty)) H) oInS:=by
 intro H N f M g x y d e c Q b a h k;cases d with
 |str i=>
  cases e with
  |str j=>
   cases h;cases b;cases a;exact⟨i,j,rfl,rfl,k _ λ_ _ _=>.bl _⟩
  |_=>cases h
 |_=>cases h
end
def Its(x:Uq):It:=⟨λi _=>i<x.cps.size,λi H v a=>a=H/\∃c,x.cps[i]?=ba c/\v=.str ⟨#[c]⟩,λi _=>x.cps.size<=i⟩
def rG{P:Ao}{w:Uw}{K:Ag}{tg:Uv}(it:Up)(x:Uq)(t:Vi):FD P w K tg (Its x) [it] it (λi h=>h.IsStrIter it "str_ascii_iterator" x t i) where
 mem:=by simp
 obj:=λi h st b a=>by
  have e:b=it:=by simpa using a
  subst e;obtain⟨o,e,c,d⟩:=st;exact⟨o,e,λv z=>by rw[d]at z;cases z⟩
 keep:=λi h m st k=>let ⟨o,F,r⟩:=st;⟨o,k it (by simp) o F,r⟩
 item:=by intro X p hw q hc i C s B H E I l st n;subst p hw q;obtain⟨A,f1,f2,f3,y,u⟩:=l it (by simp);have j:i<x.cps.size:=n;refine wpAny_pyNext_ascii_item st (c:=x.cps[i]) (by simp[j]) λm f D=>?_;have J:cI X C B H {s with heap:=m,toks:=s.toks+1}:=I.turned (λb o a e=>(D.2 b a).trans e) A f1 f3 y u;obtain⟨o,e,c,d⟩:=id f;exact⟨_,rfl,FS (s:={s with heap:=m,toks:=s.toks+1}) e c d (by decide) ⟨.str ⟨#[x.cps[i]]⟩,H,J,⟨_,rfl⟩,⟨rfl,_,by simp[j],rfl⟩,f,λb a=>(l b a).1⟩⟩
 done:=by intro X p hw q hc i C s B H E I l st n;subst p hw q;obtain⟨A,f1,f2,f3,y,u⟩:=l it (by simp);have j:x.cps.size<=i:=n;exact wpAny_pyNext_ascii_end (I.ok.hd hc) st (by simp[j]) λm G=>⟨rfl,I.turned (t':=s.toks) (λb o a e=>G b o a e) A f1 f3 y u⟩
 self:=λ_ _ _ _ _ st h=>wpAny_pyIter_striter_ascii st h
section
variable{X:Cx}{K:Ag}{ml:List Nat}{e a b c l:Uv}{es:List Uv}{pa ta ia pb tb ib pc tc ic pu bt bi ps bs:Bool}{fa fb fc f:VF}{B B':Bs}{O:Nat->Option Up}{H H1 H':Hp}{σ:St}{δ δ':Ev}{v:V}{d:cZ}{p:Up}{pos:Pos}{tg:Uv}
def iTxt(a:TE):TI:=λσ H R=>a σ H λx H1=>∃z,x=.str z/\z.cps.all (· <128)=bc/\R (Its z) H1
def gG{d:TE}(hl:PE X l d):PI X tg l (iTxt d):=by
 intro j s σ H R I h;refine aD (hl j s σ H _ I h) λv a ⟨x,H1,c,f,q1⟩=>?_;obtain⟨z,e,i,q⟩:=q1;subst e;obtain⟨t,rfl⟩:=f;refine wpAny_pyIter_ascii i ?_;refine⟨a.heap.objs.size,[a.heap.objs.size],_,_,H1,rfl,c.kept (t':=a.toks) λb o e=>Ac _ e,rG _ z t,⟨_,Al _ rfl,rfl,rfl⟩,λb g=>?_,q⟩;have e:b=a.heap.objs.size:=by simpa using g
 subst e;exact c.fpOk (Am _) (c.hok.fresh (Am _))
def AU(z:Uq):List cZ:=z.cps.toList.map λc=>.str ⟨#[c]⟩
noncomputable def iStr(f:VF):VI:=λδ=>(f δ).bind λp=>match p.1 with
 |.str z=>if z.cps.all (· <128)=bc then ba (AU z,p.2)else bb
 |_=>bb
def lV{z:Uq}:Walk K (Its z) [] (AU z):=by
 intro N H _;refine⟨λi d e=>?_,by show z.cps.size<=(AU z).length;simp[AU]⟩;unfold AU at e;rw[Bo]at e;cases a:z.cps.toList[i]? with
 |none=>rw[a]at e;cases e
 |some c=>
  rw[a]at e;cases e;have b:z.cps[i]?=ba c:=by simpa using a
  have h:i<z.cps.size:=(Kk.mp b).1;refine⟨h,λy H' g=>?_⟩;obtain⟨rfl,j,f,rfl⟩:=g;rw[b]at f;cases f;exact⟨bI.refl _,.str _⟩
def dW(h:PE X e (TV K ml pu ta ia f)):PI X tg e (LD K ml pu (iStr f)):=(gG h).imp λσ H R q0=>by
 obtain⟨B,O,δ,g,δ',S,q,k⟩:=q0;unfold iStr at q;cases c:f δ with
 |none=>rw[c]at q;cases q
 |some p=>
  obtain⟨x,b⟩:=p;rw[c]at q;cases x with
  |str z=>
   have q:(if z.cps.all (· <128)=bc then ba (AU z,b)else bb)=ba (g,δ'):=q;split at q;rename_i d;cases q;refine⟨B,O,δ,_,_,S,c,λv H1 a=>⟨z,?_,d,k _ [] H1 (a.sta.keepV λ_ z=>nomatch z) a.frm a.pur lV⟩⟩;have r:=a.rep;cases r;rfl;cases q
  |_=>cases q
end
section
variable{X:Cx}{K:Ag}{ml:List Nat}{e a b c l:Uv}{es:List Uv}{pa ta ia pb tb ib pc tc ic pu bt bi ps bs:Bool}{fa fb fc f:VF}{B B':Bs}{O:Nat->Option Up}{H H1 H':Hp}{σ:St}{δ δ':Ev}{v:V}{d:cZ}{p:Up}{pos:Pos}{tg:Uv}
def Zv(K:Ag):RC:=λb H Q=>∃(p:Up) (a:List Int),b=[.ref p]/\W8 K H p (a.map V.int)/\a.length+1<4096/\∀l,H l=bb->Q (.ref l) (upd H l (.set (λk=>(Ps (λi=>a.getD i 0) a.length).any (· ==k)) (Ps (λi=>a.getD i 0) a.length).length))
def rX(hc:X.calm=bc):aV X (.type "set") (Zv X.K):=by
 intro A s σ H x y Q I r h;obtain⟨p,a,rfl,m,n,q⟩:=h;obtain⟨u,rfl,j⟩:=U2 r;cases j;obtain⟨c,d,pl,z⟩:=I.list m;have t:PyProof.Rows.IntsAre c.toArray.toList a:=LZ d;have hl:c.length=a.length:=by rw[<-d.length];simp
 refine PySem.call_set_list (I.ok.hd hc) pl.isList t (by simp[hl];exact n) λv g f l=>?_;simp only[Ak,hl]at f;exact⟨.ref s.heap.objs.size,_,I.laid (t':=g) (λb o e=>l b o (Aj e) e) (Am _) (show a5 X.prog X.w _ v _ (.set (λk=>(Ps (λi=>a.getD i 0) a.length).any (· ==k)) (Ps (λi=>a.getD i 0) a.length).length) from f),rfl,q _ (I.hok.fresh (Am _))⟩
def sN:aV X (.builtin "len") (λa H Q=>∃p S n,a=[.ref p]/\H p=ba (.set S n)/\Q (.int (n:Nat)) H):=by
 intro v s σ H a j Q I r h;obtain⟨p,S,n,rfl,c,q⟩:=h;obtain⟨u,rfl,b⟩:=U2 r;cases b;obtain⟨o,es,k,t,i,g,f,m,l,e,d,rfl⟩:=I.hok p _ c;refine PySem.call_len_set i g f d ?_ ⟨.int es.size,H,I.tok _,⟨_,rfl⟩,q⟩;have:es.size<4096:=e;lia
noncomputable def B7:cZ->Option cZ
 |.lst ds=>(P4 ds).bind λa=>if a.length+1<4096 then ba (.int (Ps (λi=>a.getD i 0) a.length).length)else bb
 |_=>bb
def sM{t c o:Pos}(v:X.mg "len"=bb)(j:X.mg "set"=bb)(y:PE X a (TV K ml pa ta bc fa))(hc:X.calm=bc:=by rfl)(A:X.K=K:=by rfl)(w:Gl X "len":=by rfl)(m:Gl X "set":=by rfl)(p:SE X a []:=by rfl)(f:Us (Expr.Call (.Name "set" c) [a] [] o::[]) X.env=(be,eval (Expr.Call (.Name "set" c) [a] [] o) X.env)::Us [] X.env:=by rfl):PE X (.Call (.Name "len" t) [.Call (.Name "set" c) [a] [] o] [] pos) (TV K ml pa bc bc (f1 B7 fa)):=by
 subst A;refine(UU sN w v DE (bA (OS (rX hc) m j (by decide+kernel) (bA y ZX p) (by decide) (by decide) p) ZX f) (by decide) (by decide) f).imp λσ H Q h=>?_;obtain⟨B,O,δ,d,δ',S,q,k⟩:=h;obtain⟨x,C,b⟩:=UB q;refine⟨B,O,δ,x,δ',S,C,λF H1 g=>?_⟩;cases x with
 |lst s=>
  have b:((P4 s).bind λe=>if e.length+1<4096 then ba (cZ.int (Ps (λi=>e.getD i 0) e.length).length)else bb)=ba d:=b;cases n:P4 s with
  |none=>rw[n]at b;cases b
  |some e=>
   rw[n,Ar]at b;split at b;rename_i u;cases b;obtain⟨a,E,rfl,sq,r⟩:=g.rep.lstE;have D:=P5 r n;subst D;refine⟨a,e,rfl,sq,u,λl hl=>⟨l,_,_,rfl,cM,k _ _ ⟨g.sta.same (cR hl),g.frm.trans (cR hl).fr,λz=>(g.pur z).trans (cR hl),.int _⟩⟩⟩;cases b
 |_=>cases b
end
section
variable{X:Cx}{aa:List (Up×Vc)}{σ:St}{H:Hp}{s:Ad}{a C dx p:Up}{g nm:Uq}{fs:List (Uq×V)}{xs:List V}{v:V}{A:Bp}{E:Uo->Ad->Prop}
inductive T0(H:Hp)(a C:Up):List (Uq×V)->Prop
 |ins {dx:Up}{fs:List (Uq×V)}:H a=ba (.ins C dx fs)->T0 H a C fs
 |shp {dx p:Up}{fs:List (Uq×V)}{g:Uq}{xs:List V}:H a=ba (.shp C dx fs g p xs)->T0 H a C (fs++[(g,.ref p)])
def T0.get{P:Ao}{w:Uw}{h:Uy}(c:T6 P w H h)(e:T0 H a C fs):∃b dx,E9 h a dx C b/\(∀n,WJ (fs.lookup n) (b n)):=by
 cases e with
 |ins e=>
  obtain⟨b,O,r,_⟩:=HP c e;exact⟨b,_,O,r⟩
 |shp e=>
  obtain⟨_,⟨f,_⟩,d,⟨b,n,r,_⟩,_⟩:=(show a5 P w H h a (.shp ..) from c a _ e);exact⟨b,_,⟨d,n,f⟩,r⟩
def SQ{b:Bool}{Q:Uo->Ad->Prop}(I:cI X aa σ H s)(e:T0 H a C fs)(c:Cls X.K C)(n:Z9 X.K C nm)(l:fs.lookup nm=ba v)(h:∀u s',cI X aa σ H s'->b3 v u->Q u s'):Ut (Uu X.prog X.w) A (Th (.ref a) nm b) Q E s:=by obtain⟨f,_,O,r⟩:=e.get I.hok;obtain⟨u,g,d⟩:=WJ.some_of (v:=v) (o:=f nm) (by rw[<-l];exact r nm);exact oT I.kIn O (c.get nm) c.hd n g (nC d) (h u _ (I.tok _) d)
def XU{m:Uq}{k:Up}{pl:Vg Bool}{Q:Uo×List Uo->Ad->Prop}(I:cI X aa σ H s)(e:T0 H a C fs)(c:Cls X.K C)(b:Meth X.K C m k)(l:fs.lookup m=bb)(h:Q (.ref k,[.ref a]) s):Ut (Uu X.prog X.w) A (Hm (.ref a) m pl) Q E s:=by obtain⟨d,_,O,r⟩:=e.get I.hok;have f:d m=bb:=WJ.none_of (by rw[<-l];exact r m);exact iS I.kIn O (c.get m) b.at_ b.fn f h
theorem ZT{g:Uq}{y:V}:∀{fs:List (Uq×V)}{n:Uq},(fs++[(g,y)]).lookup n=match fs.lookup n with
  |some v=>ba v
  |none=>if n=g then ba y else bb
 | [],n => by
  rw[Sm,Bl];by_cases h:n=g;subst h;simp;have : (n == g) = be := by simpa using h
  rw[this];simp[h]
 |(k,z)::fs,n=>by
  rw[Jl,Bl,Bl];cases (n==k);exact ZT (fs:=fs);rfl
def GL{y:V}{u:Uo}{Q:Unit->Ad->Prop}(I:cI X aa σ H s)(e:H a=ba (.shp C dx fs g p xs))(c:Cls X.K C)(n:Z9 X.K C nm)(Y:nm≠g)(hl:fs.length<499)(J:b3 y u)(h:∀s',cI X aa σ (upd H a (.shp C dx (WT nm y fs) g p xs)) s'->Q () s'):Ut (Uu X.prog X.w) A (Ti (.ref a) nm u) Q E s:=by
 obtain⟨⟨G,P⟩,⟨i,d,f,_⟩,L,⟨D,M,r,v⟩,m,j,k,N,O⟩:=(show a5 X.prog X.w H s.heap a (.shp C dx fs g p xs) from I.hok a _ e);have l:((fs++[(g,(.ref p:V))]).map (·.1)).length<=sizeLine:=by rw[Bb,Be,Bg];simp;lia
 refine CT I.kIn ⟨L,M,i⟩ c.sa c.po n.taker c.hd v l λT t B=>h _ ?_;have R:∃o,T.get? dx=ba o:=let ⟨o,_,_,U,_⟩:=t.ns;⟨o,U⟩
 refine I.write (x:=a) (e:=dx) (by rw[e];exact True.intro) (.inr G) (λb q S z=>(B.2 b S).trans z) R ?_;have W:=SR nm y fs;refine⟨⟨by rw[cL i];exact G,by rw[cL f];exact P⟩,⟨i,d,f,by lia⟩,t.obj,⟨_,t.ns,λz=>?_,λz m=>?_⟩,m,j,k,N,(B.2 p d).trans O⟩;show WJ ((WT nm y fs++[(g,(.ref p:V))]).lookup z) (if z=nm then ba u else D z);have F:=r z;rw[ZT]at F⊢;rw[SU];by_cases q:z=nm;rw[if_pos q,if_pos q];exact J;rw[if_neg q,if_neg q];exact F;rw[Dg];by_cases q:z=nm;rw[q];exact Aq _ (US nm y fs).1;have hw := v z (λw => m (by show (if z = nm then ba u else D z) = bb;rw [if_neg q];exact w));rw[Dg]at hw;rcases Ez.mp hw with w|w;exact Aq _ ((US nm y fs).2 z w);exact Ax _ w
end
def tAtt(K:Ag)(d:TE)(nm:Uq):TE:=λc H Q=>d c H λx b=>∃a C fs v,x=.ref a/\T0 b a C fs/\Cls K C/\Z9 K C nm/\fs.lookup nm=ba v/\Q v b
inductive We(H:Hp)(a C:Up)(nm:Uq)(y:V):Hp->Prop
 |ins {dx:Up}{fs:List (Uq×V)}:H a=ba (.ins C dx fs)->fs.length<499->We H a C nm y (upd H a (.ins C dx (WT nm y fs)))
 |shp {dx p:Up}{fs:List (Uq×V)}{g:Uq}{xs:List V}:H a=ba (.shp C dx fs g p xs)->fs.length<499->nm≠g->We H a C nm y (upd H a (.shp C dx (WT nm y fs) g p xs))
def sAtt(K:Ag)(e d:TE)(nm:Uq):TS:=λD b H=>d b H λy g=>e b g λx f=>∃a C c,x=.ref a/\We f a C nm y c/\Cls K C/\Z9 K C nm/\D.nx b c
section
variable{X:Cx}{e o value:Uv}{nm:Uq}{pos aq:Pos}{ta tv:TE}
def D8(f:PE X e ta)(g:Ca e nm X.env (eval e X.env)=eval e X.env):PE X (.Attribute e nm pos) (tAtt X.K ta nm):=by intro m s b H Q I h;refine MY g (aD (f m s b H _ I h) λu t ⟨x,q,o,d,a,C,fs,v,i,j,c,n,l,k⟩=>?_);subst i;obtain rfl:u=An a:=d;exact SQ o j c n l λu w p r=>⟨v,q,p,r,k⟩
def eW(v:PE X o ta)(r:PE X value tv)(hs:Va value (ba (.Attribute o nm aq)) pos.line X.env=pure be):PS X (.Assign [.Attribute o nm aq] value pos) (sAtt X.K ta tv nm):=by
 intro g s b H D I h;refine Fx (aD (r g s b H _ I h) λu k ⟨y,B,A,f,q⟩=>aD (v g k b B _ A q) λp E ⟨x,G,i,m,a,C,F,w,z,c,n,q2⟩=>?_) hs;subst w;obtain rfl:p=An a:=m;cases z with
 |ins e l=>exact MP i e c n (by lia) f λj d=>⟨b,_,d,q2⟩
 |shp e l t=>exact GL i e c n t l f λj d=>⟨b,_,d,q2⟩
end
structure G9(K:Ag)(x:Uq)(nms:List Uq):Prop where
 cls:∀C,Cq K Ur x=ba (ba (.ref C))->Cls K C/\∀f∈nms,Z9 K C f
def attD(nm:Uq):List Uq->List cZ->Option cZ
 |n::a,d::b=>if n=nm then ba d else attD nm a b
 |_,_=>bb
def V6(x nm:Uq):cZ->Option cZ
 |.shp x' a _ b=>if x'=x then attD nm a b else bb
 |_=>bb
section
variable{X:Cx}{K:Ag}{ml:List Nat}{a:Uv}{pa ta ia:Bool}{fa:VF}{pos:Pos}{N M:Up->Prop}{H:Hp}
theorem HF{nm:Uq}:∀{fs:List (Uq×V)}{xs:List V}{ds:List cZ}{d:cZ},cG K N H (fs.map By++xs) ds->attD nm (fs.map Br) ds=ba d->∃v,fs.lookup nm=ba v/\bV K N H N v d
 |[],_,_,_,_,h=>by cases h
 | (n,v) :: fs,xs,ds,d,r,h => by
  generalize b:((n,v)::fs).map By++xs=f at r;cases r with
  |nil=>cases b
  |cons e c=>
   cases b;have h:(if n=nm then ba _ else attD nm (fs.map Br) _)=ba d:=h;rw[Bl];split at h;rename_i a;cases h;rw[show(nm==n)=bc by rw[a];simp];exact⟨_,rfl,e⟩;rename_i a;rw[show(nm==n)=be by simpa using λz=>a z.symm];exact HF c h
def bV.onO{x:Uq}{ns:List Uq}{g:Option (Uq×Option Up)}{ds:List cZ}{v:V}(h:bV K N H M v (.shp x ns g ds)):∃a vs,v=.ref a/\X5 K H a x ns g vs/\cG K N H vs ds:=by
 generalize b:cZ.shp x ns g ds=d at h;cases h with
 |shp q _ r=>cases b;exact⟨_,_,rfl,q,r⟩
 |_=>cases b
def X5.att{x:Uq}{ns:List Uq}{g:Option (Uq×Option Up)}{ds:List cZ}{vs:List V}{b:Up}{nm:Uq}{d:cZ}(q:X5 K H b x ns g vs)(r:cG K N H vs ds)(h:attD nm ns ds=ba d):∃C fs v,Cq K Ur x=ba (ba (.ref C))/\T0 H b C fs/\fs.lookup nm=ba v/\bV K N H N v d:=by
 cases q with
 |ins c e=>
  obtain⟨v,l,a⟩:=HF (xs:=[]) (by rw[Bi];exact r) h;exact⟨_,_,v,c,.ins e,l,a⟩
 |shp c e _=>
  obtain⟨v,l,a⟩:=HF r h;exact⟨_,_,v,c,.shp e,by rw[ZT,l],a⟩
def Z5{x nm:Uq}{h:List Uq}(t:X.K=K)(c:G9 K x h)(s:PE X a (TV K ml pa ta ia fa))(p:nm∈h:=by decide)(r:Ca a nm X.env (eval a X.env)=eval a X.env:=by rfl):PE X (.Attribute a nm pos) (TV K ml pa ia ia (f1 (V6 x nm) fa)):=by
 subst t;refine(D8 s r).imp λF H Q ⟨B,O,j,d,i,S,q,k⟩=>?_;obtain⟨y,w,f⟩:=UB q;unfold V6 at f;split at f;rename_i G J g L;split at f;rename_i o;subst o;refine⟨B,O,j,_,i,S,w,λv E R=>?_⟩;obtain⟨b,I,rfl,q2,n⟩:=R.rep.onO;obtain⟨C,fs,v,u,e,l,m⟩:=q2.att n f;obtain⟨D,A⟩:=c.cls C u;exact⟨b,C,fs,v,rfl,e,D,A nm p,l,k _ E ⟨R.sta,R.frm,R.pur,m.mono (λ_ z=>z) BD⟩⟩;cases f;cases f
end
noncomputable def D7(x:Uq)(δ:Ev)(i:Nat):Option (List Uq×Option (Uq×Option Up)×List cZ):=match δ[i]? with
 |some (.ow (.shp a b g c))=>if a=x then ba (b,g,c)else bb
 |_=>bb
def UT{x:Uq}{δ:Ev}{i:Nat}{z:List Uq×Option (Uq×Option Up)×List cZ}(h:D7 x δ i=ba z):δ[i]?=ba (.ow (.shp x z.1 z.2.1 z.2.2)):=by
 unfold D7 at h;split at h;rename_i e;split at h;rename_i q;subst q;cases h;exact e;cases h;cases h
def RM.onO{K:Ag}{N:Up->Prop}{H:Hp}{a:Up}{x:Uq}{ns:List Uq}{g:Option (Uq×Option Up)}{ds:List cZ}(h:RM K N H a (.shp x ns g ds)):∃vs,X5 K H a x ns g vs/\cG K N H vs ds:=by
 generalize b:cZ.shp x ns g ds=d at h;cases h with
 |shp q r=>cases b;exact⟨_,q,r⟩
 |_=>cases b
def AI(f:Uq):List Uq->List Uq
 |[]=>[f]
 |n::a=>if n=f then n::a else n::AI f a
noncomputable def CK(f:Uq)(d:cZ):List Uq->List cZ->List cZ
 |[],a=>d::a
 |n::b,e::a=>if n=f then d::a else e::CK f d b a
 |_::_,[]=>[]
section
variable{K:Ag}{N:Up->Prop}{H:Hp}{a:Up}{x f:Uq}
theorem MG{y:V}{d:cZ}(b:bV K N H N y d):∀{fs:List (Uq×V)}{xs:List V}{ds:List cZ},cG K N H (fs.map By++xs) ds->cG K N H ((WT f y fs).map By++xs) (CK f d (fs.map Br) ds)/\(WT f y fs).map Br=AI f (fs.map Br)
 |[],_,_,r=>⟨.cons b r,rfl⟩
 | (n,v) :: fs,xs,ds,r => by
  generalize e:((n,v)::fs).map By++xs=j at r;cases r with
  |nil=>cases e
  |cons g c=>
   cases e;unfold WT;rw[Ch];unfold CK AI;by_cases a:n=f;rw[if_pos a,if_pos a,if_pos a];exact⟨.cons b c,rfl⟩;rw[if_neg a,if_neg a,if_neg a];obtain⟨i,h⟩:=MG b c;exact⟨.cons g i,by rw[Ch,h]⟩
def UX{o c:HO}{vs:List V}{ds:List cZ}(e:H a=ba c)(f:¬DA c)(g:N a)(h:cG K N H vs ds):cG K N (upd H a o) vs ds:=
 h.fr (P:=λb=>b=a) (λb u q n=>by
  by_cases d:b=a;subst d;rw[e]at q;cases q;exact absurd (n rfl) f;rw[cL d];exact q) λa z=>z▸g
def nE{fs:List (Uq×V)}{xs:List V}{y:V}{ds:List cZ}{d:cZ}(r:cG K N H (fs.map By++xs) ds)(h:bV K N H N y d):cG K N H (fs.map By++(xs++[y])) (ds++[d]):=by rw[<-Cw];exact r.snoc h
end
def S9(x f:Uq)(i:Nat)(b:VF):VS:=λa=>(b a).bind λp=>(D7 x p.2 i).bind λz=>if(z.2.1.all λy=>y.1 !=f)=bc/\z.1.length<400 then ba (.nx (p.2.set i (.ow (.shp x (AI f z.1) z.2.1 (CK f p.1 z.1 z.2.2)))))else bb
section
variable{X:Cx}{K:Ag}{ml:List Nat}{e o value:Uv}{es:List Uv}{pa ta ia pu bt bi:Bool}{fa fe:VF}{pos aq ag:Pos}{x f g v:Uq}{nms:List Uq}{i:Nat}
def WY(M:X.K=K)(c:G9 K x nms)(L:PE X (.Name v ag) (YV i))(J:PE X value (TV K ml pa bc bc fe))(F:f∈nms:=by decide)(hs:Va value (ba (.Attribute (.Name v ag) f aq)) pos.line X.env=pure be:=by rfl):PS X (.Assign [.Attribute (.Name v ag) f aq] value pos) (WZ K ml (S9 x f i fe)):=by
 subst M;refine(eW L J hs).imp λD A H n=>?_;obtain⟨B,O,I,o,S,q,k⟩:=n;unfold S9 at q;obtain⟨⟨d,l⟩,N,q⟩:=Aa.mp q;obtain⟨⟨Y,g,T⟩,G,q⟩:=Aa.mp q;dsimp only at q G;split at q
 case isFalse=>cases q
 rename_i hc;cases q;refine⟨B,O,I,d,l,S,N,λy U R=>?_⟩;obtain⟨a,s,P,w⟩:=R.sta.ow i _ (UT G);obtain⟨W,q2,j⟩:=w.onO;refine⟨.ref a,P,a,?_⟩;have E:Nn B O a:=.inr ⟨i,s⟩;cases q2 with
 | @ins C Q fs b e=>
  obtain⟨u,t⟩:=c.cls C b;have j:cG X.K (Nn B O) U (fs.map By++[]) T:=by rw[Bi];exact j
  obtain⟨h,m⟩:=MG (f:=f) R.rep j;rw[Bi]at h;refine⟨C,_,rfl,.ins e (by have:=hc.2;rw[Bb]at this;lia),u,t f F,k A _ O (R.sta.wrote s (λz=>z) ?_)⟩;show RM _ _ _ _ (.shp x (AI f (fs.map Br)) bb _);rw[<-m];exact .shp (.ins b cM) (UX e (λz=>z) E h)
 | @shp C Q p fs g pp V b e r=>
  obtain⟨u,t⟩:=c.cls C b;obtain⟨h,m⟩:=MG (f:=f) R.rep j;refine⟨C,_,rfl,.shp e (by have:=hc.2;rw[Bb]at this;lia) (λz=>by have:=hc.1;simp[z]at this),u,t f F,k A _ O (R.sta.wrote s (λz=>z) ?_)⟩;show RM _ _ _ _ (.shp x (AI f (fs.map Br)) (ba (g,pp)) _);rw[<-m];exact .shp (.shp b cM r) (UX e (λz=>z) E h)
end
section
variable{X:Cx}{aa:List (Up×Vc)}{σ:St}{H:Hp}{s:Ad}{a C dx p:Up}{g:Uq}{fs:List (Uq×V)}{xs:List V}
def WX{P:Ao}{w:Uw}{h:Uy}(c:T6 P w H h)(e:H a=ba (.shp C dx fs g p xs)):xs.length<=sizeLine/\H p=ba (.own a)/\∃(b:List Uo) (n:Nat),bS xs b/\h.get? p=ba {cls:=.type "list",data:=.seq b.toArray n}:=by obtain⟨⟨_,f⟩,_,_,_,d,r⟩:=(show a5 P w H h a (.shp C dx fs g p xs) from c a _ e);exact⟨d,f,r⟩
def CU{P:Ao}{w:Uw}{h h':Uy}{d:List V}(ok:a5 P w H h a (.shp C dx fs g p xs))(z:H a=ba (.shp C dx fs g p xs))(k:∀b u,b≠p->h.get? b=ba u->h'.get? b=ba u)(o:d.length<=sizeLine/\∃(j:List Uo) (n:Nat),bS d j/\h'.get? p=ba {cls:=.type "list",data:=.seq j.toArray n}):a5 P w (upd H a (.shp C dx fs g p d)) h' a (.shp C dx fs g p d):=by obtain⟨⟨y,x⟩,⟨m,i,f,l⟩,e,⟨q,⟨od,s,t,v,c⟩,r⟩,_⟩:=ok;exact⟨⟨by rw[cL m];exact y,by rw[cL f];exact x⟩,⟨m,i,f,l⟩,k _ _ (Dm f) e,⟨q,⟨od,s,t,k _ _ (Dm i) v,c⟩,r⟩,o⟩
def YF(H:Hp)(a C dx:Up)(fs:List (Uq×V))(g:Uq)(p:Up)(xs:List V):Hp:=upd (upd H p (.own a)) a (.shp C dx fs g p xs)
def T6.YF{P:Ao}{w:Uw}{h:Uy}(ok:T6 P w H h)(e:H a=ba (.ins C dx (fs++[(g,.ref p)])))(f:H p=ba (.lst xs))(hl:fs.length<499):T6 P w (YF H a C dx fs g p xs) h:=by
 have m:p≠a:=RI f e (λz=>nomatch z);obtain⟨d,z,n,s,v,t,r,q⟩:=(show a5 P w H h a (.ins C dx (fs++[(g,.ref p)])) from ok a _ e);have dp:dx≠p:=RI d f (λz=>nomatch z);have l:∀b,b≠a->b≠p->L2.YF H a C dx fs g p xs b=H b:=λb k j=>by unfold L2.YF;rw[cL k,cL j]
 have x:L2.YF H a C dx fs g p xs a=ba (.shp C dx fs g p xs):=cM;have o:L2.YF H a C dx fs g p xs p=ba (.own a):=by unfold L2.YF;rw[cL m,cM]
 intro b u i;by_cases k:b=a;subst k;rw[x]at i;cases i;exact⟨⟨(l dx n dp).trans d,o⟩,⟨n,dp.symm,m,by lia⟩,s,⟨v,t,r,q⟩,ok p _ f⟩;by_cases j:b=p;subst j;rw[o]at i;cases i;obtain⟨_,_,_,_,y⟩:=ok b _ f;exact⟨_,y⟩;rw[l b k j]at i;refine(ok b u i).stay (λ_ _ _ z=>z) (λc hc=>?_) λc A hc=>?_;rw [l c (RI hc e λz => nomatch z) (RI hc f λz => nomatch z)];exact hc;rw [l c (RI hc e λz => nomatch z) (RI hc f λz => nomatch z)];exact hc
def cI.YF(I:cI X aa σ H s)(e:H a=ba (.ins C dx (fs++[(g,.ref p)])))(i:H p=ba (.lst xs))(hl:fs.length<499):cI X aa σ (YF H a C dx fs g p xs) s:=by
 have l:∀b,b≠a->b≠p->L2.YF H a C dx fs g p xs b=H b:=λb k j=>by unfold L2.YF;rw[cL k,cL j]
 have f:∀b u,H b=ba u->(∀C dx fs,u≠ .ins C dx fs)->(∀d,u≠ .lst d)->L2.YF H a C dx fs g p xs b=ba u:=λb u h k j=>by rw[l b (RI h e (k _ _ _)) (RI h i (j _))];exact h
 have fr:∀b o,s.heap.get? b=ba o->H b=bb->L2.YF H a C dx fs g p xs b=bb:=λb o h c=>by rw[l b (aU e c).symm (aU i c).symm];exact c
 have u:Un X.fs [] H (L2.YF H a C dx fs g p xs) s.heap s.heap:=⟨λb o h _ _ _=>h,λb o h _ _ _=>⟨o.slots,h⟩,λb o h c _=>fr b o h c,λb o h _=>⟨o,h⟩,λb d h=>f b _ h (λ_ _ _ z=>nomatch z) (λ_ z=>nomatch z),λb o v h=>f b _ h (λ_ _ _ z=>nomatch z) (λ_ z=>nomatch z),λb d h=>⟨#[],by simpa using f b _ h (λ_ _ _ z=>nomatch z) (λ_ z=>nomatch z)⟩⟩;exact I.un (h':=s.heap) (t':=s.toks) u (I.hok.YF e i hl)
end
theorem GB{g:Uq}{y:V}:∀{fs:List (Uq×V)},g∉fs.map Br->WT g y fs=fs++[(g,y)]
 |[],_=>rfl
 |(n,v)::fs,h=>by unfold WT;rw[if_neg (λz=>h (by rw[z];simp)),GB (fs:=fs) λz=>h (by rw[Ch];exact Ay _ z)];rfl
def EJ(x g:Uq)(i:Nat):VS:=λa=>(D7 x a i).bind λz=>if z.2.1=bb/\g∉z.1/\z.1.length<400 then ba (.nx (a.set i (.ow (.shp x z.1 (ba (g,bb)) z.2.2))))else bb
section
variable{X:Cx}{K:Ag}{ml:List Nat}{pos aq ag qe:Pos}{x g v:Uq}{nms:List Uq}{i:Nat}
def nW(hK:X.K=K)(c:G9 K x nms)(ho:PE X (.Name v ag) (YV i))(hn:g∈nms:=by decide)(hs:Va (.List [] qe) (ba (.Attribute (.Name v ag) g aq)) pos.line X.env=pure be:=by rfl):PS X (.Assign [.Attribute (.Name v ag) g aq] (.List [] qe) pos) (WZ K ml (EJ x g i)):=by
 subst hK;intro N s j H D I m;obtain⟨B,O,δ,o,S,q,k⟩:=m;unfold EJ at q;obtain⟨⟨ns,g0,M⟩,J,q⟩:=Aa.mp q;dsimp only at q J;split at q
 case isFalse=>cases q
 rename_i hc;obtain⟨rfl,hg,hl⟩:=hc;cases q;obtain⟨a,L,e2,w⟩:=S.ow i _ (UT J);obtain⟨vs,q2,Y⟩:=w.onO;have nn:Nn B O a:=.inr ⟨i,L⟩;cases q2 with
 | @ins C h fs G e=>
  obtain⟨c1,c2⟩:=c.cls C G;rw[Bb]at hl;refine Fx (aD (ID ZX N s j H (λy T=>∃p,y=.ref p/\H p=bb/\T=upd H p (.lst [])) I ⟨Bz _,λp f=>⟨p,rfl,f,rfl⟩⟩) λu U ⟨y,T,I1,V,p,ey,f,eH⟩=>?_) hs;subst ey;subst eH;have A:a≠p:=aU e f;refine aD (ho N U j (upd H p (.lst [])) (λy R=>y=.ref a/\R=upd H p (.lst [])) I1 ⟨.ref a,e2,rfl,rfl⟩) λZ s2 ⟨y2,R,I2,l,r,t⟩=>?_;subst r;subst t;obtain rfl:Z=An a:=l;refine MP I2 (by rw[cL A];exact e) c1 (c2 g hn) (by lia) V λs3 Q=>?_;rw[GB hg]at Q;have P:=Q.YF (xs:=[]) cM (by rw[cL A.symm,cM]) (by lia);have eq:YF (upd (upd H p (.lst [])) a (.ins C h (fs++[(g,.ref p)]))) a C h fs g p []=upd (upd H p (.own a)) a (.shp C h fs g p []):=by
   funext b;by_cases F:b=a;simp[YF,upd,F]
   ·by_cases n:b=p<;>simp[YF,upd,F,n]
  rw[eq]at P;refine⟨j,_,P,k j _ O ?_⟩;have S1:=S.laid (p:=p) (o:=.own a) f;have S2:=S1.wrote (i:=i) (a:=a) (o:=.shp C h fs g p []) (d:=.shp x (fs.map Br) (ba (g,bb)) M) L (λz=>z) (by have W:cG X.K (Nn (B.add p) O) (upd H p (.own a)) (fs.map By) M:=(Y.away f _ _ YE).same (cR f);have E:=UX (o:=.shp C h fs g p []) (a:=a) (show upd H p (.own a) a=ba (.ins C h fs) by rw[cL A];exact e) (λz=>z) (SW _ nn) W;rw[<-Bi (fs.map By)]at E;exact .shp (.shp G cM (λ_ z=>nomatch z)) E);exact S2.unadd
end
def sC(K:Ag)(k:TE)(t:TA)(g:Uq):TE:=λe H Q=>k e H λx h=>∃a C d fs p i,x=.ref a/\h a=ba (.shp C d fs g p i)/\Cls K C/\Z9 K C g/\fs.lookup g=bb∧
 t e h λj f=>∃c b y,j=[y]/\f a=ba (.shp C d c g p b)/\b.length<sizeLine/\Q .non (upd f a (.shp C d c g p (b++[y])))
def fZ(K:Ag)(f:TE)(g:Uq):TE:=λe H Q=>f e H λx d=>∃a C c fs p b y,x=.ref a/\d a=ba (.shp C c fs g p (b++[y]))/\Cls K C/\Z9 K C g/\fs.lookup g=bb/\Q y (upd d a (.shp C c fs g p b))
section
variable{X:Cx}{o e:Uv}{es:List Uv}{g:Uq}{ta:TE}{t:TA}{al af ae:Pos}
def nT(W:PE X o ta)(Y:PA X (e::es) t)(f:Ca o g X.env (eval o X.env)=eval o X.env)(ay:Ca (.Attribute o g al) "append" X.env (eval (.Attribute o g al) X.env)=eval (.Attribute o g al) X.env)(cf:((Co ae (Us (e::es) X.env)).all (λx=> !x.1)&&(Ej ae (Ck [] X.env)).all (λx=>x.1.isSome)&&decide ((e::es).length+([]:List Gr).length+(if([]:List Gr).isEmpty then 0 else 1)<30))=bc)(aw:(af.endLine==ae.line)=bc)(hs:Us (e::es) X.env=(be,eval e X.env)::Us es X.env)(au:(Co ae (Us es X.env)).any (·.1)=be):PE X (.Call (.Attribute (.Attribute o g al) "append" af) (e::es) [] ae) (sC X.K ta t g):=by
 intro O s D H Q I h;refine Mh ay cf aw rfl (MY f (aD (W O s D H _ I h) λu s1 ⟨x,H1,I1,S,a,C,dx,fs,p,xs,ex,M,c,n,l,q⟩=>?_));subst ex;obtain rfl:u=An a:=S;refine SQ (v:=.ref p) I1 (.shp M) c n (by rw[ZT,l];simp) λu' G P r=>?_;cases r;obtain⟨_,_,i,k,_,A⟩:=WX P.hok M;have pl:Pt G.heap p i.toArray k:=A;refine⟨"list","list.append",Et,Fz,Ga,⟨_,A,rfl⟩,λb eb=>?_,?_⟩;cases eb;exact⟨_,A,rfl⟩;have L:=Y ae O G D H1 _ P q;rw[hs]at L⊢;refine Eh (by show(be || (Co ae (Us es X.env)).any (·.1))=be;rw[au]<;>rfl) (Ed ?_);refine aD L λus F ⟨vs,H2,B,T,Z,R,y,ev,d,hz,k⟩=>?_;subst ev;obtain⟨w,rfl,rw⟩:=T.one;obtain⟨_,V,N,U,E,m⟩:=WX B.hok d;have ah:=E.length;refine Gf Pb ⟨_,m,rfl⟩ Od (Ni _ _) (Py p N.toArray U w (by rw[Ak];lia)) ⟨m,?_⟩;refine⟨.non,_,?_,rfl,k⟩;have J:=Mc m (λz=>z.push w);refine B.write (x:=a) (e:=p) (by rw[d];exact trivial) (.inr V) (λb' u f j=>(Cz F.heap _ (Dm f)).trans j) ⟨_,J⟩ ?_;exact CU (B.hok a _ d) d (λb' u f j=>(Cz F.heap _ (Dm f)).trans j) ⟨by rw[Be,Em];lia,N++[w],_,E.append (.cons rw .nil),by simpa using J⟩
def tS(R:PE X o ta)(j:Ca o g X.env (eval o X.env)=eval o X.env)(W:Ca (.Attribute o g al) "pop" X.env (eval (.Attribute o g al) X.env)=eval (.Attribute o g al) X.env)(Y:(af.endLine==ae.line)=bc):PE X (.Call (.Attribute (.Attribute o g al) "pop" af) [] [] ae) (fZ X.K ta g):=by
 intro Z s J H Q I h;refine wpAny_Call_method0_late W Y (MY j (aD (R Z s J H _ I h) λu s1 ⟨x,H1,I1,M,a,C,dx,fs,p,L,y,S,m,c,n,l,q⟩=>?_));subst S;obtain rfl:u=An a:=M;refine SQ (v:=.ref p) I1 (.shp m) c n (by rw[ZT,l];simp) λu' G D r=>?_;cases r;obtain⟨O,P,d,k,B,t⟩:=WX D.hok m;refine⟨"list","list.pop",Et,PySem.F.slot_list_pop,PySem.F.type_list_pop,⟨_,t,rfl⟩,λb T=>?_,Eh rfl (PySem.evalArgs_none ?_)⟩;cases T;exact⟨_,t,rfl⟩;have hl:=B.length;rw[Be,Em]at hl O;obtain⟨u,f,N⟩:=B.get (i:=L.length) (x:=y) (by simp);have A:d.toArray[d.toArray.size-1]?=ba u:=by show d.toArray[d.length-1]?=ba u;rw[<-Ji,<-hl];exact f
 refine Gf F.slot_list_pop ⟨_,t,rfl⟩ F.entry_list_pop (F.args_list_pop_1 _) (MeetsSeq.list_pop_last p d.toArray k u A (by rw[Ak];lia)) ⟨t,?_⟩;refine⟨y,_,?_,N,q⟩;have w:=Mc t (λz=>z.eraseIdxIfInBounds (d.toArray.size-1));refine D.write (x:=a) (e:=p) (by rw[m];exact trivial) (.inr P) (λV u j f=>(Cz G.heap _ (Dm j)).trans f) ⟨_,w⟩ ?_;have U:d.toArray.eraseIdxIfInBounds (d.toArray.size-1)=d.dropLast.toArray:=by rw[Ak,List.eraseIdxIfInBounds_toArray,DM]
 rw[U]at w;have E:=B.dropLast;rw[No]at E;exact CU (D.hok a _ m) m (λV u j f=>(Cz G.heap _ (Dm j)).trans f) ⟨by lia,d.dropLast,_,E,w⟩
end
theorem OP{g:Uq}:∀{fs:List (Uq×V)},g∉fs.map Br->fs.lookup g=bb
 |[],_=>rfl
 |(n,v)::fs,h=>by rw[Bl,show(g==n)=be by simpa using λz=>h (by rw[z];simp)];exact OP λz=>h (by rw[Ch];exact Ay _ z)
def Vw(x g:Uq)(i:Nat)(fs:N8):VS:=λa=>(D7 x a i).bind λz=>if z.2.1=ba (g,bb)/\g∉z.1 then(fs a).bind λr=>(D7 x r.2 i).bind λy=>match r.1 with
 |[d]=>if y.2.1=ba (g,bb)/\y.2.2.length<16777216 then ba (.nx (r.2.set i (.ow (.shp x y.1 (ba (g,bb)) (y.2.2++[d])))))else bb
 |_=>bb else bb
def Wa(x g:Uq)(i:Nat):VF:=λa=>(D7 x a i).bind λz=>if z.2.1=ba (g,bb)/\g∉z.1/\z.1.length<z.2.2.length then(z.2.2.getLast?).map λd=>(d,a.set i (.ow (.shp x z.1 (ba (g,bb)) z.2.2.dropLast)))else bb
noncomputable def B6(x g:Uq):cZ->Option cZ
 |.shp x' a (ba (b,_)) c=>if x'=x/\b=g/\g∉a then ba (.int (c.drop a.length).length)else bb
 |_=>bb
noncomputable def Wk(x g:Uq)(f:VF):VI:=λb=>(f b).bind λp=>match p.1 with
 |.shp x' a (ba (c,_)) d=>if x'=x/\c=g/\g∉a then ba (d.drop a.length,p.2)else bb
 |_=>bb
section
variable{X:Cx}{K:Ag}{ml:List Nat}{a e tg:Uv}{es:List Uv}{pa ta ia pu:Bool}{fa f:VF}{fs:N8}{pos ag al af ae p':Pos}{x g v:Uq}{nms:List Uq}{i:Nat}
def mO(hK:X.K=K)(c:G9 K x nms)(Z:PE X (.Name v ag) (YV i))(ha:PA X (e::es) (TAV K ml bc bc fs))(hn:g∈nms:=by decide)(hb:Ca (.Name v ag) g X.env (eval (.Name v ag) X.env)=eval (.Name v ag) X.env:=by rfl)(ay:Ca (.Attribute (.Name v ag) g al) "append" X.env (eval (.Attribute (.Name v ag) g al) X.env)=eval (.Attribute (.Name v ag) g al) X.env:=by rfl)(cf:((Co ae (Us (e::es) X.env)).all (λx=> !x.1)&&(Ej ae (Ck [] X.env)).all (λx=>x.1.isSome)&&decide ((e::es).length+([]:List Gr).length+(if([]:List Gr).isEmpty then 0 else 1)<30))=bc:=by rfl)(aw:(af.endLine==ae.line)=bc:=by rfl)(hs:Us (e::es) X.env=(be,eval e X.env)::Us es X.env:=by rfl)(au:(Co ae (Us es X.env)).any (·.1)=be:=by rfl)(n:Va (.Call (.Attribute (.Attribute (.Name v ag) g al) "append" af) (e::es) [] ae) bb pos.line X.env=pure be:=by rfl):PS X (.Expr (.Call (.Attribute (.Attribute (.Name v ag) g al) "append" af) (e::es) [] ae) pos) (WZ K ml (Vw x g i fs)):=by
 subst hK;refine(QD (nT Z ha hb ay cf aw hs au) n).imp λD M H r=>?_;obtain⟨B,O,N,o,S,q,k⟩:=r;unfold Vw at q;obtain⟨⟨ns,g0,ds⟩,I,q⟩:=Aa.mp q;dsimp only at q I;split at q
 case isFalse=>cases q
 rename_i hc;obtain⟨rfl,hg⟩:=hc;obtain⟨⟨as,l⟩,h1,q⟩:=Aa.mp q;dsimp only at q;obtain⟨⟨W,g2,ds2⟩,G,q⟩:=Aa.mp q;dsimp only at q G;split at q
 case h_2=>cases q
 rename_i d;split at q
 case isFalse=>cases q
 rename_i E;obtain⟨rfl,E⟩:=E;cases q;obtain⟨b,u,e2,w⟩:=S.ow i _ (UT I);obtain⟨U,q0,r0⟩:=w.onO;cases q0 with
 | @shp C dx p h _ _ A F J s=>
  obtain⟨c1,c2⟩:=c.cls C F;refine⟨.ref b,e2,b,C,dx,h,p,A,rfl,J,c1,c2 g hn,OP hg,B,O,N,_,l,S,h1,λvs H1 R=>?_⟩;have a:=R.pur rfl b _ J;obtain⟨b',L,_,Q⟩:=R.sta.ow i _ (UT G);rw[u]at L;cases L;obtain⟨T,q1,m⟩:=Q.onO;dsimp only at q1 m;generalize f:ba (g,(bb:Option Up))=gg at q1;cases q1 with
  |ins _ _=>cases f
  | @shp C2 dx2 p2 fs2 g2 _ P hC2 j _=>
   cases f;rw[a]at j;cases j;have V:=R.rep;cases V with
   | @cons y _ _ _ Y t=>
    cases t;have hl:=m.length;rw[Be]at hl;refine⟨h,A,y,rfl,a,by rw[Bg];lia,k M _ O (R.sta.wrote u (λz=>z) (.shp (.shp F cM s) (UX a (λz=>z) (.inr ⟨i,u⟩) (nE m Y))))⟩
def lE(W:X.K=K)(c:G9 K x nms)(h:PE X (.Name v ag) (YV i))(P:g∈nms:=by decide)(V:Ca (.Name v ag) g X.env (eval (.Name v ag) X.env)=eval (.Name v ag) X.env:=by rfl)(ay:Ca (.Attribute (.Name v ag) g al) "pop" X.env (eval (.Attribute (.Name v ag) g al) X.env)=eval (.Attribute (.Name v ag) g al) X.env:=by rfl)(aw:(af.endLine==ae.line)=bc:=by rfl):PE X (.Call (.Attribute (.Attribute (.Name v ag) g al) "pop" af) [] [] ae) (TV K ml be bc bc (Wa x g i)):=by
 subst W;refine(tS h V ay aw).imp λσ H Q s=>?_;obtain⟨B,O,δ,d,G,S,q,k⟩:=s;unfold Wa at q;obtain⟨⟨ns,g0,ds⟩,E,q⟩:=Aa.mp q;dsimp only at q E;split at q
 case isFalse=>cases q
 rename_i hc;obtain⟨rfl,T,hl⟩:=hc;obtain⟨d',U,q⟩:=Ah.mp q;cases q;obtain⟨b,u,Z,w⟩:=S.ow i _ (UT E);obtain⟨I,q0,r⟩:=w.onO;cases q0 with
 | @shp C F p e _ _ n D l t=>
  obtain⟨c1,c2⟩:=c.cls C D;have m:=r.length;rw[Be,Bb]at m;rw[Bb]at hl;obtain⟨a,y,rfl⟩:∃a y,n=a++[y]:=⟨n.dropLast,n.getLast (λz=>by rw[z]at m;simp at m;lia),(List.dropLast_concat_getLast _).symm⟩;obtain⟨f,rfl⟩:=List.getLast?_eq_some_iff.mp U;rw[Be,Em,Be,Em]at m;have N:cG X.K (Nn B O) H (e.map By++a) f:=by
   have:=r.take (e.map By++a).length
   rw[<-Cw,Sv]at this;rwa[show(e.map By++a).length=f.length by rw[Be,Bb];lia,Sv]at this
  have M:cG X.K (Nn B O) H [y] [d]:=by
   have:=r.drop (e.map By++a).length
   rw[<-Cw,Nz]at this;rwa[show(e.map By++a).length=f.length by rw[Be,Bb];lia,Nz]at this
  have A:Nn B O b:=.inr ⟨i,u⟩;refine⟨.ref b,Z,b,C,F,e,p,a,y,rfl,l,c1,c2 g P,OP T,k y _ {sta:= ?_,frm:= ?_,pur:=λz=>(nomatch z),rep:= ?_}⟩;rw[No];exact S.wrote u (λz=>z) (.shp (.shp D cM t) (UX l (λz=>z) A N));intro c o h R;by_cases j:c=b;subst j;rw[l]at h;cases h;exact absurd (R ⟨i,u⟩) λz=>z;rw[cL j];exact h;have L := UX (o := .shp C F e g p a) l (λz => z) A M;obtain⟨v2,Y,J⟩:=L.get (i:=0) rfl;cases Y;exact J.mono (λ_ z=>z) λ_ z=>z
def bV.hist{N M:Up->Prop}{H:Hp}{y:V}{ns:List Uq}{ds:List cZ}{pp:Option Up}(e:g∉ns)(h:bV K N H M y (.shp x ns (ba (g,pp)) ds)):∃b C d fs p xs,y=.ref b/\(∀q,pp=ba q->q=p)/\Cq K Ur x=ba (ba (.ref C))/\H b=ba (.shp C d fs g p xs)/\fs.lookup g=bb/\cG K N H xs (ds.drop ns.length):=by
 obtain⟨b,j,rfl,q,r⟩:=h.onO;generalize a:ba (g,pp)=k at q;cases q with
 |ins _ _=>cases a
 | @shp C d p fs l _ xs f i c=>
  cases a;have:=r.drop (fs.map By).length;rw[Nz]at this;exact⟨b,C,d,fs,p,xs,rfl,c,f,i,OP e,by rwa[Bb]at this⊢⟩
def lL:RC:=λc H Q=>∃p a C d fs g b,c=[.ref p]/\H a=ba (.shp C d fs g p b)/\Q (.int (b.length:Nat)) H
def oH:aV X (.builtin "len") lL:=by intro x s l H m n Q I r h;obtain⟨p,a,C,w,fs,g,c,rfl,e,q⟩:=h;obtain⟨u,rfl,d⟩:=U2 r;cases d;obtain⟨o,t,b,k,f,i⟩:=WX I.hok e;have j:=f.length;have v:=OM;have pl:Pt s.heap p b.toArray k:=i;exact Ob pl.isList (by simp only[Ak]<;>lia) ⟨.int c.length,H,I.tok _,⟨s.toks+1,by rw[Ak,j]⟩,q⟩
def C5(z:X.K=K)(c:G9 K x nms)(h:Gl X "len")(t:X.mg "len"=bb)(w:PE X a (TV K ml pa ta ia fa))(s:g∈nms:=by decide)(u:Ca a g X.env (eval a X.env)=eval a X.env:=by rfl)(i:SE X (.Attribute a g af) []:=by rfl):PE X (.Call (.Name "len" p') [.Attribute a g af] [] pos) (TV K ml pa bc bc (f1 (B6 x g) fa)):=by
 subst z;refine(UU oH h t (by rfl) (bA (D8 w u) ZX i) (by decide) (by decide) i).imp λJ H Q ⟨B,O,m,d,f,S,q,k⟩=>?_;obtain⟨y,D,e⟩:=UB q;unfold B6 at e;split at e;rename_i L M N P;split at e;rename_i o;obtain⟨rfl,rfl,h⟩:=o;cases e;refine⟨B,O,m,_,f,S,D,λv I R=>?_⟩;obtain⟨b,C,E,fs,p,n,rfl,_,A,j,l,r⟩:=R.rep.hist h;obtain⟨G,F⟩:=c.cls C A;refine⟨b,C,_,.ref p,rfl,.shp j,G,F _ s,by rw[ZT,l];simp,p,b,C,E,fs,_,n,rfl,j,k _ I ⟨R.sta,R.frm,R.pur,?_⟩⟩;rw[r.length];exact .int _;cases e;cases e
def ItP(p:Up):It:=
 ⟨λi H=>∃a C c fs g b x,H a=ba (.shp C c fs g p b)/\b[i]?=ba x,λi H x d=>d=H/\∀a C c fs g b,H a=ba (.shp C c fs g p b)->b[i]?=ba x,λi H=>∃a C c fs g b,H a=ba (.shp C c fs g p b)/\b.length<=i⟩
def mP{P:Ao}{w:Uw}{H:Hp}{h:Uy}{a l C m k i p:Up}{fs d:List (Uq×V)}{g g':Uq}{xs b:List V}(ok:T6 P w H h)(e:H a=ba (.shp C k fs g p xs))(f:H l=ba (.shp m i d g' p b)):xs=b:=by obtain⟨_,j,_⟩:=WX ok e;obtain⟨_,c,_⟩:=WX ok f;rw[j]at c;cases c;rw[e]at f;cases f;rfl
def tY{P:Ao}{w:Uw}{tg:Uv}(p it:Up):FD P w K tg (ItP p) [it] it (λi h=>h.IsListIter it p i) where
 mem:=by simp
 obj:=λi h st b j=>by
  have e:b=it:=by simpa using j
  subst e;obtain⟨o,e,c,d⟩:=st;exact⟨o,e,λv z=>by rw[d]at z;cases z⟩
 keep:=λi h t st k=>st.at λo e=>k it (by simp) o e
 item:=by intro X D hw F hc i O s N H E I r st B;subst D hw F;obtain⟨a,C,dx,fs,g,Q,x,q,A⟩:=B;obtain⟨T,W,f,n,y,M⟩:=WX I.hok q;have pl:Pt s.heap p f.toArray n:=M;obtain⟨u,V,S⟩:=y.get A;obtain⟨L,f1,f2,f3,J,G⟩:=r it (by simp);refine Ir st pl.isList (x:=u) (by simpa using V) λt l R=>?_;have I1:cI X O N H {s with heap:=t}:=I.turned (t':=s.toks) (λb o j e=>(R.2 b j).trans e) L f1 f3 J G;obtain⟨o,e,c,d⟩:=id l;exact⟨u,rfl,FS (s:={s with heap:=t}) e c d (by decide) ⟨x,H,I1,S,⟨rfl,λa' C' dx' Y g' ys U=>by rw[<-mP I.hok q U];exact A⟩,l,λb j=>(r b j).1⟩⟩
 done:=by intro X D hw F hc i O s N H E I r st B;subst D hw F;obtain⟨a,C,dx,fs,g,Q,q,A⟩:=B;obtain⟨T,W,f,n,y,M⟩:=WX I.hok q;have pl:Pt s.heap p f.toArray n:=M;obtain⟨L,f1,f2,f3,J,G⟩:=r it (by simp);have hl:=y.length;exact Jf (I.ok.hd hc) st pl.isList (by simp;lia) λt Z=>⟨rfl,I.turned (t':=s.toks) (λb o j e=>Z b o j e) L f1 f3 J G⟩
 self:=λ_ _ _ _ _ st h=>Mo st h
def mT(e:TE):TI:=λc H R=>e c H λx b=>∃p,x=.ref p/\(∃a C f fs g d,b a=ba (.shp C f fs g p d))/\R (ItP p) b
def kS{l:Uv}{i:TE}(hl:PE X l i):PI X tg l (mT i):=by
 intro u s j H R I h;refine aD (hl u s j H _ I h) λv c ⟨x,w,d,k,p,e,⟨a,C,D,fs,g,y,m⟩,q⟩=>?_;subst e;cases k;obtain⟨A,B,f,n,z,t⟩:=WX d.hok m;have pl:Pt c.heap p f.toArray n:=t;refine Fs pl.isList ?_;refine⟨c.heap.objs.size,[c.heap.objs.size],_,_,w,rfl,d.kept (t':=c.toks) λb o e=>Ac _ e,tY p _,⟨_,Al _ rfl,rfl,rfl⟩,λb r=>?_,q⟩;have e:b=c.heap.objs.size:=by simpa using r
 subst e;exact d.fpOk (Am _) (d.hok.fresh (Am _))
def qY(hK:X.K=K)(c:G9 K x nms)(h:PE X e (TV K ml pu bc bc f))(hn:g∈nms:=by decide)(hb:Ca e g X.env (eval e X.env)=eval e X.env:=by rfl):PI X tg (.Attribute e g pos) (LD K ml pu (Wk x g f)):=by
 subst hK;refine(kS (D8 h hb)).imp λσ H R E=>?_;obtain⟨B,O,M,ds,Z,S,q,k⟩:=E;unfold Wk at q;cases I:f M with
 |none=>rw[I]at q;cases q
 |some p0=>
  obtain⟨y,Y⟩:=p0;rw[I,Ar]at q;dsimp only at q;split at q;rename_i P T J pp t;split at q;rename_i hx;obtain⟨rfl,rfl,U⟩:=hx;cases q;refine⟨B,O,M,_,_,S,I,λv H1 D=>?_⟩;have u:=D.rep;obtain⟨b,vs,rfl,q0,rr⟩:=u.onO;obtain⟨b',C,dx,fs,p,xs,L,_,G,w,l,r⟩:=u.hist U;cases L;obtain⟨c1,c2⟩:=c.cls C G;have nb:¬Nn B O b:=by
   generalize hd:cZ.shp P T (ba (J,pp)) t=dd at u;cases u with
   |shp _ n _=>exact n
   |_=>cases hd
  refine⟨b,C,_,.ref p,rfl,.shp w,c1,c2 _ hn,by rw[ZT,l];simp,p,rfl,⟨b,C,dx,fs,_,xs,w⟩,k _ [(.ref b,.shp P T (ba (J,ba p)) t)] H1 (D.sta.keepV λz hz=>?_) D.frm D.pur ?_⟩;rw[Au.mp hz];generalize m:ba (J,pp)=gg at q0;cases q0 with
  |ins _ _=>cases m
  |shp G A _=>
   cases m;rw[w]at A;cases A;exact .shp (.shp G w λq z=>(Cg z).symm) nb (rr.mono λ_ z=>z)
  intro N H2 h2;obtain⟨b2,W,s,o,p2,j,A,F,_,a,_,Q⟩:=(h2 _ (Au.mpr rfl)).hist U;cases A;cases F p rfl;refine⟨λi d e=>?_,b,W,s,o,_,j,a,by rw[Q.length];exact Am _⟩;obtain⟨x,V,r1⟩:=Q.get e;refine⟨⟨b,W,s,o,_,j,x,a,V⟩,λy H' hy=>?_⟩;obtain⟨e3,e4⟩:=hy;subst e3;have:=e4 _ _ _ _ _ _ a;rw[V]at this;cases this;exact⟨bI.refl _,r1⟩;cases q;cases q
end
end L2
namespace L2
open PySem PySem.Spec PyProof.Rows PySem.W
section
variable{X:Cx}{K:Ag}{ml:List Nat}{B:Bs}{O:Nat->Option Up}{a e tg kx vx:Uv}{ifs:List Uv}{pa ta ia pu pi:Bool}{fa f:VF}{fi:VI}{pos p':Pos}{aa:List (Up×Vc)}{σ:St}{δ:Ev}{H:Hp}{s:Ad}{N M:Up->Prop}
def EmD(K:Ag)(H:Hp)(a:Up):Prop:=H a=ba (.dK [])∨KTab K a []
def bV.em{v:V}(h:bV K N H M v (.dct [] [])):∃a,v=.ref a/\EmD K H a:=by
 cases h.onD with
 | @dct a b q _ _ e=>
  have:=Oo.mp e.symm
  subst this;exact⟨a,rfl,.inl q⟩
 | @ktb a D q _ e=>
  have:=Oo.mp e.symm
  subst this;exact⟨a,rfl,.inr q⟩
def EmD.is{b:Up}(I:cI X aa σ H s)(e:EmD X.K H b):(b==Dv)=be/\s.heap.DictOf (aW X.prog X.w) b []/\∃ep,N6 s.heap b #[] ep:=by
 rcases e with e|⟨lo,o,f,ep,p,k,l,r⟩;obtain⟨_,lo,x,h,n⟩:=Vs I.hok e;cases h;refine⟨lo,n,?_⟩;obtain⟨o,f,ep,g,u,t,_,m,_⟩:=n;have:f= #[]:=by generalize a:f.toList=j at m;cases m;exact Ip.mp a
 subst this;exact⟨ep,o,g,u,t⟩;have:f= #[]:=by generalize a:f.toList=j at r;cases r;exact Ip.mp a
 subst this;have g:=I.kIn _ o p;refine⟨lo,⟨o,#[],ep,g,k,l,?_,.nil,Nu⟩,ep,o,g,k,l⟩;have:=(Sd (knd:=aW X.prog X.w) s.heap);obtain⟨y,d,v,_,_,q,i,c,_⟩:=this;have:d= #[]:=by generalize a:d.toList=j at c;cases c;exact Ip.mp a
 subst this;exact i
def D2:cZ->Option cZ
 |.dct [] []=>ba (.dct [] [])
 |_=>bb
def rH(K:Ag):RC:=λa H Q=>∃p,a=[.ref p]/\EmD K H p/\∀q,H q=bb->Q (.ref q) (upd H q (.dK []))
def lC:aV X (.type "dict") (rH X.K):=by intro aa s σ H j k Q I r h;obtain⟨p,rfl,e,q⟩:=h;obtain⟨u,rfl,f⟩:=U2 r;cases f;obtain⟨lo,i,_⟩:=e.is I;refine kt_call_dict lo i (Bz _) λl c g=>?_;refine⟨.ref s.heap.objs.size,_,I.laid (a:=s.heap.objs.size) (o:=.dK []) (t':=s.toks) (λb q d=>?_) (Am _) (DL (Bz _) (beq_eq_false_iff_ne.mpr (Dm (Ap I.big))) .nil c),rfl,q _ (I.hok.fresh (Am _))⟩;exact(g.2 b (Ap (Aj d))).trans (Ac _ d)
def eE(o:X.K=K)(m:Gl X "dict")(l:X.mg "dict"=bb)(i:Bm "dict"=ba (.type "dict"))(n:PE X a (TV K ml pa ta ia fa))(h:SE X a []:=by rfl):PE X (.Call (.Name "dict" p') [a] [] pos) (TN K ml pa (f1 D2 fa)):=by
 subst o;refine(OS lC m l i (bA n ZX h) (by decide) (by decide) h).imp λσ H Q ⟨B,O,δ,d,g,S,q,k⟩=>?_;obtain⟨x,r,c⟩:=UB q;unfold D2 at c;split at c;cases c;refine⟨B,O,δ,_,g,S,r,λs t f=>?_⟩;obtain⟨b,rfl,e⟩:=f.rep.em;exact⟨b,rfl,e,λp j=>k p _ (mkDK (kvs:=[]) (ds:=[]) f.sta f.frm f.pur j .nil)⟩;cases c
def D4:cZ->Option cZ
 |.dct [] []=>ba (.lst [])
 |_=>bb
def AW{prog:Ao}{w:Uw}{A:Bp}{E:Uo->Ad->Prop}{s:Ad}{d:Up}{Q:Uo->Ad->Prop}(p:A.handled=bb)(lo:(d==Dv)=be)(t:s.heap.DictOf (aW prog w) d [])(h:∀(h' l:Uy) (tk:Nat) (out:Array Uo) (e:Nat) (g:List Int),(∀b o,s.heap.get? b=ba o->h'.get? b=ba o)->(∀b o,h'.get? b=ba o->l.get? b=ba o)->l.get? h'.objs.size=ba (Fy "list" out e)->Ik out.toList g->g.Perm []->Q (.ref h'.objs.size) {s with heap:=l,toks:=tk}):Ut (Uu prog w) A (call (.builtin "sorted") [.ref d]) Q E s:=by
 obtain⟨n,k⟩:=t.dictAt;refine Hq kind_sorted plain_sorted entry_sorted (args_sorted1 _) ?_;unfold Ey.«sorted»;refine Ab (m:=checkCount "sorted" 1 1 _) (Af ?_);refine Ab (kdu_collect (A:=A.in1) (kdl_dict (knd:=aW prog w) (kvs:=[]) (ep:=n) lo) p k (Bz _) λh' tk c j v=>?_);have hl:c.toList.length=0:=by rw[Df];exact v.1
 have u:Ik c.toList []:=by rw[List.eq_nil_of_length_eq_zero hl];exact .nil
 refine Ab (Lz ?_ (by rw[hl];exact Bz _));have a:(h'.push (Fy "list" c.toList.toArray 0)).get? h'.objs.size=ba (Fy "list" c.toList.toArray 0):=Al _ rfl;show Ut _ _ _ _ _ {s with heap:=h'.push (Fy "list" c.toList.toArray 0),toks:=tk};refine Ab (Bf (Cf slot_list_sort ⟨_,a,rfl⟩ entry_list_sort (list_sort_tree a u (by rw[hl];decide) λout g y x z=>⟨_,rfl,?_⟩) (args_list_sort _)));obtain⟨e,r⟩:=sortedHeap_at (out:=out) a;refine Af ⟨_,rfl,h h' _ tk out e g j (λb o q=>?_) r y x⟩;have i:=Aj q;rw[sortedHeap_old (Ap i) (by rw[Cb];lia)];exact Ac _ q
def uK(K:Ag):RC:=λa H Q=>∃p,a=[.ref p]/\EmD K H p/\∀q,H q=bb->Q (.ref q) (upd H q (.lst []))
def eL(hc:X.calm=bc):aV X (.builtin "sorted") (uK X.K):=by intro aa s σ H y z Q I r h;obtain⟨p,rfl,e,q⟩:=h;obtain⟨u,rfl,j⟩:=U2 r;cases j;obtain⟨lo,v,_⟩:=e.is I;refine AW (I.ok.hd hc) lo v λb A d c t k f l n x w=>?_;have i:cI X aa σ H {s with heap:=b,toks:=d}:=I.un (Un.kept f) (I.hok.kept f);have m:H b.objs.size=bb:=i.hok.fresh (Am _);have em:k=[]:=List.perm_nil.mp w;subst em;refine⟨.ref b.objs.size,_,i.laid (a:=b.objs.size) (o:=.lst []) (t':=d) l (Am _) ?_,rfl,q _ m⟩;exact⟨Bz _,c.toList,t,by have:=QI x;simpa using this,by rw[n]⟩
def uZ(o:X.K=K)(hc:X.calm=bc)(m:Gl X "sorted")(l:X.mg "sorted"=bb)(i:Bm "sorted"=ba (.builtin "sorted"))(n:PE X a (TV K ml pa ta ia fa))(h:SE X a []:=by rfl):PE X (.Call (.Name "sorted" p') [a] [] pos) (TN K ml pa (f1 D4 fa)):=by
 subst o;refine(UU (eL hc) m l i (bA n ZX h) (by decide) (by decide) h).imp λσ H Q ⟨B,O,δ,d,g,S,q,k⟩=>?_;obtain⟨x,r,c⟩:=UB q;unfold D4 at c;split at c;cases c;refine⟨B,O,δ,_,g,S,r,λs t f=>?_⟩;obtain⟨b,rfl,e⟩:=f.rep.em;exact⟨b,rfl,e,λp j=>k p _ (mkN f.sta f.frm f.pur j .nil)⟩;cases c
end
end L2
namespace L2
open PySem PySem.Spec PyProof.Rows
section
variable{X:Cx}{K:Ag}{ml:List Nat}{a e tg iter kx vx:Uv}{ifs:List Uv}{rest:List Lw}{scope:Vd}{pa ta ia pu pi:Bool}{fa f:VF}{fi:VI}{pos p':Pos}{N':List Uq}{ix:List Nat}{nl:Nat}{wi:TI}{g:TG}{tt:TT}{tm:Up->TM}
def uU{env:Env}(kx vx:Uv)(gens:List Lw)(scope:Vd)(pos:Pos):eval (.DictComp kx vx gens scope pos) env=Ph (.DictComp kx vx gens scope pos) scope env (firstIterPos gens pos) newDict (firstAsync gens) (firstIter gens env):=by
 first|rfl|(rw[eval])|(simp only[eval])
def tDcE(K:Ag)(d:TE):TE:=λc H Q=>d c H λx a=>∃b,x=.ref b/\EmD K a b/\∀D,a D=bb->Q (.ref D) (upd a D (.dK []))
def AB{W:TE}(hc:X.calm=bc)(S:RT X N' ix scope)(hl:PE X iter W)(hs:∀x,Ux iter X.env x=pure x):PE X (.DictComp kx vx [⟨tg,iter,ifs,0⟩] scope pos) (tDcE X.K W):=by
 intro C s r H Q I h;rw[uU];obtain⟨cl,e1,e2,e3⟩:=M3 (env:=X.env) (scope:=scope) λy hy hf=>I.ok.has y.1 (S.free y hy hf);refine Fw (use:=bb) (cl:=cl) rfl hs e1 S.kind S.names (Aw (hl C s r H _ I h) (λxv c ⟨x,L,F,rx,b,ex,hq,q⟩=>?_) λ_ _ e=>e);subst ex;cases rx;obtain⟨lo,_,k,Z⟩:=hq.is F;refine GD lo Z ?_;have T:=F.fpOk (Am _) (F.hok.fresh (Am c.heap.objs.size));have J:cI X C r L {c with heap:=c.heap.push {cls:=.type "dict_keyiterator",data:=.fields #[.ref b,.int 0 0,.int (#[]:Array Ff).size 0,.int k 0]}}:=F.kept (t':=c.toks) λb o e=>Ac _ e;have l:(c.heap.push {cls:=.type "dict_keyiterator",data:=.fields #[.ref b,.int 0 0,.int (#[]:Array Ff).size 0,.int k 0]}).IsKeyIter c.heap.objs.size b 0 (#[]:Array Ff).size k:=⟨_,Al _ rfl,rfl,rfl⟩;have t:N6 (c.heap.push {cls:=.type "dict_keyiterator",data:=.fields #[.ref b,.int 0 0,.int (#[]:Array Ff).size 0,.int k 0]}) b #[] k:=Z.at λo e=>Ac _ e;generalize O:({c with heap:=c.heap.push {cls:=.type "dict_keyiterator",data:=.fields #[.ref b,.int 0 0,.int (#[]:Array Ff).size 0,.int k 0]}}:Ad)=g at J;have B:c.heap.push {cls:=.type "dict_keyiterator",data:=.fields #[.ref b,.int 0 0,.int (#[]:Array Ff).size 0,.int k 0]}=g.heap:=by rw[<-O]
 rw[B]at l t;have sy:c.heap.objs.size<g.heap.objs.size:=by rw[<-B,Cb];exact Gc _
 refine Bv (NW ?_);dsimp only;have E:cI X C r (upd L g.heap.objs.size (.dK [])) {g with heap:=g.heap.push {cls:=.type "dict",data:=.dict #[]}}:=
  J.laid (a:=g.heap.objs.size) (o:=.dK []) (t':=g.toks) (λ_ _ q=>Ac _ q) (Am _) (LH g.heap J.big)
 have qD:=q _ (J.hok.fresh (Am _));generalize u:({g with heap:=g.heap.push {cls:=.type "dict",data:=.dict #[]}}:Ad)=s3 at E;have m:g.heap.push {cls:=.type "dict",data:=.dict #[]}=s3.heap:=by rw[<-u]
 rw[m];have M:∀b o,g.heap.get? b=ba o->s3.heap.get? b=ba o:=λb o e=>by rw[<-m];exact Ac _ e
 have j:∀b o,s3.heap.get? b=ba o->(Lh (s3.heap.push {cls:=.type "dict",data:=.dict #[]}) scope.names).get? b=ba o:=λb o e=>Kb _ _ _ _ (Ac _ e);have v:(Lh (s3.heap.push {cls:=.type "dict",data:=.dict #[]}) scope.names).Ns s3.heap.objs.size (λ_=>bb):=(Uj s3.heap (.type "dict")).keeps λb o e=>Kb _ _ _ _ e;generalize hz1:Lh (s3.heap.push {cls:=.type "dict",data:=.dict #[]}) scope.names=f at j v;have sz3:s3.heap.objs.size=g.heap.objs.size+1:=by rw[<-m,Cb]
 have fC:=E.fpOk (Am _) (E.hok.fresh (Am s3.heap.objs.size));have loop:∀i:Ad,i={s3 with heap:=f}->∀p G,G=.ref g.heap.objs.size->
   Gg (Uu X.prog X.w) X.A (.compLoop (.DictComp kx vx [⟨tg,iter,ifs,0⟩] scope pos) 0 (.ref c.heap.objs.size) G p) (Rr (Uu X.prog X.w) X.A X.xe bb (EP X C r Q) G s3.heap.objs.size) i:=by
  rintro i rfl p G rfl;refine Vr (tg:=tg) (ifs:=ifs) (lpD1 (kx:=kx) (vx:=vx) (tg:=tg) (iter:=iter) (ifs:=ifs) (scope:=scope) (pos:=pos) (D:=g.heap.objs.size)) (λ_ Y=>Y={s3 with heap:=f}) (λn Y hI=>?_) 0 rfl;subst hI;have ub:f.IsKeyIter c.heap.objs.size b 0 (#[]:Array Ff).size k:=l.at λo e=>j _ _ (M _ _ e);have N:N6 f b #[] k:=t.at λo e=>j _ _ (M _ _ e);refine MJ (s:={s3 with heap:=f}) (F.ok.hd hc) ub N (λe h' z=>by simp at z) λ_ h' eb=>?_;obtain⟨o,es,V,ho,hd,hr⟩:=v;have R:s3.heap.objs.size≠c.heap.objs.size:=by lia
  obtain⟨f0,f1,f2,f3,f4,f5⟩:=T;have U:upd L g.heap.objs.size (.dK []) c.heap.objs.size=bb:=by rw[cL (Ap sy)];exact f0
  have I4:cI X C r (upd L g.heap.objs.size (.dK [])) {s3 with heap:=h'}:=(E.kept (t':=s3.toks) j).turned (t':=s3.toks) (λb o P e=>eb b o P e) U f1 f3 f4 f5;exact⟨_,⟨o,es,V,eb _ o R ho,hd,hr⟩,λh'' sb=>⟨.ref g.heap.objs.size,_,cI.offNew E I4 fC.1 λb o P e=>(sb.2 b P).trans e,rfl,qD⟩⟩
 have e4:({g with heap:=f}:Ad)={s3 with heap:=f}:=by rw[<-u]
 refine EU (tg:=tg) (ifs:=ifs) (lpD1 (kx:=kx) (vx:=vx) (tg:=tg) (iter:=iter) (ifs:=ifs) (scope:=scope) (pos:=pos) (D:=g.heap.objs.size)) (loop _ e4 _ _ rfl) (Nl (s:={g with heap:=f}) (l.at λo e=>j _ _ (M _ _ e)) (loop _ e4 _ _ rfl))
def fDcE(f:VF):VF:=λa=>(f a).bind λp=>match p.1 with
 |.dct [] []=>ba (.dct [] [],p.2)
 |_=>bb
def A3(N':List Uq)(ix:List Nat)(n:PE X iter (TV K ml pa ta ia f))(o:X.K=K:=by rfl)(hc:X.calm=bc:=by rfl)(m:scope.kind=.function:=by rfl)(c:SK X.N N' ix scope.names X.env.kindOf=bc:=by rfl)(hs:∀x,Ux iter X.env x=pure x:=by intro _;rfl):PE X (.DictComp kx vx [⟨tg,iter,ifs,0⟩] scope pos) (TN K ml pa (fDcE f)):=by
 subst o;refine(AB (N':=N') (ix:=ix) hc (X2 m c) n hs).imp λr H Q ⟨B,O,h,d,j,S,q,k⟩=>?_;unfold fDcE at q;cases g:f h with
 |none=>rw[g]at q;cases q
 |some p=>
  obtain⟨y,i⟩:=p;rw[g,Ar]at q;dsimp only at q;split at q;cases q;refine⟨B,O,h,_,_,S,g,λs t a=>?_⟩;obtain⟨b,rfl,e⟩:=a.rep.em;exact⟨b,rfl,e,λp l=>k p _ (mkDK (kvs:=[]) (ds:=[]) a.sta a.frm a.pur l .nil)⟩;cases q
end
def IsSh:HO->Prop
 |.ins _ _ _=>True
 |.shp _ _ _ _ _ _=>True
 |_=>False
mutual
def noS:cZ->Bool
 |.tup a=>noSs a
 |.lst a=>noSs a
 |.dct _ a=>noSs a
 |.dcn _ a=>noSs a
 |.exr _ _ d=>noS d
 |.shp _ _ _ _=>be
 |_=>bc
def noSs:List cZ->Bool
 |[]=>bc
 |d::a=>noS d&&noSs a
end
section
variable{K:Ag}{N N' M M':Up->Prop}{H:Hp}
def bV.upg(f:∀a,N' a->N a∨∃o,H a=ba o/\IsSh o){v:V}{d:cZ}(k:noS d=bc)(c:∀a,M' a->M a∨∃o,H a=ba o/\IsSh o)(h:bV K N H M v d):bV K N' H M' v d:=
 have no:∀{a:Up}{o:HO}{M M':Up->Prop},H a=ba o->¬IsSh o->¬M a->(∀a,M' a->M a∨∃o,H a=ba o/\IsSh o)->¬M' a:=λq s n c z=>(c _ z).elim n λ⟨o,e,w⟩=>by rw[q]at e;cases e;exact s w
 bV.rec (motive_1:=λM v d _=>∀M',noS d=bc->(∀a,M' a->M a∨∃o,H a=ba o/\IsSh o)->bV K N' H M' v d) (motive_2:=λj g _=>noSs g=bc->cG K N' H j g)
  (λ_ _ _=>.non) (λb _ _ _=>.bl b) (λi _ _ _=>.int i) (λx _ _ _=>.str x) (λn _ _ _=>.ty n) (λq _ _ _=>.fn q) (λq _ r _ h _=>.tup q (r h))
  (λq n _ r _ h c=>.lst q (no q (λz=>z) n c) (r h)) (λq _ r _ h _=>.fzl q (r h)) (λq n _ r _ h c=>.dct q (no q (λz=>z) n c) (r h)) (λq _ r _ h _=>.ktb q (r h)) (λp q r _ _ _=>.exn p q r) (λp q r s _ t _ h _=>.exr p q r s (t _ h f)) (λq n _ r _ h c=>.dcn q (no q (λz=>z) n c) (r h)) (λ_ _ _ _ _ h _=>nomatch h)
  (λ_=>.nil) (λ_ _ a b h=>.cons (a _ ((Ae _ _).mp h).1 f) (b ((Ae _ _).mp h).2)) h M' k c
end
def okB(δ:Ev)(as:List AV):Bool:=as.all λa=>match a with
 |.d _=>bc
 |.o j=>match δ[j]? with
  |some (.ow (.shp _ _ _ _))=>bc
  |some (.va _)=>bc
  |_=>be
def bB(n:Nat)(F:bR)(fs:UL):VF:=λb=>(fs b).bind λp=>(VY p.2 p.1).bind λa=>if a.length=n/\okB p.2 p.1=bc then(F a).bind λq=>if noS q.1=bc/\q.2=[]then ba (q.1,p.2)else bb else bb
section
variable{X:Cx}{K:Ag}{ml:List Nat}{H:Hp}{σ:St}{ps:Bool}{e:Uv}{es:List Uv}{pos:Pos}
def GU{n:Nat}{F:bR}{fs:UL}{Q:VK}(h:TV K ml ps bc bc (bB n F fs) σ H Q):GP (spV K [] n F) [] E0 (NI K ml ps fs) σ H Q:=by
 obtain⟨B,O,W,d,U,S,q,k⟩:=h;unfold bB at q;obtain⟨⟨g,V⟩,h1,q⟩:=Aa.mp q;obtain⟨ds,L,q⟩:=Aa.mp q;dsimp only at q L;split at q
 case isFalse=>cases q
 rename_i hc;obtain⟨⟨r,os⟩,h3,q⟩:=Aa.mp q;dsimp only at q;split at q
 case isFalse=>cases q
 rename_i hb;obtain⟨hn,ho⟩:=hc;obtain⟨hr,rfl⟩:=hb;cases q;refine⟨B,O,W,g,_,S,h1,λt T R=>?_⟩;show spV K [] n F (t++[]) T Q E0;rw[Bi];obtain⟨u,A⟩:=OC L;have f:∀a,Zp (λa=>Nn B O a/\∀j∈V4 g,O j≠ba a) [] t a->Nn B O a:=λa h=>by
  rcases h with h|⟨i,c,_⟩;exact h.1;cases c
 refine⟨λa=>Nn B O a/\∀j∈V4 g,O j≠ba a,ds,_,[],hn,⟨by rw[<-u,R.rep.length],(λi c=>nomatch c),λi x c e=>?_,(λi x c=>nomatch c),(λi j a c=>nomatch c),λa h=>R.sta.nin h.1⟩,h3,λv G f2 w2 Y=>?_⟩;obtain⟨a,E,P⟩:=A i x e;cases a with
 |d y=>
  cases P;obtain⟨v,D,r⟩:=R.rep.getD E;exact⟨v,D,r.mono f f⟩
 |o j=>
  obtain⟨v,D,N⟩:=R.rep.getO E;refine⟨v,D,?_⟩;rcases OV P with C|C;obtain⟨v',m,r⟩:=R.sta.va j x C;rw[N]at m;cases m;exact r.mono f f;obtain⟨a,s,m,w⟩:=R.sta.ow j x C;rw[N]at m;cases m;refine(w.mono f).rep λz=>?_;rcases z with z|⟨i,c,_⟩
  exact z.2 j (Q1 E) s;cases c
 ·have l : bI T G := (f2.mono (P' := λ_ => False) λb ⟨i,c,_⟩ => nomatch c).same
  have I:∀a,Nn B O a->Zp (λa=>Nn B O a/\∀j∈V4 g,O j≠ba a) [] t a∨∃o,G a=ba o/\IsSh o:=λa ha=>by
   by_cases p:∀j∈V4 g,O j≠ba a;exact .inl (.inl ⟨ha,p⟩)
   ·obtain ⟨j,p,M⟩ : ∃ j ∈ V4 g,O j = ba a := Classical.byContradiction λz => p λj h e => z ⟨j,h,e⟩
    obtain⟨i,ei⟩:=FU p;have:=Fe.mp ho _ (Cn ei);dsimp only at this;obtain⟨y,J⟩:=R.sta.dom j a M;rw[J]at this;obtain⟨a',s,_,w⟩:=R.sta.ow j y J;rw[M]at s;cases s;cases y<;>first|(cases this;done)|skip
    obtain⟨X,Z,_⟩:=w.onO;cases Z with
    |ins _ e=>exact .inr ⟨_,l _ _ e,trivial⟩
    |shp _ e _=>exact .inr ⟨_,l _ _ e,trivial⟩
  exact k v G ⟨R.sta.same l,R.frm.trans l.fr,λz=>(R.pur z).trans l,Y.upg I hr I⟩
def VQ{x:Uq}{f:Pos}{c j n:Nat}{d:List Uq}{F:bR}{p:Up}{fs:UL}(D:Def X.prog X.w K X.mg X.base x c d (spV K [] n F) p)(g:aT j X.A)(m:PA X (e::es) (NI K ml ps fs))(o:X.K=K:=by rfl)(i:c<=j:=by decide)(k:Gl X x:=by rfl)(b:ND x:=by decide)(l:SE X e es:=by rfl)(a:(Co pos (Us es X.env)).any (·.1)=be:=by rfl):PE X (.Call (.Name x f) (e::es) [] pos) (TV K ml ps bc bc (bB n F fs)):=by subst o;exact(F8 D g i k m b l a).imp λ_ _ _ h=>GU h
end
def EW(C:Up)(m:Uq)(sp:Sp)(e:TE)(t:TA):TE:=λb H Q=>e b H λx c=>∃a fs,x=.ref a/\T0 c a C fs/\fs.lookup m=bb/\t b c λd f=>sp (x::d) f Q E0
section
variable{X:Cx}{o e:Uv}{es:List Uv}{C f:Up}{m:Uq}{af pos:Pos}{k:Nat}{fd:Bq}{ps:List Uq}{sp:Sp}{ta:TE}{t:TA}
def kJ{pl:Vg Bool}(J:PE X o ta)(c:Cls X.K C)(p:Meth X.K C m f)(F:bZ X.prog X.w X.K X.mg X.base CX0 k f fd ps sp)(G:aT k X.A)(L:YZ X.K fd ps [])(M:PA X (e::es) t)(b:Us (e::es) X.env=(be,eval e X.env)::Us es X.env)(d:(Co pos (Us es X.env)).any (·.1)=be)(E:eval (.Call (.Attribute o m af) (e::es) [] pos) X.env=(do
   let n<-eval o X.env
   Gk af.atName
   let (f,first)<-Ia [n] (Hm n m pl)
   Jp pos f first (Co pos (Us (e::es) X.env)) (Ej pos (Ck [] X.env)))):
  PE X (.Call (.Attribute o m af) (e::es) [] pos) (EW C m sp ta t):=by
 intro v s g H Q I h;refine Iq (pl:=pl) (aD (J v s g H _ I h) λu B ⟨x,P,z,D,a,fs,N,O,l,q⟩=>?_) E;subst N;obtain rfl:u=An a:=D;refine XU z O c p l ?_;refine Ht (first:=[.ref a]) (h₀:=X.base) I.ok.mod.kin p.kp (aD (M pos v B g P _ z q) λj R ⟨i,S,y,r,q2⟩=>⟨y.kIn,?_⟩) b d;exact EH (us:=.ref a::j) (vs:=.ref a::i) (dvs:=[]) F G L .nil CC y (.cons rfl r) (by rw[Bi];exact q2)
def AD{pl:Vg Bool}(p:PE X o ta)(c:Cls X.K C)(e:Meth X.K C m f)(F:bZ X.prog X.w X.K X.mg X.base CX0 k f fd ps sp)(n:aT k X.A)(r:YZ X.K fd ps [])(j:eval (.Call (.Attribute o m af) [] [] pos) X.env=(do
   let d<-eval o X.env
   Gk af.atName
   let (f,first)<-Ia [d] (Hm d m pl)
   Jp pos f first (Co pos (Us [] X.env)) (Ej pos (Ck [] X.env)))):
  PE X (.Call (.Attribute o m af) [] [] pos) (EW C m sp ta GQ):=by
 intro y s g H Q I h;refine Iq (pl:=pl) (aD (p y s g H _ I h) λu z ⟨x,B,b,i,a,fs,t,v,l,q⟩=>?_) j;subst t;obtain rfl:u=An a:=i;refine XU b v c e l ?_;exact W.callWith_K0 (first:=[.ref a]) b.kIn e.kp (EH (us:=[.ref a]) (vs:=[.ref a]) (dvs:=[]) F n r .nil CC b (.cons rfl .nil) (by rw[Bi];exact q))
end
structure Y4(P:Ao)(w:Uw)(K:Ag)(mg:Uq->Option Uo)(base:Uy)(x m:Uq)(k:Nat)(ps:List Uq)(sp:Sp)(f:Up):Prop where
 cls:∀C,Cq K Ur x=ba (ba (.ref C))->Cls K C/\Meth K C m f
 ok:∃fd,bZ P w K mg base CX0 k f fd ps sp/\YZ K fd ps []
 one:∃C,Cq K Ur x=ba (ba (.ref C))
noncomputable def shpM(x m:Uq)(δ:Ev)(i:Nat):Bool:=match δ[i]? with
 |some (.ow (.shp a b g _))=>a==x&&!b.contains m&&g.all λy=>y.1 !=m
 |some (.va (.shp a b g _))=>a==x&&!b.contains m&&g.all λy=>y.1 !=m
 |_=>be
def aS(i:Nat)(fs:UL):UL:=λa=>match a[i]? with
 |some (.ow _)=>aO i fs a
 |_=>aE (fV i) fs a
def a8(x m:Uq)(i n:Nat)(b:List Nat)(F:bR)(fs:UL):VF:=λa=>if shpM x m a i=bc then(if b.isEmpty=bc then bB n F (aS i fs) a else cE n b F (aO i fs) a)else bb
section
variable{X:Cx}{K:Ag}{ml:List Nat}{H:Hp}{σ:St}{ps:Bool}{x m:Uq}{N:Up->Prop}
def X5.meth{a:Up}{ns:List Uq}{g:Option (Uq×Option Up)}{vs:List V}(q:X5 K H a x ns g vs)(h:(!ns.contains m&&g.all λy=>y.1 !=m)=bc):∃C fs,Cq K Ur x=ba (ba (.ref C))/\T0 H a C fs/\fs.lookup m=bb:=by
 obtain⟨b,d⟩:=(Ae _ _).mp h;have b:m∉ns:=by simpa using b
 cases q with
 |ins c e=>exact⟨_,_,c,.ins e,OP b⟩
 | @shp C i p fs g pp f c e _=>
  refine⟨_,_,c,.shp e,?_⟩;rw[ZT,OP b];have d:¬g=m:=by simpa using d
  exact if_neg λz=>d z.symm
def bN.shpM{B:Bs}{O:Nat->Option Up}{δ:Ev}{i:Nat}(S:bN K ml B O H σ δ)(h:shpM x m δ i=bc):∃a C fs,σ[i]?=ba (ba (.ref a))/\Cq K Ur x=ba (ba (.ref C))/\T0 H a C fs/\fs.lookup m=bb:=by
 unfold L2.shpM at h;split at h;rename_i e;rw[Nw]at h;obtain⟨g,b⟩:=(Ae _ _).mp h;obtain rfl:=beq_iff_eq.mp g;obtain⟨a,_,j,w⟩:=S.ow i _ e;obtain⟨k,q,_⟩:=w.onO;obtain⟨C,fs,f,d,c⟩:=q.meth b;exact⟨a,C,fs,j,f,d,c⟩;rename_i e;rw[Nw]at h;obtain⟨g,b⟩:=(Ae _ _).mp h;obtain rfl:=beq_iff_eq.mp g;obtain⟨v,j,r⟩:=S.va i _ e;obtain⟨a,k,rfl,q,_⟩:=r.onO;obtain⟨C,fs,f,d,c⟩:=q.meth b;exact⟨a,C,fs,j,f,d,c⟩;cases h
def Zo{i:Nat}{fs:UL}{Q:List V->Hp->Prop}(h:NI K ml ps (aO i fs) σ H Q):∃v,σ[i]?=ba (ba v)/\NI K ml ps fs σ H λa l=>Q (v::a) l:=by obtain⟨B,O,c,n,b,S,q,k⟩:=h;unfold aO at q;obtain⟨d,g,q⟩:=Aa.mp q;obtain⟨m,f,q⟩:=Ah.mp q;cases q;obtain⟨v,e⟩:=S.slot g;exact⟨v,e,B,O,c,_,_,S,f,λa j R2=>k _ j ⟨R2.sta,R2.frm,R2.pur,.o e R2.rep⟩⟩
def Zu{i:Nat}{fs:UL}{Q:List V->Hp->Prop}(h:NI K ml ps (aS i fs) σ H Q):∃v,σ[i]?=ba (ba v)/\NI K ml ps fs σ H λg p=>Q (v::g) p:=by
 obtain⟨B,O,f,n,c,S,q,k⟩:=h;unfold aS at q;split at q;exact Zo ⟨B,O,f,n,c,S,q,k⟩;unfold aE at q;obtain⟨⟨d,j⟩,b,q⟩:=Aa.mp q;obtain⟨s,l,q⟩:=Ah.mp q;cases q;unfold fV at b;split at b;rename_i e;cases b;obtain⟨v,m,r⟩:=S.va i _ e;exact⟨v,m,B,O,f,_,_,S,l,λg o R2=>k _ o ⟨R2.sta,R2.frm,R2.pur,.d (r.fr R2.frm (λa z=>.inr z) λa z=>.inr z) R2.rep⟩⟩;cases b
variable{e:Uv}{es:List Uv}{af pos ag:Pos}{v:Uq}
def GV{i n:Nat}{b:List Nat}{F:bR}{fs:UL}{Q:VK}{C:Up}(w:Cq K Ur x=ba (ba (.ref C)))(h:TV K ml (ps&&b.isEmpty) bc bc (a8 x m i n b F fs) σ H Q):EW C m (spV K b n F) (YV i) (NI K ml ps fs) σ H Q:=by
 obtain⟨B,O,s,d,e,S,q,k⟩:=h;unfold a8 at q;split at q
 case isFalse=>cases q
 rename_i t;obtain⟨a,y,p,r,f,at_,l⟩:=S.shpM t;rw[w]at f;cases f;refine⟨.ref a,r,a,p,rfl,at_,l,?_⟩;split at q;rename_i u;have em:b=[]:=Ra.mp u;subst em;have o:=GU (ps:=ps) (Q:=Q) (show TV K ml ps bc bc (bB n F (aS i fs)) σ H Q from⟨B,O,s,d,e,S,q,by simpa using k⟩);obtain⟨v,g,j⟩:=Zu o;rw[r]at g;cases g;have:∀c:List V,spV K [] n F ((V.ref a::c)++[])=spV K [] n F (V.ref a::c):=λc=>by rw[Bi]
 simpa only[this]using j
 have o:=IW (ps:=ps) (Q:=Q) (show TV K ml (ps && b.isEmpty) bc bc (cE n b F (aO i fs)) σ H Q from⟨B,O,s,d,e,S,q,k⟩);obtain⟨v,g,j⟩:=Zo o;rw[r]at g;cases g;have:∀c:List V,spV K b n F ((V.ref a::c)++[])=spV K b n F (V.ref a::c):=λc=>by rw[Bi]
 simpa only[this]using j
def TF{u:Up}{g j i n:Nat}{l:List Uq}{a:List Nat}{F:bR}{fs:UL}{pl:Vg Bool}(D:Y4 X.prog X.w K X.mg X.base x m g l (spV K a n F) u)(p:aT j X.A)(q:PE X (.Name v ag) (YV i))(s:PA X (e::es) (NI K ml ps fs))(t:X.K=K:=by rfl)(r:g<=j:=by decide)(b:Us (e::es) X.env=(be,eval e X.env)::Us es X.env:=by rfl)(c:(Co pos (Us es X.env)).any (·.1)=be:=by rfl)(o:eval (.Call (.Attribute (.Name v ag) m af) (e::es) [] pos) X.env=(do
   let d<-eval (.Name v ag) X.env
   Gk af.atName
   let (f,first)<-Ia [d] (Hm d m pl)
   Jp pos f first (Co pos (Us (e::es) X.env)) (Ej pos (Ck [] X.env))):=by rfl):
  PE X (.Call (.Attribute (.Name v ag) m af) (e::es) [] pos) (TV K ml (ps&&a.isEmpty) bc bc (a8 x m i n a F fs)):=by
 subst t;obtain⟨G,E,B⟩:=D.ok;obtain⟨C,k⟩:=D.one;obtain⟨z,y⟩:=D.cls C k;exact(kJ q z y E (p.mono r) B s b c o).imp λ_ _ _ h=>GV k h
def IZ{z:Up}{d j i n:Nat}{o:List Uq}{b:List Nat}{F:bR}{pl:Vg Bool}(D:Y4 X.prog X.w K X.mg X.base x m d o (spV K b n F) z)(r:aT j X.A)(s:PE X (.Name v ag) (YV i))(u:X.K=K:=by rfl)(t:d<=j:=by decide)(p:eval (.Call (.Attribute (.Name v ag) m af) [] [] pos) X.env=(do
   let c<-eval (.Name v ag) X.env
   Gk af.atName
   let (f,first)<-Ia [c] (Hm c m pl)
   Jp pos f first (Co pos (Us [] X.env)) (Ej pos (Ck [] X.env))):=by rfl):
  PE X (.Call (.Attribute (.Name v ag) m af) [] [] pos) (TV K ml (bc&&b.isEmpty) bc bc (a8 x m i n b F cK)):=by
 subst u;obtain⟨N,L,B⟩:=D.ok;obtain⟨C,e⟩:=D.one;obtain⟨J,I⟩:=D.cls C e;refine(AD s J I L (r.mono t) B p).imp λσ H Q h=>?_;have:=GV (ps:=bc) e h;obtain⟨y,G,a,fs,E,at_,l,B,O,M,P,g,S,q,k⟩:=this;cases q;exact⟨y,G,a,fs,E,at_,l,k [] H ⟨S,Fr.refl _ _,λ_=>bI.refl _,.nil⟩⟩
end
section
variable{K:Ag}{ml:List Nat}{B:Bs}{O:Nat->Option Up}{H H':Hp}{σ:St}{δ:Ev}{x:Up}
def bN.frx(S:bN K ml (B.add x) O H σ δ)(f:Fr (λb=>b=x) H H')(k:B.H0 x=bb)(m:∃o,H' x=ba o):bN K ml (B.add x) O H' σ δ:=by
 have c:∀b,b=x->Nn (B.add x) O b:=λb z=>.inl (.inr z);have keep:∀b o,H b=ba o->b≠x->H' b=ba o:=λb o e n=>f b o e λz=>absurd z n;have g:∀b,(∃o,H b=ba o)->∃o,H' b=ba o:=λb q0=>by
  obtain⟨o,e⟩:=q0;by_cases j:b=x;rw[j];exact m;exact⟨o,keep b o e j⟩
 refine⟨S.len,λi d e=>?_,λi d e=>?_,S.dom,S.inj,S.old,λa h=>g a (S.zin a h),λb o e n=>?_,S.par,λa h=>g a (S.pin a h),λp q=>(S.kep p q).fr f c c⟩;obtain⟨v,a,r⟩:=S.va i d e;exact⟨v,a,r.fr f c c⟩;obtain⟨a,l,s,w⟩:=S.ow i d e;exact⟨a,l,s,w.fr f c λz=>(S.old i a l).1 (.inr z)⟩;exact keep b o (S.frm b o e n) λz=>by rw[z]at e;rw[show B.H0 x=ba o from e]at k;cases k
end
structure NewS(P:Ao)(w:Uw)(K:Ag)(mg:Uq->Option Uo)(base:Uy)(y:Uq)(k n:Nat)(F:bR):Prop where
 ex:∃C ff fd ps,Cq K Ur y=ba (ba (.ref C))/\mg y=ba (.ref C)/\Mk K C ff/\bZ P w K mg base CX0 k ff fd ps (spV K [0] n F)/\YZ K fd ps []
structure NewX(P:Ao)(w:Uw)(K:Ag)(mg:Uq->Option Uo)(base:Uy)(y:Uq)(k n:Nat)(XF:List cZ->Option Xw):Prop where
 ex:∃C ff fd ps,Cq K Ur y=ba (ba (.ref C))/\mg y=ba (.ref C)/\Mk K C ff/\bZ P w K mg base (T1 P w) k ff fd ps (QQ K n XF)/\YZ K fd ps []
def FP(y:Uq)(n:Nat)(F:bR)(fs:UL):VF:=λb=>(fs b).bind λp=>(XW p.1).bind λa=>if a.length+1=n then(F (.shp y [] bb []::a)).bind λq=>match q with
 |(.non,[.shp y' c g d])=>if y'=y then ba (.shp y' c g d,p.2)else bb
 |_=>bb else bb
section
variable{X:Cx}{K:Ag}{ml:List Nat}{e:Uv}{es:List Uv}{ps:Bool}{pos pn:Pos}{y:Uq}{H:Hp}{σ:St}
abbrev K2(H:Hp)(x C a:Up):Hp:=upd (upd H a (.own x)) x (.ins C a [])
def B0{x C a:Up}(d:H x=bb)(c:H a=bb):bI H (K2 H x C a):=λb o q=>by unfold K2;rw[cL (aU q d),cL (aU q c)];exact q
def dL{x C a:Up}(d:H a=bb)(e:a≠x):bI (upd H x (.ins C a [])) (K2 H x C a):=λb o q=>by
 unfold K2;by_cases c:b=x;subst c;rw[cM]at q⊢;exact q;rw[cL c]at q⊢;rw[cL (aU q d)];exact q
def tU{W j n:Nat}{F:bR}{fs:UL}(D:NewS X.prog X.w K X.mg X.base y W n F)(hr:aT j X.A)(ha:PA X (e::es) (NI K ml ps fs))(hK:X.K=K:=by rfl)(hk:W+1<=j:=by decide)(hg:Gl X y:=by rfl)(L:ND y:=by decide)(he:SE X e es:=by rfl)(I:(Co pos (Us es X.env)).any (·.1)=be:=by rfl):PE X (.Call (.Name y pn) (e::es) [] pos) (TN K ml ps (FP y n F fs)):=by
 subst hK;obtain⟨C,ff,fd,qs,hC,hm,M,Fn,Bd⟩:=D.ex;refine(mL M Fn (hr.mono hk) hg hm Bd .nil CC ha L he I).imp λσ H Q ⟨B,O,δ,d,E,S,q,k⟩=>?_;unfold FP at q;obtain⟨⟨as,u⟩,h1,q⟩:=Aa.mp q;obtain⟨N,Y,q⟩:=Aa.mp q;dsimp only at q Y;split at q
 case isFalse=>cases q
 rename_i hn;obtain⟨r,os,h,m,g,c,t,er,eo,ey,q2⟩:∃r os h m g c,F (.shp y [] bb []::N)=ba (r,os)/\r=.non/\os=[.shp h m g c]/\h=y/\ba (cZ.shp h m g c,u)=ba (d,E):=by
  cases t:F (.shp y [] bb []::N)with
  |none=>rw[t]at q;cases q
  |some p3=>
   obtain⟨r,os⟩:=p3;rw[t,Ar]at q;split at q;rename_i h m g c eq;cases eq;split at q;rename_i hy;exact⟨_,_,h,m,g,c,rfl,rfl,rfl,hy,q⟩;cases q;cases q
 clear q;subst er eo ey;cases q2;refine⟨B,O,δ,as,_,S,h1,λs Z R x dx l p J=>?_⟩;obtain⟨g1,g2⟩:=R0 R.rep Y;have G:=B0 (C:=C) l p;have T:∀a,Zp (Nn B O) [0] (.ref x::s) a->Nn B O a∨a=x:=λa z=>z.imp id λq0=>by obtain⟨i,f,e⟩:=q0;cases Au.mp f;cases e;rfl
 show spV X.K [0] n F (.ref x::(s++[])) _ _ _;rw[Bi];have inj:∀(i j:Nat) (a:Up),i∈[0]->j∈[0]->(V.ref x::s)[i]?=ba (.ref a)->(V.ref x::s)[j]?=ba (.ref a)->i=j:=λi j a f hj _ _=>by rw[Au.mp f,Au.mp hj]
 refine⟨Nn B O,.shp h [] bb []::N,.non,[.shp h m g c],by rw[<-hn];rfl,⟨by simp[g1],λi f=>?_,λi d f e=>?_,λi d f e=>?_,inj,λa z=>let ⟨o,q⟩:=R.sta.nin z;⟨o,G _ _ q⟩⟩,t,λv P f2 w2 r2=>⟨r2.onN,?_⟩⟩;rw[Au.mp f];exact Nat.zero_lt_succ _;cases i with
 |zero=>exact absurd (Au.mpr rfl) f
 |succ i=>
  obtain⟨v,e1,r⟩:=g2 i d (by simpa using e);exact⟨v,by simpa using e1,(r.away l _ _ T T).same G⟩
 cases Au.mp f;cases e;exact⟨x,rfl,.shp (.ins (fs:=[]) hC cM) .nil,R.sta.new l⟩;have w:=w2 0 0 x _ rfl rfl rfl;have f3:Fr (λb=>b=x) (K2 Z x C dx) P:=f2.mono λb q0=>by obtain⟨i,f,e⟩:=q0;cases Au.mp f;cases e;rfl
 have U:bI Z P:=λb o q=>f3 b o (G b o q) λz=>by rw[z,l]at q;cases q
 obtain⟨vs',q',_⟩:=w.onO;refine k x P ⟨bN.frx (((R.sta.laid l).same (dL p J))) f3 (R.sta.fresh l) q'.there,R.frm.trans U.fr,λz=>(R.pur z).trans U,w.mono λa z=>?_,R.sta.new l,R.sta.fresh l⟩;rcases z with(z|z)|z;exact .inl (.inl z);exact .inr ⟨0,Au.mpr rfl,by rw[z];rfl⟩;exact .inl (.inr z)
end
section
variable{X:Cx}{aa:List (Up×Vc)}{σ:St}{H:Hp}{s:Ad}{Q:VK}{us:List Uo}{vs:List V}{CX:E8}{k:Nat}{f C:Up}{fd:Bq}{ps ks:List Uq}{sp:Sp}
abbrev HE(X:Cx)(CX:E8)(σ:St)(H:Hp)(E:XK):Prop:=∀(aa:List (Up×Vc)) (s:Ad) (b:Uo) (a:Ad),cI X aa σ H s->CX X.stack H s E b a->X.xe b a
def CM{E:XK}(F:bZ X.prog X.w X.K X.mg X.base CX k f fd ps sp)(d:aT k X.A)(b:YZ X.K fd ps [])(I:cI X aa σ H s)(r:bS vs us)(e:HE X CX σ H E)(h:sp vs H Q E):Ut (Uu X.prog X.w) X.A (call (.ref f) us) (EP X aa σ Q) X.xe s:=by
 have hl:us.length=ps.length:=by rw[<-r.length];exact F.len _ _ _ _ h
 have b:=b s us I.kIn (by simpa using hl);rw[Bi]at b;refine Ft (Fi (F.run X.A X.stack s H ⟨us,[]⟩ us vs Q E d I.env0 b r h) λr c a=>?_);cases r with
 |error i=>exact e aa s i c I a
 |ok g=>cases g with
  |ret u=>exact I.after a
  |next=>cases a
  |brk=>cases a
  |cont=>cases a
def AN(M:Mk X.K C f)(F:bZ X.prog X.w X.K X.mg X.base CX k f fd ps sp)(m:aT (k+1) X.A)(b:YZ X.K fd ps [])(I:cI X aa σ H s)(r:bS vs us)(h:∀x c,H x=bb->H c=bb->c≠x->∃E,HE X CX σ (K2 H x C c) E/\sp (.ref x::vs) (K2 H x C c) (λv q=>v=.non/\Q (.ref x) q) E):Ut (Uu X.prog X.w) X.A (call (.ref C) us) (EP X aa σ Q) X.xe s:=by
 obtain⟨E,n,i⟩:=h (s.heap.objs.size+1) s.heap.objs.size (I.hok.fresh (Gq _)) (I.hok.fresh (Am _)) (Ap (Gc _));have d:=cI.made (C:=C) I;have g:bS (V.ref (s.heap.objs.size+1)::vs) (An (s.heap.objs.size+1)::us):=.cons rfl r;have hl:(An (s.heap.objs.size+1)::us++[]).length=ps.length:=by have e:=g.length;rw[F.len _ _ _ _ i]at e;rw[Bi];exact e.symm
 have b:=b _ (An (s.heap.objs.size+1)::us) d.kIn hl;rw[Bi]at b;refine Ft (F0 (f:=f) I.kIn M.makes M.init (beq_iff_eq.mp M.fn) (Fi (F.run _ X.stack _ _ ⟨An (s.heap.objs.size+1)::us,[]⟩ (An (s.heap.objs.size+1)::us) _ _ E (m.make C us [])
  (d.env0.make C us []) b g i) λr j a=>?_))
 cases r with
 |error e=>exact n aa _ e j d a
 |ok o=>
  cases o with
  |ret u=>
   obtain⟨v,t,p,l,ev,q3⟩:=d.after a;subst ev;exact⟨l,⟨V.ref (s.heap.objs.size+1),t,p,rfl,q3⟩⟩
  |next=>exact Dr a
  |brk=>exact Dr a
  |cont=>exact Dr a
end
def Wi(y:Uq)(n:Nat)(c:List cZ->Option Xw)(fs:UL):VZ:=λb=>(fs b).bind λp=>(XW p.1).bind λa=>if a.length+1=n then(c (.shp y [] bb []::a)).map λx=>(x,p.2)else bb
def aB(x m:Uq)(i n:Nat)(b:List cZ->Option Xw)(fs:UL):VZ:=λa=>if shpM x m a i=bc then MV n b (aE (fV i) fs) a else bb
noncomputable def aK(fs:UL)(fk:VF):UL:=λa=>(fs a).bind λp=>(fk p.2).map λq=>(p.1++[.d q.1],q.2)
section
variable{X:Cx}{K:Ag}{ml:List Nat}{e o b:Uv}{es:List Uv}{ps pb:Bool}{pos pn af ag d4:Pos}{x y m v q:Uq}{H:Hp}{σ:St}{R:Uq->Option Up->St->Hp->Prop}{i j n kk:Nat}{XF:List cZ->Option Xw}{fs:UL}{fk:VF}
def rJ(hz:RzF X R)(hK:X.K=K)(D:NewX X.prog X.w K X.mg X.base y kk n XF)(hr:aT j X.A)(hk:kk+1<=j)(hg:Gl X y)(hex:X.ex=[])(ha:PA X (e::es) (NI K ml ps fs))(N:ND y:=by decide)(he:SE X e es:=by rfl)(J:(Co pos (Us es X.env)).any (·.1)=be:=by rfl):PE X (.Call (.Name y pn) (e::es) [] pos) (ZE R K ml (Wi y n XF fs)):=by
 subst hK;obtain⟨C,ff,fd,qs,hC,hm,M,Fn,Bd⟩:=D.ex;intro P s σ H Q I h;obtain⟨B,O,δ,U,δ',S,q,k⟩:=h;unfold Wi at q;obtain⟨⟨as,δ1⟩,h1,q⟩:=Aa.mp q;obtain⟨ds,W,q⟩:=Aa.mp q;dsimp only at q W;split at q
 case isFalse=>cases q
 rename_i hn;obtain⟨T,h3,q⟩:=Ah.mp q;cases q;refine Dz (WS I hg hm ?_ N);refine Ht (h₀:=X.base) I.ok.mod.kin M.kp (aD (ha pos P s σ H (λt g=>∀x m,g x=bb->g m=bb->m≠x->∃E,HE X (T1 X.prog X.w) σ (K2 g x C m) E/\QQ X.K n XF (.ref x::t) (K2 g x C m) (λv f=>v=.non/\Q (.ref x) f) E) I
  ⟨B,O,δ,as,_,S,h1,λt g G x m l L hne=>?_⟩) λus s1 ⟨t,g,Z,r,q⟩=>⟨Z.kIn,AN M Fn (hr.mono hk) Bd Z r q⟩) he J
 have V:=B0 (C:=C) l L;have Y:bN X.K ml B O (K2 g x C m) σ _:=G.sta.same V;refine⟨λv p f=>∃z C,v=.ref C/\XC X.K z C/\R z p σ f,λP s e' s' I hc=>?_,?_⟩;obtain⟨C,p,f,os,o,un,ok,F,T,C1,hv,l,hR⟩:=hc;cases hv;exact hz P T C p σ f e' s' s.heap l (I.call' os un ok o λb hb=>nomatch hb) F (I.low hex) hR;obtain⟨g1,g2⟩:=R0 G.rep W;have u:∀a,Zp (Nn B O) [] (.ref x::t) a->Nn B O a:=λa z=>z.elim id λ⟨i,c,_⟩=>nomatch c;refine⟨Nn B O,.shp y [] bb []::ds,U,by rw[<-hn];rfl,⟨by simp[g1],λi c=>(nomatch c),λi d _ e=>?_,λi d c=>(nomatch c),λi j a c=>(nomatch c),λa z=>Y.nin z⟩,h3,λC f p l hs hp=>⟨U.1,C,rfl,l,k σ f O p (Y.same hs) hp⟩⟩;cases i with
 |zero=>
  cases e;exact⟨.ref x,rfl,.shp (.ins (fs:=[]) hC cM) (λz=>G.sta.new l (u _ z)) .nil⟩
 |succ i=>
  obtain⟨v,e1,r⟩:=g2 i d (by simpa using e);exact⟨v,by simpa using e1,(r.mono u u).same V⟩
def uF(X:Cx)(C:Up)(m:Uq)(sp:Sp)(i:Nat)(t:TA):TE:=λσ H Q=>∃a fs,σ[i]?=ba (ba (.ref a))/\T0 H a C fs/\fs.lookup m=bb/\t σ H λc b=>∃E,HE X (T1 X.prog X.w) σ b E/\sp (.ref a::c) b Q E
def MR{C:Up}{Q:VK}(hz:RzF X R)(A:X.K=K)(hex:X.ex=[])(D:Cq K Ur x=ba (ba (.ref C)))(h:TZ R K ml (aB x m i n XF fs) σ H):uF X C m (QQ K n XF) i (NI K ml ps fs) σ H Q:=by
 obtain⟨B,O,g,z,f,S,q,k⟩:=h;unfold aB at q;split at q
 case isFalse=>cases q
 rename_i y;obtain⟨a,J,j,p,b,at_,l⟩:=S.shpM y;rw[D]at b;cases b;refine⟨a,j,p,at_,l,?_⟩;have t:=C0 (ps:=ps) (Q:=Q) hz A hex ⟨B,O,g,z,f,S,q,k⟩;obtain⟨B,O,g,I,s,S,q,k⟩:=t;unfold aE at q;obtain⟨⟨d,u⟩,c,q⟩:=Aa.mp q;obtain⟨G,E,q⟩:=Ah.mp q;cases q;unfold fV at c;split at c;rename_i e;cases c;obtain⟨v,o,r⟩:=S.va i _ e;rw[p]at o;cases o;exact⟨B,O,g,_,_,S,E,λw F R2=>k (.ref a::w) F ⟨R2.sta,R2.frm,R2.pur,.d (r.fr R2.frm (λa z=>.inr z) λa z=>.inr z) R2.rep⟩⟩;cases c
structure ZD(P:Ao)(w:Uw)(K:Ag)(mg:Uq->Option Uo)(base:Uy)(x m:Uq)(k:Nat)(ps:List Uq)(XF:List cZ->Option Xw)(f:Up):Prop where
 cls:∀C,Cq K Ur x=ba (ba (.ref C))->Cls K C/\Meth K C m f
 ok:∃fd,bZ P w K mg base (T1 P w) k f fd ps (QQ K ps.length XF)/\YZ K fd ps []
 one:∃C,Cq K Ur x=ba (ba (.ref C))
def ZL{W:Up}{o:List Uq}{pl:Vg Bool}(hz:RzF X R)(S:X.K=K)(D:ZD X.prog X.w K X.mg X.base x m kk o XF W)(M:aT j X.A)(O:kk<=j)(hex:X.ex=[])(N:PE X (.Name v ag) (YV i))(P:PA X (e::es) (NI K ml ps fs))(b:Us (e::es) X.env=(be,eval e X.env)::Us es X.env:=by rfl)(d:(Co pos (Us es X.env)).any (·.1)=be:=by rfl)(L:eval (.Call (.Attribute (.Name v ag) m af) (e::es) [] pos) X.env=(do
   let p<-eval (.Name v ag) X.env
   Gk af.atName
   let (f,first)<-Ia [p] (Hm p m pl)
   Jp pos f first (Co pos (Us (e::es) X.env)) (Ej pos (Ck [] X.env))):=by rfl):
  PE X (.Call (.Attribute (.Name v ag) m af) (e::es) [] pos) (ZE R K ml (aB x m i o.length XF fs)):=by
 subst S;obtain⟨fd,Fn,B⟩:=D.ok;obtain⟨C,t⟩:=D.one;obtain⟨c,q⟩:=D.cls C t;intro y s σ H Q I h;obtain⟨a,V,e1,at_,l,U⟩:=MR (ps:=ps) (Q:=Q) hz rfl hex t h;refine Iq (pl:=pl) (aD (N y s σ H (λx g=>x=.ref a/\g=H) I ⟨.ref a,e1,rfl,rfl⟩) λu G ⟨x,g,F,J,Y,Z⟩=>?_) L;subst Y;subst Z;obtain rfl:u=An a:=J;refine XU F at_ c q l ?_;refine Ht (first:=[.ref a]) (h₀:=X.base) I.ok.mod.kin q.kp (aD (P pos y G σ g _ F U) λn s2 ⟨k,H2,z,r,E,T,q2⟩=>⟨z.kIn,?_⟩) b d;exact CM (us:=.ref a::n) (vs:=.ref a::k) Fn (M.mono O) B z (.cons rfl r) T q2
def A6{N:Up}{e:List Uq}{pl:Vg Bool}(hz:RzF X R)(G:X.K=K)(D:ZD X.prog X.w K X.mg X.base x m kk e XF N)(y:aT j X.A)(F:kk<=j)(hex:X.ex=[])(z:PE X (.Name v ag) (YV i))(t:eval (.Call (.Attribute (.Name v ag) m af) [] [] pos) X.env=(do
   let g<-eval (.Name v ag) X.env
   Gk af.atName
   let (f,first)<-Ia [g] (Hm g m pl)
   Jp pos f first (Co pos (Us [] X.env)) (Ej pos (Ck [] X.env))):=by rfl):
  PE X (.Call (.Attribute (.Name v ag) m af) [] [] pos) (ZE R K ml (aB x m i e.length XF cK)):=by
 subst G;obtain⟨fd,Y,B⟩:=D.ok;obtain⟨C,o⟩:=D.one;obtain⟨c,n⟩:=D.cls C o;intro V s σ H Q I h;obtain⟨a,M,U,at_,l,L⟩:=MR (ps:=bc) (Q:=Q) hz rfl hex o h;refine Iq (pl:=pl) (aD (z V s σ H (λx d=>x=.ref a/\d=H) I ⟨.ref a,U,rfl,rfl⟩) λu s1 ⟨x,d,b,r,P,T⟩=>?_) t;subst P;subst T;obtain rfl:u=An a:=r;refine XU b at_ c n l ?_;obtain⟨B',O,Z,as,p,S,q,k⟩:=L;cases q;obtain⟨E,J,q2⟩:=k [] d ⟨S,Fr.refl _ _,λ_=>bI.refl _,.nil⟩;exact W.callWith_K0 (first:=[.ref a]) b.kIn n.kp (CM (us:=[.ref a]) (vs:=[.ref a]) Y (y.mono F) B b (.cons rfl .nil) J q2)
end
def Vy(c:VI)(b:VG)(z:VZ):VZ:=λa=>(c a).bind λp=>match p.1 with
 |d::_=>(b d p.2).bind z
 |[]=>bb
section
variable{X:Cx}{K:Ag}{ml:List Nat}{e o b:Uv}{es:List Uv}{ps pb pu:Bool}{pos pn af ag d4:Pos}{x y m v q:Uq}{H:Hp}{σ:St}{R:Uq->Option Up->St->Hp->Prop}{i j n kk:Nat}{XF:List cZ->Option Xw}{fs:UL}{fk:VF}{z:VZ}
def nQ{tg iter:Uv}{body:List Vb}{l:VI}{r:VG}(e:Mn (Uu X.prog X.w) X.A X.env X.xe)(hc:X.calm=bc)(I:PI X tg iter (LD K ml pu l))(L:PG X tg (DC K ml r))(M:X4 X body (ZS R K ml z))
  (hs:∀x,Ux iter X.env x=pure x:=by intro _;rfl):PS X (.For tg iter body [] pos) (ZS R K ml (Vy l r z)):=(ED e hc I L M hs).imp λD σ H h=>by
 obtain⟨B,O,o,x,g,S,q,k⟩:=h;unfold Vy at q;cases j:l o with
 |none=>rw[j]at q;cases q
 |some p=>
  obtain⟨n,c⟩:=p;rw[j,Ar]at q;dsimp only at q;cases n with
  |nil=>cases q
  |cons d n=>
   dsimp only at q;obtain⟨b,N,q⟩:=Aa.mp q;refine⟨B,O,o,d::n,c,S,j,λJ F Y s _ _ v=>?_⟩;refine⟨λi m a f=>i=0/\a=σ/\f=Y,⟨0,rfl,rfl,rfl⟩,?_⟩;rintro i m a f ⟨rfl,rfl,rfl⟩;have w:=v (Nn B O) f λp e=>s.kep p (Aq _ e);obtain⟨P,u⟩:=w.1 0 d rfl;refine .inr ⟨P,λ_ _=>False,λ_ _ z=>z.elim,λy W G=>?_⟩;obtain⟨C,E⟩:=u y W G;exact⟨_,O,c,d,b,s.same C,E,N,λt U Q _=>⟨_,U,b,x,g,Q,q,λa f V p T e=>k a f V p T.unkeep e⟩⟩
def gA(k:Nat)(us a:List Uo):List Uo:=if us.length=k/\a.length=1 then us++a else[]
def gAV(k:Nat)(us a:List V):List V:=if us.length=k/\a.length=1 then us++a else[]
def kbA{fd:Bq}{k:Nat}{ps:List Uq}(b:ps.length≠0)(h:∀us w,us.length=k->bindArgs fd ⟨us,[(q,w)]⟩=pure (ps.zip (us++[w]))):DB K fd ps [q] (gA k) (gAV k):=⟨λs us a g hl=>by
 unfold gA at hl⊢;by_cases hc:us.length=k/\a.length=1;rw[if_pos hc]at hl⊢;obtain⟨d,c⟩:=hc;match a,c with
 |[w],_=>exact BindsTo.of_eq (h us w d)
 rw[if_neg hc]at hl;exact absurd hl.symm b,λ{f us e a} r rz=>by
 unfold gA gAV;rw[<-r.length,<-rz.length];split;exact r.append rz;exact .nil⟩
def tO{d:List (Up×Vc)}{σ:St}{H:Hp}{s:Ad}{Q:VK}{us a:List Uo}{vs zs:List V}{CX:E8}{k:Nat}{f:Up}{fd:Bq}{ps ks:List Uq}{sp:Sp}{E:XK}{g:List Uo->List Uo->List Uo}{c:List V->List V->List V}(F:bZ X.prog X.w X.K X.mg X.base CX k f fd ps sp)(m:aT k X.A)(j:DB X.K fd ps ks g c)(I:cI X d σ H s)(r:bS vs us)(rz:bS zs a)(n:HE X CX σ H E)(h:sp (c vs zs) H Q E):Ut (Uu X.prog X.w) X.A (call (.ref f) us (ks.zip a)) (EP X d σ Q) X.xe s:=by
 have i:=j.rel r rz;have hl:(g us a).length=ps.length:=by rw[<-i.length];exact F.len _ _ _ _ h
 refine Ft (Fi (F.run X.A X.stack s H ⟨us,ks.zip a⟩ (g us a) (c vs zs) Q E m I.env0 (j.to s us a I.kIn hl) i h) λr l b=>?_);cases r with
 |error e=>exact n d s e l I b
 |ok o=>
  cases o with
  |ret u=>exact I.after b
  |next=>exact Dr b
  |brk=>exact Dr b
  |cont=>exact Dr b
structure SA(P:Ao)(w:Uw)(K:Ag)(mg:Uq->Option Uo)(base:Uy)(x m:Uq)(k:Nat)(ps:List Uq)(q:Uq)(XF:List cZ->Option Xw)(f:Up):Prop where
 cls:∀C,Cq K Ur x=ba (ba (.ref C))->Cls K C/\Meth K C m f
 ok:∃fd,bZ P w K mg base (T1 P w) k f fd ps (QQ K ps.length XF)/\DB K fd ps [q] (gA (ps.length-1)) (gAV (ps.length-1))
 one:∃C,Cq K Ur x=ba (ba (.ref C))
theorem YT.snoc{N:Up->Prop}{y:V}{d:cZ}(h:bV K N H N y d):∀{vs:List V}{as:List AV},YT K N H σ vs as->YT K N H σ (vs++[y]) (as++[.d d])
 |_,_,.nil=>.d h .nil
 |_,_,.d r t=>.d r (YT.snoc h t)
 |_,_,.o r t=>.o r (YT.snoc h t)
def OZ{ff:Up}{y:List Uq}{pl:Vg Bool}(hz:RzF X R)(hK:X.K=K)(D:SA X.prog X.w K X.mg X.base x m kk y q XF ff)(hr:aT j X.A)(hk:kk<=j)(hex:X.ex=[])(ho:PE X (.Name v ag) (YV i))(ha:PA X (e::es) (NI K ml ps fs))(hw:PE X b (TV K ml pb bc bc fk))(hn:es.length+3=y.length)(jb:(Ej pos (Ck [⟨ba q,b,d4⟩] X.env)).all (·.1.isSome)=bc:=by rfl)(U:(Ej pos (Ck [⟨ba q,b,d4⟩] X.env)).filterMap (·.1)=[q]:=by rfl)(he:Us (e::es) X.env=(be,eval e X.env)::Us es X.env:=by rfl)(P:((Co pos (Us (e::es) X.env)).any (·.1) || (Ej pos (Ck [⟨ba q,b,d4⟩] X.env)).any (·.1.isNone))=be:=by rfl)(ht:eval (.Call (.Attribute (.Name v ag) m af) (e::es) [⟨ba q,b,d4⟩] pos) X.env=(do
   let ov<-eval (.Name v ag) X.env
   Gk af.atName
   let (f,first)<-Ia [ov] (Hm ov m pl)
   Jp pos f first (Co pos (Us (e::es) X.env)) (Ej pos (Ck [⟨ba q,b,d4⟩] X.env))):=by rfl):
  PE X (.Call (.Attribute (.Name v ag) m af) (e::es) [⟨ba q,b,d4⟩] pos) (ZE R K ml (aB x m i y.length XF (aK fs fk))):=by
 subst hK;obtain⟨fd,Fn,Bd⟩:=D.ok;obtain⟨C,hC⟩:=D.one;obtain⟨c,hm⟩:=D.cls C hC;intro aa s σ H Q I h;obtain⟨a,fs',e1,at_,l,V⟩:=MR (ps:=ps&&pb) (Q:=Q) hz rfl hex hC h;refine Iq (pl:=pl) (aD (ho aa s σ H (λx H1=>x=.ref a/\H1=H) I ⟨.ref a,e1,rfl,rfl⟩) λu s1 ⟨x,H1,I1,rx,ex,eH⟩=>?_) ht;subst ex;subst eH;obtain rfl:u=An a:=rx;refine XU I1 at_ c hm l ?_;obtain⟨B,O,L,as,δ2,S,p,k⟩:=V;unfold aK at p;obtain⟨⟨as1,t⟩,Y,p⟩:=Aa.mp p;obtain⟨⟨d,δ3⟩,h3,p⟩:=Ah.mp p;cases p;refine W.callWith_KW (first:=[.ref a]) (h₀:=X.base) I.ok.mod.kin hm.kp jb (aD (ha pos aa s1 σ H1 (λo G=>TV X.K ml pb bc bc fk σ G λg n=>∃E,HE X (T1 X.prog X.w) σ n E/\QQ X.K y.length XF (.ref a::(o++[g])) n Q E) I1
  ⟨B,O,L,as1,t,S,Y,λo G R2=>⟨B,O,t,d,_,R2.sta,h3,λg n F=>k (o++[g]) n ⟨F.sta,R2.frm.trans F.frm,λz=>?_,YT.snoc F.rep (R2.rep.fr F.frm λa z=>.inr z)⟩⟩⟩) λus s2 ⟨o,G,I2,r,q2⟩=>?_) P he
 obtain⟨z1,z2⟩:=(Ae _ _).mp z;exact(R2.pur z1).trans (F.pur z2);have pk:PK X [⟨ba q,b,d4⟩] (N0 (TV X.K ml pb bc bc fk) GQ):=lH hw oZ;refine aD (pk pos aa s2 σ G (λM n=>∃g E,M=[g]/\HE X (T1 X.prog X.w) σ n E/\QQ X.K y.length XF (.ref a::(o++[g])) n Q E) I2 ?_) λws s3 ⟨M,n,I3,rz,g,E,ezs,hE,hs⟩=>?_;obtain⟨B,O,L,d,J,S,q,k⟩:=q2;exact⟨B,O,L,d,J,S,q,λg n R=>let ⟨E,Y,V⟩:=k g n R;⟨g,E,rfl,Y,V⟩⟩;rw[U];subst ezs;have N:o.length=es.length+1:=by
  obtain⟨Z,ds,x',T,AV,_⟩:=hs;have:=AV.len;rw[T,Cs,Be,Em]at this;lia
 refine⟨I3.kIn,tO (us:=.ref a::us) (vs:=.ref a::o) (zs:=[g]) Fn (hr.mono hk) Bd I3 (.cons rfl r) rz hE ?_⟩;unfold gAV;rw[if_pos ⟨by rw[Cs,N];lia,rfl⟩];exact hs
variable{g kA kB k:VS}
def Wd(g:VS)(z:VZ)(i:Nat)(cs:List Uq)(y a:Uq)(kA kB k:VS):VS:=CQ g z i λx=>if x∈cs then(if x=y then kA else if x=a then kB else k)else λ_=>bb
def iE{body:List Vb}{n y c:Uq}{cs:List Uq}{T dw h Q f S:Pos}{M J I:Vb}{H E F:List Vb}{i:Nat}(hK:X.K=K)(b:X.stack=X.env::X.outer)(t:X.env.frame=ba X.env.locals)(A:X.N.Nodup)(p:X.N[i]?=ba n)(hl:X.env.kindOf n=ba .local)(d:i∉ml)(s:Gl X "PackError")(V:∀C,Cq K Ur "PackError"=ba (ba (.ref C))->X.mg "PackError"=ba (.ref C))(U:Gl X y)(u:(y==("__debug__":Uq))=be)(Z:∃e,X.mg y=ba (.ref e)/\∀x∈cs,∀C,Cq K Ur x=ba (ba (.ref C))->XQ K C e (decide (x=y)))(j:Gl X c)(O:(c==("__debug__":Uq))=be)(v:∃e,X.mg c=ba (.ref e)/\∀x∈cs,∀C,Cq K Ur x=ba (ba (.ref C))->XQ K C e (decide (x=c)))(Y:X4 X.nox body (WZ K ml g))(hz:∀(pn:List (Up×Vc)) (xe:Uo->Ad->Prop) (R:Uq->Option Up->St->Hp->Prop),RzF {X with pn:=pn,xe:=xe} R->X4 {X with pn:=pn,xe:=xe} body (ZS R K ml z))(o:∀a,X4 (X.hnd a) (M::H) (WZ K ml kA))(m:∀a,X4 (X.hnd a) (J::E) (WZ K ml kB))(W:∀a,X4 (X.hnd a) (I::F) (WZ K ml k)):PS X (.Try body [.ExceptHandler (ba (.Name y T)) (ba n) (M::H) dw,.ExceptHandler (ba (.Name c h)) (ba n) (J::E) Q,.ExceptHandler (ba (.Name "PackError" f)) (ba n) (I::F) S] [] [] pos) (WZ K ml (Wd g z i cs y c kA kB k)):=by
 subst hK;refine kW rfl b t Y hz λaa D C a x s' h5 L=>?_;obtain⟨Cp,G⟩:=L.xc.pk;obtain⟨e,l,hQ⟩:=Z;obtain⟨Cy2,P,w⟩:=v;have hc:x.1∈cs:=by
  obtain⟨_,_,_,_,_,_,_,_,_,_,_,_,_,_,_,_,_,_,_,_,q,_⟩:=L.ex;by_cases z:x.1∈cs;exact z;rw[if_neg z]at q;cases q
 refine OF (r:=decide (x.1=y)) (k:=kA) b A p hl d U l (hQ _ hc _ L.xc.at_) u L (λz=>⟨o,by rw[if_pos hc,if_pos (of_decide_eq_true z)]⟩) λB=>?_;refine OF (r:=decide (x.1=c)) (k:=kB) b A p hl d j P (w _ hc _ L.xc.at_) O L (λz=>⟨m,by rw[if_pos hc,if_neg (of_decide_eq_false B),if_pos (of_decide_eq_true z)]⟩) λz=>?_;exact OF (r:=bc) (k:=k) b A p hl d s (V Cp G.at_) G.q (by decide) L (λ_=>⟨W,by rw[if_pos hc,if_neg (of_decide_eq_false B),if_neg (of_decide_eq_false z)]⟩) λz=>nomatch z
end
def A4s(K:Ag)(c x q:Uq)(st:Vb)(g:Uo)(f:Up):Prop:=∃(C:Up) (e:Uo) (od:Option Up) (kV doc d:Uo) (h:Option Up) (a ct:Uo) (b:Array (Option Uo)),
 Cq K Ur c=ba (ba (.ref C))/\Cls K C/\Ha K (.ref C) x=ba (ba (.ref f))/\W.isFn K (.ref f)=bc∧
 K.lookup f=ba ⟨e,od,.func (Hi x q (a7 st) (bT st) (c7 st) g kV doc d h a ct),b⟩/\Kn K a q=bc/\Fh K (.ref f)=bc
section
variable{P:Ao}{w:Uw}{K:Ag}{mg:Uq->Option Uo}{base:Uy}{c x q kw:Uq}{st:Vb}{f:Up}{ps:List Uq}{mF:List Nat}{n k:Nat}{F:bR}{XF:List cZ->Option Xw}
def RH(p:A4s K c x q st .none f)(ok:∀{fd:Bq},aC K x q st f fd->bZ P w K mg base CX0 k f fd ps (spV K mF n F))(o:∀{kV doc g:Uo}{j:Option Up}{e ct:Uo}(us:List Uo),us.length=ps.length->bindArgs (Hi x q (a7 st) (bT st) (c7 st) .none kV doc g j e ct) ⟨us,[]⟩=pure (ps.zip us)):Y4 P w K mg base c x k ps (spV K mF n F) f:=by obtain⟨C,r,od,kV,doc,g,j,e,ct,l,a,z,m,i,b,c,d⟩:=p;have U:=QX (st:=st) b c d;exact⟨λs h=>by rw[a]at h;cases h;exact⟨z,m,i,d⟩,⟨_,ok U,U.binds λ_ _ _ _ _ _=>o⟩,_,a⟩
def SV(p:A4s K c x q st .none f)(ok:∀{fd:Bq},aC K x q st f fd->bZ P w K mg base (T1 P w) k f fd ps (QQ K ps.length XF))(n:∀{kV doc g:Uo}{j:Option Up}{e ct:Uo}(us:List Uo),us.length=ps.length->bindArgs (Hi x q (a7 st) (bT st) (c7 st) .none kV doc g j e ct) ⟨us,[]⟩=pure (ps.zip us)):ZD P w K mg base c x k ps XF f:=by obtain⟨C,o,od,kV,doc,g,j,e,ct,l,a,z,m,i,b,c,d⟩:=p;have U:=QX (st:=st) b c d;exact⟨λr h=>by rw[a]at h;cases h;exact⟨z,m,i,d⟩,⟨_,ok U,U.binds λ_ _ _ _ _ _=>n⟩,_,a⟩
def HX(p:A4s K c x q st .none f)(ok:∀{fd:Bq},aC K x q st f fd->bZ P w K mg base (T1 P w) k f fd ps (QQ K ps.length XF))(g:ps.length≠0)(o:∀{kV doc j:Uo}{l:Option Up}{e ct:Uo}(us:List Uo),us.length=ps.length-1->∀u,bindArgs (Hi x q (a7 st) (bT st) (c7 st) .none kV doc j l e ct) ⟨us,[(kw,u)]⟩=pure (ps.zip (us++[u]))):SA P w K mg base c x k ps kw XF f:=by obtain⟨C,r,od,kV,doc,j,l,e,ct,n,a,z,m,i,b,c,d⟩:=p;have U:=QX (st:=st) b c d;exact⟨λs h=>by rw[a]at h;cases h;exact⟨z,m,i,d⟩,⟨_,ok U,kbA g λus u h=>o us h u⟩,_,a⟩
def uE{T:Up}{C:Up}{o:Vc}{e:Array Uo}{j:Nat}(p:A4s K c "__init__" q st (.ref T) f)(l:Cq K Ur c=ba (ba (.ref C)))(u:mg c=ba (.ref C))(y:Oz K C=bc)(x:Fh K (.ref C)=bc)(t:K.lookup T=ba o)(hs:o.data=.seq e j)(v:∀(kV doc h:Uo) (r:Option Up) (g ct:Uo) (us:List Uo),us.length=ps.length->∃k,bindArgs (Hi "__init__" q (a7 st) (bT st) (c7 st) (.ref T) kV doc h r g ct) ⟨us,[]⟩=Pf (.ref T)>>=k/\k (ba e)=pure (ps.zip (us++[])))(ok:∀{fd:Bq},LA K "__init__" q st (.ref T) f fd->bZ P w K mg base CX0 k f fd ps (spV K [0] n F)):NewS P w K mg base c k n F:=by obtain⟨D,B,od,kV,doc,h,r,g,ct,s,a,z,m,i,b,A,d⟩:=p;rw[l]at a;cases a;have U:=BP (st:=st) b A d;exact⟨C,f,_,ps,l,u,⟨y,m,i,x⟩,ok U,U.binds (ds:=[]) (m:=ps.length) t hs v⟩
def rD{T:Up}{C:Up}{o:Vc}{e:Array Uo}{j:Nat}(p:A4s K c "__init__" q st (.ref T) f)(l:Cq K Ur c=ba (ba (.ref C)))(u:mg c=ba (.ref C))(y:Oz K C=bc)(x:Fh K (.ref C)=bc)(t:K.lookup T=ba o)(hs:o.data=.seq e j)(v:∀(kV doc h:Uo) (r:Option Up) (g ct:Uo) (us:List Uo),us.length=ps.length->∃k,bindArgs (Hi "__init__" q (a7 st) (bT st) (c7 st) (.ref T) kV doc h r g ct) ⟨us,[]⟩=Pf (.ref T)>>=k/\k (ba e)=pure (ps.zip (us++[])))(ok:∀{fd:Bq},LA K "__init__" q st (.ref T) f fd->bZ P w K mg base (T1 P w) k f fd ps (QQ K n XF)):NewX P w K mg base c k n XF:=by obtain⟨D,B,od,kV,doc,h,r,g,ct,s,a,z,m,i,b,A,d⟩:=p;rw[l]at a;cases a;have U:=BP (st:=st) b A d;exact⟨C,f,_,ps,l,u,⟨y,m,i,x⟩,ok U,U.binds (ds:=[]) (m:=ps.length) t hs v⟩
def okZD(P:Ao)(w:Uw)(K:Ag)(mg:Uq->Option Uo)(base:Uy){x qual:Uq}{st:Vb}{R:Uo}{f:Up}{fd:Bq}(N ps:List Uq)(k:Nat)(z:VZ)(F:LA K x qual st R f fd)(S:cO N ps (c7 st))(T:∀(c:Uo) (A:Bp) (outer:List Env) (s:Ad) (H:Hp) (E:XK) (e:aT k (A.deeper (envOfC qual (c7 st) s.heap.objs.size f c))) (_:(A.deeper (envOfC qual (c7 st) s.heap.objs.size f c)).units+64<cLine) (_:(A.deeper (envOfC qual (c7 st) s.heap.objs.size f c)).units+1<cLine),X4 (TU (T1 P w) P w K mg base N qual (c7 st) f c A outer s H E) (bT st) (ZS (rE K E) K [] z))(l:ps.length<=N.length:=by decide):bZ P w K mg base (T1 P w) (k+1) f fd ps (QQ K ps.length (UY N.length z)):=by
 obtain⟨Y,od,kV,doc,X,an,c,ct,B,rfl,G,n⟩:=F.ex;refine BO G n S (λy H Q E h=>?_) λA outer s H y Q E e j=>⟨_,T c A outer s H E e e.units (BR e),?_⟩;obtain⟨Z,t,x,m,AV,_⟩:=h;rw[AV.len,m];obtain⟨Z,t,x,m,AV,d,M⟩:=j;obtain⟨D,J,U⟩:=OW (N:=N) AV (by rw[m];exact l);unfold UY at d;cases r:z (WR [] N.length t)with
 |none=>rw[r]at d;cases d
 |some p=>
  obtain⟨v,g⟩:=p;rw[r]at d;cases d;exact⟨_,D,_,v,g,U,r,λu W O' p V I C O=>M C W p O (λb o q=>V.frm b o q λ⟨i,L,_⟩=>nomatch L) (I.mono λa z=>.inl z)⟩
end
def iG{K:Ag}{x a b c d:Uq}{C:Up}(h:Cq K Ur x=ba (ba (.ref C)))(cl:Cls K C)(l:Z9 K C a)(k:Z9 K C b)(j:Z9 K C c)(i:Z9 K C d):G9 K x [a,b,c,d]:=⟨λm e=>by
 rw[h]at e;cases e;refine⟨cl,λf g=>?_⟩;simp only[Bj,Hr,or_false]at g;rcases g with rfl|rfl|rfl|rfl;exact l;exact k;exact j;exact i⟩
section
variable{X:Cx}{K:Ag}{H:Hp}{A:Bp}{E:Uo->Ad->Prop}{s:Ad}{prog:Ao}{w:Uw}{a:Up}{D:List (Uq×V)}{k:Uq}{tk:Vi}
def DR{Q:Uo->Ad->Prop}(c:K.In s.heap)(T:KTab K a D)(h:Q (.bool (!(Eb k D).isSome)) {s with toks:=s.toks+1}):Ut (Uu prog w) A (Cd .NotIn (.str k tk) (.ref a)) Q E s:=by
 have ty:s.TypeIs (.ref a) "dict":=by obtain⟨_,o,i,j,e,hc,_⟩:=T;exact⟨o,c _ _ e,hc.1⟩
 show Ut _ _ (do return .bool (!(<-contains (.ref a) (.str k tk)))) Q E s;refine Ab ?_;unfold contains;try with_reducible refine Bf ?_
 refine Ab (Ms ty F.slot_dict_contains.lookup ?_);show Ut _ _ (if(ba (Tq "dict.__contains__")==ba Value.none)=bc then _ else _) _ E s;rw[if_neg (by rw[beq_builtin_none];exact Bw)];refine Ab (wpAny_callSpecialUnlessNone?_slot (name:=Ef "__contains__") ty Np
  (Cf Np ty F.entry_dict_contains ?_ (args_dict_contains _ _)))
 show Ut _ _ (Tn a (.str k tk)>>=_) _ _ s;refine Ab (L7 c T (λd v g _=>?_) λf=>?_);rw[g]at h;show Ut _ _ (ret (.bool bc)) _ _ _;exact Af ⟨_,rfl,Cu (Af h)⟩;rw[f]at h;show Ut _ _ (Builtin.Dict.pendingKey? a (.str k tk)>>=_) _ _ _;exact Ab (wpAny_pendingKey_other T.1 (Af ⟨_,rfl,Cu (Af h)⟩))
def inKk(k:Z2)(ks:List Z2):Bool:=ks.any λj=>decide (j=k)
def B8:cZ->cZ->Option cZ
 |.str k,.dct a _=>ba (.bl (!inKk (.inr k) a))
 |_,_=>bb
def Xr(K:Ag):R2:=λx y H Q=>∃k l,x=.str k/\y=.ref l/\((∃o,U4 H l (.str k) o/\Q (.bl (!o.isSome)) H)∨∃D,KTab K l D/\Q (.bl (!(Eb k D).isSome)) H)
def IB(d:X.K=K)(c:X.A.units+1<cLine):XR X (Cd .NotIn) (Xr K):=by
 subst d;intro j s f H x y v u Q I a b h;obtain⟨k,l,rfl,rfl,h⟩:=h;cases b;rcases h with⟨o,g,q⟩|⟨D,T,q⟩;exact BL c I g a λi e=>⟨.bl (!o.isSome),H,e,rfl,q⟩;obtain⟨t,rfl⟩:=a;exact DR I.kIn T ⟨.bl _,H,I.tok _,rfl,q⟩
def kT{kvs:List (Z2×V)}{k:Z2}:(TY kvs k).isSome=inKk k (kvs.map Br):=by unfold inKk;rw[<-QH,Qu];rfl
theorem GR{k:Uq}:∀{D:List (Uq×V)},(Eb k D).isSome=inKk (.inr k) (D.map λp=>.inr p.1)
 |[]=>rfl
 | (x,d) :: D => by
  rw[Ch];unfold Eb inKk;rw[Hd];by_cases h:k=x;subst h;simp;rw [if_neg (by simpa using h)];have a:¬(Ml x:Z2)=Ml k:=λz=>h (by cases z;rfl);rw[decide_eq_false a,Pd];exact GR (D:=D)
def EL:O9 K (Xr K) B8:=by
 intro H N o M p x y d e c Q j i h q;cases d with
 |str k=>
  cases e with
  |dct l m=>
   cases h;refine⟨k,?_⟩;obtain rfl:=j.onS;cases i.onD with
   | @dct a g f n r b=>
    subst b;exact⟨a,rfl,rfl,.inl ⟨_,U4.k (k:=.inr k) f,by rw[kT];exact q _ λ_ _ _=>.bl _⟩⟩
   | @ktb a D T r b=>
    subst b;exact⟨a,rfl,rfl,.inr ⟨D,T,by rw[GR];exact q _ λ_ _ _=>.bl _⟩⟩
  |_=>cases h
 |_=>cases h
def P6(t a b:String):Option Bool:=match NE t a with
 |some bc=>ba bc
 |some be=>NE t b
 |none=>bb
def Zt{t a b:String}{k:Bool}(h:P6 t a b=ba k):W.kitAny K (.type t) [.type a,.type b]=ba k:=by
 unfold P6 at h;unfold W.kitAny;have e:∀c,Hb K (.type t) (.type c)=NE t c:=λc=>rfl;rw[e];cases d:NE t a with
 |none=>rw[d]at h;cases h
 |some f=>
  rw[d]at h;cases f with
  |true=>exact h
  |false=>
   dsimp only at h⊢;unfold W.kitAny;rw[e,h];cases k<;>rfl
noncomputable def B4:cZ->cZ->Option cZ
 |.non,.tup [.ty a,.ty b]=>(P6 "NoneType" a b).map cZ.bl
 |.int _,.tup [.ty a,.ty b]=>(P6 "int" a b).map cZ.bl
 |.str _,.tup [.ty a,.ty b]=>(P6 "str" a b).map cZ.bl
 |.tup _,.tup [.ty a,.ty b]=>(P6 "tuple" a b).map cZ.bl
 |.lst _,.tup [.ty a,.ty b]=>(P6 "list" a b).map cZ.bl
 |_,_=>bb
inductive TyV(K:Ag)(H:Hp):V->String->Prop
 |non:TyV K H .non "NoneType"
 |int (i:Int):TyV K H (.int i) "int"
 |str (i:Uq):TyV K H (.str i) "str"
 |tup {a:Up}{xs:List V}:UN K H a xs->TyV K H (.ref a) "tuple"
 |lst {a:Up}{xs:List V}:W8 K H a xs->TyV K H (.ref a) "list"
def Vv(K:Ag):RC:=λc H Q=>∃x p a b t k,c=[x,.ref p]/\TyV K H x t/\UN K H p [.ty a,.ty b]/\P6 t a b=ba k/\Q (.bl k) H
def Yk(M:X.K=K:=by rfl):aV X (.builtin "isinstance") (Vv K):=by
 subst M;intro P s B H R S Q I r h;obtain⟨x,p,a,b,t,k,rfl,G,J,L,q⟩:=h;obtain⟨u,c,rfl,f,D⟩:=GY r;cases D;have e:=Zt (K:=X.K) L;have d:∀tk,EP X P B Q (.bool k) {s with toks:=tk}:=λtk=>⟨.bl k,H,I.tok tk,rfl,q⟩;obtain⟨l,C,⟨o,g,O,n,N⟩,_⟩:=I.tuple J;obtain rfl:l=[.type a,.type b]:=by
  cases C with
  |cons F j=>
   cases j with
   |cons j E=>
    cases E;cases F;cases j;rfl
 obtain⟨U,od,V,T⟩:=o;cases O;cases N;cases G with
 |non=>cases f;exact Pu W.kitx_none I.kIn True.intro g e (λz=>nomatch z) d
 |int i=>obtain⟨t,rfl⟩:=f;exact Pu W.kitx_int I.kIn True.intro g e (λz=>nomatch z) d
 |str y=>obtain⟨t,rfl⟩:=f;exact Pu W.kitx_str I.kIn True.intro g e (λz=>nomatch z) d
 |tup q=>
  cases f;obtain⟨_,_,⟨o,w,v,_⟩,_⟩:=I.tuple q;exact Pu Qp I.kIn ⟨o,w,v⟩ g e (λz=>nomatch z) d
 |lst q=>
  cases f;obtain⟨_,_,⟨o,m,w,v,_⟩,_⟩:=I.list q;exact Pu Lq I.kIn ⟨o,w,v⟩ g e (λz=>nomatch z) d
def bV.tyPair{N M:Up->Prop}{v:V}{a b:String}(h:bV K N H M v (.tup [.ty a,.ty b])):∃p,v=.ref p/\UN K H p [.ty a,.ty b]:=by
 obtain⟨p,f,rfl,q,r⟩:=h.tupE;cases r with
 |cons e c=>
  cases c with
  |cons c d=>
   cases d;cases e;cases c;exact⟨p,rfl,q⟩
def Wq:K7 K (Vv K) B4:=by
 intro H N u M v x y d e c Q f l h k;have g:∀t a b,e=.tup [.ty a,.ty b]->TyV K H x t->(P6 t a b).map cZ.bl=ba c->Vv K [x,y] H Q:=λt a b o m n=>by subst o;obtain⟨p,rfl,q⟩:=l.tyPair;obtain⟨j,s,r⟩:=Ah.mp n;cases r;exact⟨x,p,a,b,t,j,rfl,m,q,s,k _ λ_ _ _=>.bl _⟩
 unfold B4 at h;split at h;obtain rfl:=f.onN;exact g _ _ _ rfl .non h;obtain rfl:=f.onI;exact g _ _ _ rfl (.int _) h;obtain rfl:=f.onS;exact g _ _ _ rfl (.str _) h;obtain⟨a,i,rfl,q,_⟩:=f.tupE;exact g _ _ _ rfl (.tup q) h;obtain⟨a,i,rfl,q,_⟩:=f.lstE;exact g _ _ _ rfl (.lst q) h;cases h
end
end L2
namespace L2
open PySem
section
variable{α β:Type}{d x y z c:cZ}{δ δ1 δ':Ev}{fa fb fc:VF}{o o':cZ->cZ->Option cZ}{i j k n:Nat}{s:Sl}{b:Bool}{ds:List cZ}
def q0(r:Option α)(δ:Ev):Option (α×Ev):=r.map λc=>(c,δ)
@[simp] theorem q0_s{a:α}:q0 (ba a) δ=ba (a,δ):=rfl
@[simp] theorem fC_e:fC d δ=ba (d,δ):=rfl
def qV:Option Sl->Ev->Option (cZ×Ev)
 |some (.va d),δ=>ba (d,δ)
 |_,_=>bb
def qO:Option Sl->Ev->Option (cZ×Ev)
 |some (.va d),δ=>ba (d,δ)
 |some (.ow d),δ=>ba (d,δ)
 |_,_=>bb
@[simp] theorem fV_e:fV i δ=qV δ[i]? δ:=by unfold fV qV;split<;>simp_all
@[simp] theorem fO_e:fO i δ=qO δ[i]? δ:=by unfold fO qO;split<;>simp_all
@[simp] theorem qV_s:qV (ba (.va d)) δ=ba (d,δ):=rfl
@[simp] theorem qO_v:qO (ba (.va d)) δ=ba (d,δ):=rfl
@[simp] theorem qO_o:qO (ba (.ow d)) δ=ba (d,δ):=rfl
def q1(o:cZ->Option cZ)(r:Option (cZ×Ev)):Option (cZ×Ev):=r.bind λp=>q0 (o p.1) p.2
@[simp] theorem f1_e{o:cZ->Option cZ}:f1 o fa δ=q1 o (fa δ):=rfl
@[simp] theorem q1_s{o:cZ->Option cZ}:q1 o (ba (x,δ))=q0 (o x) δ:=rfl
def q2(o:cZ->cZ->Option cZ)(r:Option (cZ×Ev))(fb:VF):Option (cZ×Ev):=r.bind λp=>(fb p.2).bind λq=>q0 (o p.1 q.1) q.2
def q2b(o:cZ->cZ->Option cZ)(x:cZ)(r:Option (cZ×Ev)):Option (cZ×Ev):=r.bind λq=>q0 (o x q.1) q.2
@[simp] theorem f2_e:f2 o fa fb δ=q2 o (fa δ) fb:=rfl
@[simp] theorem q2_s:q2 o (ba (x,δ)) fb=q2b o x (fb δ):=rfl
@[simp] theorem vU:q2b o x (ba (y,δ))=q0 (o x y) δ:=rfl
noncomputable def q3(o o':cZ->cZ->Option cZ)(r:Option (cZ×Ev))(fb fc:VF):Option (cZ×Ev):=r.bind λp=>(fb p.2).bind λq=>(o p.1 q.1).bind λz=>match z with
 |.bl bc=>(fc q.2).bind λs=>(o' q.1 s.1).map λu=>(u,s.2)
 |.bl be=>ba (.bl be,q.2)
 |_=>bb
def q3b(o o':cZ->cZ->Option cZ)(x:cZ)(r:Option (cZ×Ev))(fc:VF):Option (cZ×Ev):=q3 o o' (ba (x,[])) (λ_=>r) fc
@[simp] theorem f3_e:f3 o o' fa fb fc δ=q3 o o' (fa δ) fb fc:=rfl
@[simp] theorem q3_s:q3 o o' (ba (x,δ)) fb fc=q3b o o' x (fb δ) fc:=rfl
def qc(r:Option (cZ×Ev))(fs:N8):Option (List cZ×Ev):=r.bind λp=>(fs p.2).map λq=>(p.1::q.1,q.2)
def qcb(x:cZ)(r:Option (List cZ×Ev)):Option (List cZ×Ev):=r.map λq=>(x::q.1,q.2)
@[simp] theorem wt:bY δ=ba ([],δ):=rfl
@[simp] theorem xY{fs:N8}:cT fa fs δ=qc (fa δ) fs:=rfl
@[simp] theorem qc_s{fs:N8}:qc (ba (x,δ)) fs=qcb x (fs δ):=rfl
@[simp] theorem vy:qcb x (ba (ds,δ))=ba (x::ds,δ):=rfl
def qT(g:List cZ->cZ)(r:Option (List cZ×Ev)):Option (cZ×Ev):=r.bind λp=>if p.1.length<=16777216 then ba (g p.1,p.2)else bb
@[simp] theorem xE{fs:N8}:aJ fs δ=qT .tup (fs δ):=rfl
@[simp] theorem xK{fs:N8}:aQ fs δ=qT .lst (fs δ):=rfl
@[simp] theorem qT_s{g:List cZ->cZ}:qT g (ba (ds,δ))=if ds.length<=16777216 then ba (g ds,δ)else bb:=rfl
def qB:Option (cZ×Ev)->Option (Bool×Ev)
 |some (.bl k,δ)=>ba (k,δ)
 |_=>bb
@[simp] theorem fB_e:fB fa δ=qB (fa δ):=by
 unfold fB qB;cases fa δ with
 |none=>rfl
 |some p=>
  obtain⟨d,e⟩:=p;cases d<;>rfl
@[simp] theorem qB_s:qB (ba (.bl b,δ))=ba (b,δ):=rfl
variable{tb tb':VB}{g g':VS}
section
variable{a:VG}{es:List cZ}{ix:List Nat}{nl:Nat}
def qAnd(r:Option (Bool×Ev))(y:VB):Option (Bool×Ev):=r.bind λp=>if p.1=bc then y p.2 else ba (be,p.2)
def qOr(r:Option (Bool×Ev))(y:VB):Option (Bool×Ev):=r.bind λp=>if p.1=bc then ba (bc,p.2)else y p.2
def qNot(r:Option (Bool×Ev)):Option (Bool×Ev):=r.map λp=>(!p.1,p.2)
@[simp] theorem vN:FG tb tb' δ=qAnd (tb δ) tb':=rfl
@[simp] theorem wO:NJ tb tb' δ=qOr (tb δ) tb':=rfl
@[simp] theorem xR:Z7 tb δ=qNot (tb δ):=rfl
@[simp] theorem x5:T9 δ=ba (bc,δ):=rfl
@[simp] theorem wP:qAnd (ba (bc,δ)) tb=tb δ:=rfl
@[simp] theorem xU:qAnd (ba (be,δ)) tb=ba (be,δ):=rfl
@[simp] theorem xG:qOr (ba (bc,δ)) tb=ba (bc,δ):=rfl
@[simp] theorem wN:qOr (ba (be,δ)) tb=tb δ:=rfl
@[simp] theorem x6:qNot (ba (b,δ))=ba (!b,δ):=rfl
def qA(r:Option (cZ×Ev))(y:VF):Option (cZ×Ev):=r.bind λp=>match p.1 with
 |.bl bc=>y p.2
 |.bl be=>ba (.bl be,p.2)
 |_=>bb
def qR(r:Option (cZ×Ev))(y:VF):Option (cZ×Ev):=r.bind λp=>match p.1 with
 |.bl be=>y p.2
 |.bl bc=>ba (.bl bc,p.2)
 |_=>bb
def qN(r:Option (cZ×Ev)):Option (cZ×Ev):=r.bind λp=>match p.1 with
 |.bl k=>ba (.bl (!k),p.2)
 |_=>bb
@[simp] theorem vg:RN fa fb δ=qA (fa δ) fb:=rfl
@[simp] theorem vA:fOr fa fb δ=qR (fa δ) fb:=rfl
@[simp] theorem xH:fNot fa δ=qN (fa δ):=rfl
@[simp] theorem qA_t:qA (ba (.bl bc,δ)) fb=fb δ:=rfl
@[simp] theorem qA_f:qA (ba (.bl be,δ)) fb=ba (.bl be,δ):=rfl
@[simp] theorem qR_t:qR (ba (.bl bc,δ)) fb=ba (.bl bc,δ):=rfl
@[simp] theorem qR_f:qR (ba (.bl be,δ)) fb=fb δ:=rfl
@[simp] theorem qN_s:qN (ba (.bl b,δ))=ba (.bl (!b),δ):=rfl
def qI(r:Option (Bool×Ev))(x y:VF):Option (cZ×Ev):=r.bind λp=>if p.1=bc then x p.2 else y p.2
@[simp] theorem wG:fIf tb fa fb δ=qI (tb δ) fa fb:=rfl
@[simp] theorem qI_t:qI (ba (bc,δ)) fa fb=fa δ:=rfl
@[simp] theorem qI_f:qI (ba (be,δ)) fa fb=fb δ:=rfl
def qS(r:Option Ou)(g:VS):Option Ou:=r.bind λo=>match o with
 |.nx δ'=>g δ'
 |o=>ba o
@[simp] theorem vd:bO δ=ba (.nx δ):=rfl
@[simp] theorem rW:cH g g' δ=qS (g δ) g':=rfl
@[simp] theorem qS_n:qS (ba (.nx δ)) g=g δ:=rfl
@[simp] theorem qS_r:qS (ba (.rt d δ)) g=ba (.rt d δ):=rfl
@[simp] theorem qS_b:qS (ba (.bk δ)) g=ba (.bk δ):=rfl
@[simp] theorem qS_c:qS (ba (.ct δ)) g=ba (.ct δ):=rfl
def qJ(r:Option (Bool×Ev))(x y:VS):Option Ou:=r.bind λp=>if p.1=bc then x p.2 else y p.2
@[simp] theorem vZ:ZU tb g g' δ=qJ (tb δ) g g':=rfl
@[simp] theorem qJ_t:qJ (ba (bc,δ)) g g'=g δ:=rfl
@[simp] theorem qJ_f:qJ (ba (be,δ)) g g'=g' δ:=rfl
def qRet(r:Option (cZ×Ev)):Option Ou:=r.map λp=>.rt p.1 p.2
def Xe(r:Option (cZ×Ev)):Option Ou:=r.map λp=>.nx p.2
@[simp] theorem vz:cD fa δ=qRet (fa δ):=rfl
@[simp] theorem vQ:qRet (ba (d,δ))=ba (.rt d δ):=rfl
@[simp] theorem xp:UZ fa δ=Xe (fa δ):=rfl
@[simp] theorem wU:Xe (ba (d,δ))=ba (.nx δ):=rfl
def qx(f:cZ->Sl)(r:Option (cZ×Ev)):Option (Sl×Ev):=r.map λp=>(f p.1,p.2)
@[simp] theorem xV_e:xV fa δ=qx .va (fa δ):=rfl
@[simp] theorem xO_e:xO fa δ=qx .ow (fa δ):=rfl
@[simp] theorem qx_s{f:cZ->Sl}:qx f (ba (d,δ))=ba (f d,δ):=rfl
def qSet(i:Nat)(r:Option (Sl×Ev)):Option Ou:=r.bind λp=>if i<p.2.length then ba (.nx (p.2.set i p.1))else bb
@[simp] theorem vp{x:VX}:aN i x δ=qSet i (x δ):=rfl
@[simp] theorem xF:qSet i (ba (s,δ))=if i<δ.length then ba (.nx (δ.set i s))else bb:=rfl
noncomputable def qP2(i j:Nat)(r:Option (Sl×Ev))(y:VX):Option Ou:=r.bind λp=>(y p.2).bind λq=>if i<q.2.length/\j<q.2.length then ba (.nx ((q.2.set j q.1).set i p.1))else bb
def qP2b(i j:Nat)(s:Sl)(r:Option (Sl×Ev)):Option Ou:=r.bind λq=>if i<q.2.length/\j<q.2.length then ba (.nx ((q.2.set j q.1).set i s))else bb
@[simp] theorem wI{x y:VX}:CO i j x y δ=qP2 i j (x δ) y:=rfl
@[simp] theorem wa{y:VX}:qP2 i j (ba (s,δ)) y=qP2b i j s (y δ):=rfl
@[simp] theorem xm{s':Sl}:qP2b i j s (ba (s',δ))=if i<δ.length/\j<δ.length then ba (.nx ((δ.set j s').set i s))else bb:=rfl
@[simp] theorem gN_e:gN i d δ=ba (δ.set i (.va d)):=rfl
def qg(r:Option Ev)(gs:VGs)(ds:List cZ):Option Ev:=r.bind λδ1=>gs ds δ1
@[simp] theorem wC:P1 [] δ=ba δ:=rfl
@[simp] theorem wW{gs:VGs}:ZG a gs (d::ds) δ=qg (a d δ) gs ds:=rfl
@[simp] theorem qg_s{gs:VGs}:qg (ba δ) gs ds=gs ds δ:=rfl
@[simp] theorem vh{gs:VGs}:gTp n gs (.tup ds) δ=if ds.length=n then gs ds δ else bb:=rfl
@[simp] theorem xX{gs:VGs}:gTp n gs (.lst ds) δ=if ds.length=n then gs ds δ else bb:=rfl
def qAsg(r:Option (cZ×Ev))(a:VG):Option Ou:=r.bind λp=>(a p.1 p.2).map Ou.nx
@[simp] theorem wx:AO fa a δ=qAsg (fa δ) a:=rfl
@[simp] theorem vH:qAsg (ba (d,δ)) a=(a d δ).map Ou.nx:=rfl
def qM(i:Nat)(m:List cZ->List cZ->Option (List cZ))(r:Option (List cZ))(δ:Ev)(fs:N8):Option Ou:=r.bind λ_=>(fs δ).bind λp=>(NF p.2 i).bind λds=>(m ds p.1).map λa=>.nx (p.2.set i (.ow (.lst a)))
def qMb(i:Nat)(m:List cZ->List cZ->Option (List cZ))(r:Option (List cZ×Ev)):Option Ou:=r.bind λp=>(NF p.2 i).bind λds=>(m ds p.1).map λa=>.nx (p.2.set i (.ow (.lst a)))
def qMc(i:Nat)(m:List cZ->List cZ->Option (List cZ))(es:List cZ)(δ:Ev)(r:Option (List cZ)):Option Ou:=r.bind λds=>(m ds es).map λa=>.nx (δ.set i (.ow (.lst a)))
def qMd(i:Nat)(δ:Ev)(r:Option (List cZ)):Option Ou:=r.map λa=>.nx (δ.set i (.ow (.lst a)))
@[simp] theorem wq{m:List cZ->List cZ->Option (List cZ)}{fs:N8}:GH i m fs δ=qM i m (NF δ i) δ fs:=rfl
@[simp] theorem qM_s{m:List cZ->List cZ->Option (List cZ)}{fs:N8}:qM i m (ba ds) δ fs=qMb i m (fs δ):=rfl
@[simp] theorem w9{m:List cZ->List cZ->Option (List cZ)}:qMb i m (ba (es,δ))=qMc i m es δ (NF δ i):=rfl
@[simp] theorem vT{m:List cZ->List cZ->Option (List cZ)}:qMc i m es δ (ba ds)=qMd i δ (m ds es):=rfl
@[simp] theorem vf:qMd i δ (ba ds)=ba (.nx (δ.set i (.ow (.lst ds)))):=rfl
noncomputable def qOl:Option Sl->Option (List cZ)
 |some (.ow (.lst ds))=>ba ds
 |_=>bb
@[simp] theorem vW:NF δ i=qOl δ[i]? :=by unfold NF qOl;split<;>simp_all
@[simp] theorem vC:qOl (ba (.ow (.lst ds)))=ba ds:=rfl
@[simp] theorem xB:mApp ds [d]=if ds.length<16777216 then ba (ds++[d])else bb:=rfl
def qi(r:Option (cZ×Ev)):Option (List cZ×Ev):=r.bind λp=>(WW p.1).map λds=>(ds,p.2)
@[simp] theorem xg:YJ fa δ=qi (fa δ):=rfl
@[simp] theorem qi_t:qi (ba (.tup ds,δ))=ba (ds,δ):=rfl
@[simp] theorem qi_l:qi (ba (.lst ds,δ))=ba (ds,δ):=rfl
noncomputable def qr1:Option (cZ×Ev)->Option (List cZ×Ev)
 |some (.int j,δ)=>if -4611686018427387904<=j/\j<4611686018427387904 then ba (RQ 0 j.toNat,δ)else bb
 |_=>bb
@[simp] theorem wj:iR1 fa δ=qr1 (fa δ):=by
 unfold iR1 qr1;cases fa δ with
 |none=>rfl
 |some p=>
  obtain⟨d,e⟩:=p;cases d<;>rfl
@[simp] theorem wK{j:Int}:qr1 (ba (.int j,δ))=if -4611686018427387904<=j/\j<4611686018427387904 then ba (RQ 0 j.toNat,δ)else bb:=rfl
def qz(r:Option (cZ×Ev))(g:VF):Option (List cZ×Ev):=r.bind λp=>(g p.2).bind λq=>(WW p.1).bind λds=>(WW q.1).map λa=>(O0 ds a,q.2)
def qzb(x:cZ)(r:Option (cZ×Ev)):Option (List cZ×Ev):=r.bind λq=>(WW x).bind λds=>(WW q.1).map λa=>(O0 ds a,q.2)
@[simp] theorem ww:iZip fa fb δ=qz (fa δ) fb:=rfl
@[simp] theorem qz_s:qz (ba (x,δ)) fb=qzb x (fb δ):=rfl
@[simp] theorem vi:qzb x (ba (y,δ))=(WW x).bind λds=>(WW y).map λa=>(O0 ds a,δ):=rfl
@[simp] theorem wc:WW (.tup ds)=ba ds:=rfl
@[simp] theorem wb:WW (.lst ds)=ba ds:=rfl
def qF(r:Option (List cZ×Ev))(a:VG)(g:VS):Option Ou:=r.bind λp=>RO a g p.1 p.2
@[simp] theorem wX{b:VI}:RS b a g δ=qF (b δ) a g:=rfl
@[simp] theorem qF_s:qF (ba (ds,δ)) a g=RO a g ds δ:=rfl
def qK(ix:List Nat)(nl:Nat)(r:Option (List cZ×Ev))(a:VG)(tb:VB)(b:VF):Option (cZ×Ev):=r.bind λp=>(X6 ix.length nl a tb b p.1 [] (V2 ix p.2)).map λq=>(.lst q.1,ZB ix q.2 p.2)
def qKb(ix:List Nat)(δ:Ev)(r:Option (List cZ×Ev)):Option (cZ×Ev):=r.map λq=>(.lst q.1,ZB ix q.2 δ)
@[simp] theorem vM{b:VI}:X7 ix nl b a tb fa δ=qK ix nl (b δ) a tb fa:=rfl
@[simp] theorem qK_s:qK ix nl (ba (ds,δ)) a tb fa=qKb ix δ (X6 ix.length nl a tb fa ds [] (V2 ix δ)):=rfl
@[simp] theorem vc:qKb ix δ (ba (ds,δ1))=ba (.lst ds,ZB ix δ1 δ):=rfl
end
variable{as:List AV}{fs:UL}{mF:List Nat}{F:bR}
section
variable{a:VP}{os:List cZ}{l u:Option Int}{ml:List Nat}
noncomputable def qa(r:Option (cZ×Ev))(fs:UL):Option (List AV×Ev):=r.bind λp=>(fs p.2).map λq=>(.d p.1::q.1,q.2)
def qab(x:AV)(r:Option (List AV×Ev)):Option (List AV×Ev):=r.map λq=>(x::q.1,q.2)
@[simp] theorem dD:cK δ=ba ([],δ):=rfl
@[simp] theorem FE:aE fa fs δ=qa (fa δ) fs:=rfl
@[simp] theorem qa_s:qa (ba (x,δ)) fs=qab (.d x) (fs δ):=rfl
@[simp] theorem Wc{a:AV}:qab a (ba (as,δ))=ba (a::as,δ):=rfl
def qao(j:Nat)(r:Option cZ)(δ:Ev)(fs:UL):Option (List AV×Ev):=r.bind λ_=>qab (.o j) (fs δ)
@[simp] theorem aO_e:aO j fs δ=qao j (slot δ j) δ fs:=rfl
@[simp] theorem kE:qao j (ba d) δ fs=qab (.o j) (fs δ):=rfl
noncomputable def qsl:Option Sl->Option cZ
 |some (.va d)=>ba d
 |some (.ow d)=>ba d
 |_=>bb
@[simp] theorem xA:slot δ j=qsl δ[j]? :=by unfold slot qsl;split<;>simp_all
@[simp] theorem w8:qsl (ba (.va d))=ba d:=rfl
@[simp] theorem we:qsl (ba (.ow d))=ba d:=rfl
@[simp] theorem wF:VY δ []=ba []:=rfl
@[simp] theorem vO:VY δ (.d d::as)=(VY δ as).map λds=>d::ds:=rfl
@[simp] theorem vV:VY δ (.o j::as)=(slot δ j).bind λd=>(VY δ as).map λds=>d::ds:=rfl
def Xm(n:Nat)(mF:List Nat)(F:bR)(r:Option (List AV×Ev)):Option (cZ×Ev):=r.bind λp=>(VY p.2 p.1).bind λds=>if ds.length=n/\UA mF p.1 p.2=bc then(F ds).bind λq=>if U5 mF p.1 q.1 q.2=bc then ba (q.1,UW p.1 mF q.2 p.2)else bb else bb
def qCb(n:Nat)(mF:List Nat)(F:bR)(as:List AV)(δ:Ev)(r:Option (List cZ)):Option (cZ×Ev):=r.bind λds=>if ds.length=n/\UA mF as δ=bc then(F ds).bind λq=>if U5 mF as q.1 q.2=bc then ba (q.1,UW as mF q.2 δ)else bb else bb
def qCc(mF:List Nat)(as:List AV)(δ:Ev)(r:Option (cZ×List cZ)):Option (cZ×Ev):=r.bind λq=>if U5 mF as q.1 q.2=bc then ba (q.1,UW as mF q.2 δ)else bb
@[simp] theorem M6:cE n mF F fs δ=Xm n mF F (fs δ):=rfl
@[simp] theorem mD:Xm n mF F (ba (as,δ))=qCb n mF F as δ (VY δ as):=rfl
@[simp] theorem sU:qCb n mF F as δ (ba ds)=if ds.length=n/\UA mF as δ=bc then qCc mF as δ (F ds)else bb:=rfl
@[simp] theorem mV:qCc mF as δ (ba (d,os))=if U5 mF as d os=bc then ba (d,UW as mF os δ)else bb:=rfl
@[simp] theorem y6:BY δ as i=(match as[i]? with
 |some (.o j)=>match δ[j]? with
  |some (.ow _)=>bc
  |_=>be
 |_=>be):=rfl
@[simp] theorem x9:V4 []=[]:=rfl
@[simp] theorem wr:V4 (.d d::as)=V4 as:=rfl
@[simp] theorem y0:V4 (.o j::as)=j::V4 as:=rfl
@[simp] theorem wB:UA mF as δ=(mF.all (BY δ as)&&decide (V4 as).Nodup):=rfl
@[simp] theorem xu:VW mF [] i=bc:=rfl
@[simp] theorem wL:VW mF (.d d::as) i=VW mF as (i+1):=rfl
@[simp] theorem xx:VW mF (.o j::as) i=(decide (i∈mF)&&VW mF as (i+1)):=rfl
@[simp] theorem xI:U5 mF as d os=((VW mF as 0 || d.hard)&&(VW mF as 0 || os.all P9)&&decide (mF.length=os.length)):=rfl
@[simp] theorem xl:UW as [] os δ=δ:=by cases os<;>rfl
@[simp] theorem x3{is:List Nat}:UW as (i::is) (d::os) δ=(match as[i]? with
  |some (.o j)=>UW as is os (δ.set j (.ow d))
  |_=>UW as is os δ):=rfl
@[simp] theorem vF:pNo δ=ba (bb,δ):=rfl
noncomputable def qSl(r:Option (cZ×Ev))(a b:VP):Option (cZ×Ev):=r.bind λp=>(a p.2).bind λl=>(b l.2).bind λu=>(oSl p.1 l.1 u.1).map λc=>(c,u.2)
def qSlb(x:cZ)(r:Option (Option Int×Ev))(a:VP):Option (cZ×Ev):=r.bind λl=>(a l.2).bind λu=>(oSl x l.1 u.1).map λc=>(c,u.2)
def qSlc(x:cZ)(l:Option Int)(r:Option (Option Int×Ev)):Option (cZ×Ev):=r.bind λu=>q0 (oSl x l u.1) u.2
@[simp] theorem xL{b:VP}:fSl fa a b δ=qSl (fa δ) a b:=rfl
@[simp] theorem wT{b:VP}:qSl (ba (x,δ)) a b=qSlb x (a δ) b:=rfl
@[simp] theorem v8:qSlb x (ba (l,δ)) a=qSlc x l (a δ):=rfl
@[simp] theorem wZ:qSlc x l (ba (u,δ))=q0 (oSl x l u) δ:=rfl
@[simp] theorem vq:oSl (.tup ds) l u=ba (.tup (FL ds l u)):=rfl
@[simp] theorem wS:oSl (.lst ds) l u=ba (.lst (FL ds l u)):=rfl
def qDp(i:Nat)(r:Option (cZ×Ev))(fk:VF):Option Ou:=r.bind λp=>(QC p.2 i).bind λ_=>(fk p.2).bind λq=>(L6 q.1).bind λk=>(QC q.2 i).bind λz=>if z.1.length<16777216/\z.1.Nodup then ba (.nx (q.2.set i (.ow (let r:=V7 z.1 z.2 k p.1;.dct r.1 r.2))))else bb
def qDpb(i:Nat)(x:cZ)(r:Option (List Z2×List cZ))(δ:Ev)(fk:VF):Option Ou:=r.bind λ_=>(fk δ).bind λq=>(L6 q.1).bind λk=>(QC q.2 i).bind λz=>if z.1.length<16777216/\z.1.Nodup then ba (.nx (q.2.set i (.ow (let r:=V7 z.1 z.2 k x;.dct r.1 r.2))))else bb
def qDpc(i:Nat)(x:cZ)(r:Option (cZ×Ev)):Option Ou:=r.bind λq=>(L6 q.1).bind λk=>(QC q.2 i).bind λz=>if z.1.length<16777216/\z.1.Nodup then ba (.nx (q.2.set i (.ow (.dct (V7 z.1 z.2 k x).1 (V7 z.1 z.2 k x).2))))else bb
@[simp] theorem xq{fk a:VF}:CN i fk a δ=qDp i (a δ) fk:=rfl
@[simp] theorem vw{fk:VF}:qDp i (ba (x,δ)) fk=qDpb i x (QC δ i) δ fk:=rfl
@[simp] theorem wm{z:List Z2×List cZ}{fk:VF}:qDpb i x (ba z) δ fk=qDpc i x (fk δ):=rfl
@[simp] theorem x8:qDpc i x (ba (y,δ))=(L6 y).bind λk=>(QC δ i).bind λz=>if z.1.length<16777216/\z.1.Nodup then ba (.nx (δ.set i (.ow (.dct (V7 z.1 z.2 k x).1 (V7 z.1 z.2 k x).2))))else bb:=rfl
@[simp] theorem wg{i:Int}:L6 (.int i)=ba (.inl i):=rfl
@[simp] theorem vE{s:Uq}:L6 (.str s)=ba (.inr s):=rfl
noncomputable def qRun(ml:List Nat):Option Ou->Option (cZ×List cZ)
 |some (.rt d δ)=>(SZ ml δ).map λos=>(d,os)
 |some (.nx δ)=>(SZ ml δ).map λos=>(.non,os)
 |_=>bb
def U9:bC n ml g ds=qRun ml (g (WR ml n ds)):=by
 unfold bC qRun;cases g (WR ml n ds)with
 |none=>rfl
 |some o=>cases o<;>rfl
@[simp] theorem vD:qRun ml (ba (.rt d δ))=(SZ ml δ).map λos=>(d,os):=rfl
@[simp] theorem vS:qRun ml (ba (.nx δ))=(SZ ml δ).map λos=>(.non,os):=rfl
def qow:Option Sl->Option cZ
 |some (.ow d)=>ba d
 |_=>bb
@[simp] theorem wQ:SZ [] δ=ba []:=rfl
@[simp] theorem wu:SZ (i::ml) δ=(qow δ[i]?).bind λd=>(SZ ml δ).map λos=>d::os:=by
 unfold SZ;rw[Ss];cases h:(δ[i]? :Option Sl)with
 |none=>rfl
 | some s => cases s with
  |no=>rfl
  |va d=>rfl
  |ow d=>
   show(Option.bind _ λos=>ba (d::os))=Um (λos=>d::os) _;cases (List.mapM _ ml:Option (List cZ))<;>rfl
@[simp] theorem wy:qow (ba (.ow d))=ba d:=rfl
end
end
section
variable{i j:Int}{x y:Uq}{ds es:List cZ}
@[simp] theorem oI_e{C:Int->Int->Bool}{g:Int->Int->cZ}:oI C g (.int i) (.int j)=if C i j=bc then ba (g i j)else bb:=rfl
@[simp] theorem w5:Y0 (.int i) (.int j)=ba (.int (i+j)):=rfl
@[simp] theorem vn:Y0 (.tup ds) (.tup es)=if ds.length+es.length<=16777216 then ba (.tup (ds++es))else bb:=rfl
@[simp] theorem xP:Y0 (.lst ds) (.lst es)=if ds.length+es.length<=16777216 then ba (.lst (ds++es))else bb:=rfl
@[simp] theorem vk{g:Int->Int->Int}:o2I g (.int i) (.int j)=ba (.int (g i j)):=rfl
@[simp] theorem xw:ZC (.tup ds)=ba (.int ds.length):=rfl
@[simp] theorem wA:ZC (.lst ds)=ba (.int ds.length):=rfl
@[simp] theorem vP:QA (.tup ds)=ba (.lst ds):=rfl
@[simp] theorem wl:QA (.lst ds)=ba (.lst ds):=rfl
@[simp] theorem wo:aL (.tup ds) (.int i)=G8 ds i:=rfl
@[simp] theorem vJ:aL (.lst ds) (.int i)=G8 ds i:=rfl
@[simp] theorem xb{ks:List Z2}:aL (.dct ks ds) (.int i)=YO ks ds (.inl i):=rfl
@[simp] theorem w6{ks:List Z2}:aL (.dct ks ds) (.str x)=YO ks ds (.inr x):=rfl
@[simp] theorem xj:F5 (.int i)=bc:=rfl
@[simp] theorem xy:F5 .non=bc:=rfl
@[simp] theorem xf{b:Bool}:F5 (.bl b)=bc:=rfl
@[simp] theorem xM{n:String}:UD (.int i) (.ty n)=(NE "int" n).map cZ.bl:=rfl
@[simp] theorem wv{n:String}:UD (.tup ds) (.ty n)=(NE "tuple" n).map cZ.bl:=rfl
@[simp] theorem xr{n:String}:UD (.lst ds) (.ty n)=(NE "list" n).map cZ.bl:=rfl
@[simp] theorem xJ{n:String}:UD (.str x) (.ty n)=(NE "str" n).map cZ.bl:=rfl
@[simp] theorem xN:OQ .non .non=ba (.bl bc):=rfl
@[simp] theorem wD:OQ (.int i) .non=ba (.bl be):=rfl
@[simp] theorem v9:OQ (.str x) .non=ba (.bl be):=rfl
@[simp] theorem x4:OQ (.tup ds) .non=ba (.bl be):=rfl
@[simp] theorem wE:QB .non .non=ba (.bl be):=rfl
@[simp] theorem vt:QB (.int i) .non=ba (.bl bc):=rfl
@[simp] theorem y3:QB (.str x) .non=ba (.bl bc):=rfl
@[simp] theorem wd:QB (.tup ds) .non=ba (.bl bc):=rfl
end
section
variable{d x:cZ}{δ δ1:Ev}{r ya:List cZ}{gg:VG}{tb:VB}{fe:VF}{n nl:Nat}{g:VS}
def qk1(n nl:Nat)(gg:VG)(tb:VB)(fe:VF)(r ya:List cZ)(o:Option Ev):Option (List cZ×Ev):=o.bind λδ1=>(tb δ1).bind λp=>if p.1=bc then(fe p.2).bind λq=>if ya.length<16777216 then X6 n nl gg tb fe r (ya++[q.1]) (q.2.take n)else bb else X6 n nl gg tb fe r ya (p.2.take n)
def qk2(n nl:Nat)(gg:VG)(tb:VB)(fe:VF)(r ya:List cZ)(o:Option (Bool×Ev)):Option (List cZ×Ev):=o.bind λp=>if p.1=bc then(fe p.2).bind λq=>if ya.length<16777216 then X6 n nl gg tb fe r (ya++[q.1]) (q.2.take n)else bb else X6 n nl gg tb fe r ya (p.2.take n)
def qk3(n nl:Nat)(gg:VG)(tb:VB)(fe:VF)(r ya:List cZ)(o:Option (cZ×Ev)):Option (List cZ×Ev):=o.bind λq=>if ya.length<16777216 then X6 n nl gg tb fe r (ya++[q.1]) (q.2.take n)else bb
@[simp] theorem wY:X6 n nl gg tb fe [] ya δ=ba (ya,δ):=rfl
@[simp] theorem wV:X6 n nl gg tb fe (d::r) ya δ=qk1 n nl gg tb fe r ya (gg d (δ++J4 nl)):=rfl
@[simp] theorem vR:qk1 n nl gg tb fe r ya (ba δ)=qk2 n nl gg tb fe r ya (tb δ):=rfl
@[simp] theorem vj:qk2 n nl gg tb fe r ya (ba (bc,δ))=qk3 n nl gg tb fe r ya (fe δ):=rfl
@[simp] theorem vI:qk2 n nl gg tb fe r ya (ba (be,δ))=X6 n nl gg tb fe r ya (δ.take n):=rfl
@[simp] theorem ve:qk3 n nl gg tb fe r ya (ba (x,δ))=if ya.length<16777216 then X6 n nl gg tb fe r (ya++[x]) (δ.take n)else bb:=rfl
def qf1(gg:VG)(g:VS)(r:List cZ)(o:Option Ev):Option Ou:=o.bind λδ1=>(g δ1).bind (again (RO gg g r))
def qf2(gg:VG)(g:VS)(r:List cZ)(o:Option Ou):Option Ou:=o.bind (again (RO gg g r))
@[simp] theorem wH:RO gg g [] δ=ba (.nx δ):=rfl
@[simp] theorem y4:RO gg g (d::r) δ=qf1 gg g r (gg d δ):=rfl
@[simp] theorem vG:qf1 gg g r (ba δ)=qf2 gg g r (g δ):=rfl
@[simp] theorem xt:qf2 gg g r (ba (.nx δ))=RO gg g r δ:=rfl
@[simp] theorem xT:qf2 gg g r (ba (.ct δ))=RO gg g r δ:=rfl
@[simp] theorem xQ:qf2 gg g r (ba (.bk δ))=ba (.nx δ):=rfl
@[simp] theorem vm:qf2 gg g r (ba (.rt d δ))=ba (.rt d δ):=rfl
@[simp] theorem wz{i:Nat}{is:List Nat}{ss:Ev}:ZB (i::is) (.ow d::ss) δ=ZB is ss (δ.set i (.ow d)):=rfl
@[simp] theorem xW{i:Nat}{is:List Nat}{ss:Ev}:ZB (i::is) (.va d::ss) δ=ZB is ss δ:=rfl
@[simp] theorem xD{i:Nat}{is:List Nat}{ss:Ev}:ZB (i::is) (.no::ss) δ=ZB is ss δ:=rfl
end
@[simp] theorem xo:J4 1=[.no]:=rfl
@[simp] theorem vY:J4 2=[.no,.no]:=rfl
@[simp] theorem wJ:J4 3=[.no,.no,.no]:=rfl
@[simp] theorem xS{i:Int}:RQ i 0=[]:=rfl
@[simp] theorem xh:RQ 0 1=[.int 0]:=rfl
@[simp] theorem wn:RQ 0 2=[.int 0,.int 1]:=rfl
@[simp] theorem xC:RQ 0 3=[.int 0,.int 1,.int 2]:=rfl
@[simp] theorem vK:RQ 0 4=[.int 0,.int 1,.int 2,.int 3]:=rfl
def jU{a:Type}{xs:List a}{i:Int}(c:0<=i)(b:i<xs.length):G8 xs i=xs[i.toNat]? :=by unfold G8 ixN;rw[if_pos c,if_pos b];rfl
def Ye{a:Type}{xs:List a}{i:Int}(c:0<=i)(b:i<xs.length):∃x∈xs,G8 xs i=ba x:=by
 rw[jU c b];have h:i.toNat<xs.length:=by lia
 exact⟨xs[i.toNat],Me _,De h⟩
section
variable{F:bR}{fa fb fc:VF}{δ:Ev}{x y z d o:cZ}{j:Nat}
noncomputable def AJ(δ:Ev):Option (cZ×List cZ)->Option (cZ×Ev)
 |some (d,[])=>ba (d,δ)
 |_=>bb
@[simp] theorem wR:AJ δ (ba (d,[]))=ba (d,δ):=rfl
def DF{n:Nat}{ds:List cZ}{as:List AV}(h:VY δ as=ba ds)(a:ds.length=n)(b:V4 as=[])(c:VW [] as 0=bc):qCb n [] F as δ (ba ds)=AJ δ (F ds):=by
 have hc:UA [] as δ=bc:=by simp[b]
 rw[sU,if_pos ⟨a,hc⟩];cases F ds with
 |none=>rfl
 |some q=>
  obtain⟨r,os⟩:=q;rw[mV];cases os with
  |nil=>simp[c,AJ]
  |cons o os=>simp[AJ]
def qx1(F:bR)(r:Option (cZ×Ev)):Option (cZ×Ev):=r.bind λp=>AJ p.2 (F [p.1])
@[simp] theorem w4:qx1 F (ba (x,δ))=AJ δ (F [x]):=rfl
@[simp high] theorem call1:cE 1 [] F (aE fa cK) δ=qx1 F (fa δ):=by
 rw[M6,FE];cases fa δ with
 |none=>rfl
 |some p=>exact DF (as:=[.d p.1]) rfl rfl rfl rfl
def qx2(F:bR)(r:Option (cZ×Ev))(fb:VF):Option (cZ×Ev):=r.bind λp=>(fb p.2).bind λq=>AJ q.2 (F [p.1,q.1])
def qx2b(F:bR)(x:cZ)(r:Option (cZ×Ev)):Option (cZ×Ev):=r.bind λq=>AJ q.2 (F [x,q.1])
@[simp] theorem rA:qx2 F (ba (x,δ)) fb=qx2b F x (fb δ):=rfl
@[simp] theorem xz:qx2b F x (ba (y,δ))=AJ δ (F [x,y]):=rfl
@[simp high] theorem call2:cE 2 [] F (aE fa (aE fb cK)) δ=qx2 F (fa δ) fb:=by
 rw[M6,FE];cases fa δ with
 |none=>rfl
 |some p=>
  rw[qa_s,FE,rA];cases fb p.2 with
  |none=>rfl
  |some q=>exact DF (as:=[.d p.1,.d q.1]) rfl rfl rfl rfl
def qx3(F:bR)(r:Option (cZ×Ev))(fb fc:VF):Option (cZ×Ev):=r.bind λp=>(fb p.2).bind λq=>(fc q.2).bind λs=>AJ s.2 (F [p.1,q.1,s.1])
def qx3b(F:bR)(x:cZ)(r:Option (cZ×Ev))(fc:VF):Option (cZ×Ev):=r.bind λq=>(fc q.2).bind λs=>AJ s.2 (F [x,q.1,s.1])
def qx3c(F:bR)(x y:cZ)(r:Option (cZ×Ev)):Option (cZ×Ev):=r.bind λs=>AJ s.2 (F [x,y,s.1])
@[simp] theorem sE:qx3 F (ba (x,δ)) fb fc=qx3b F x (fb δ) fc:=rfl
@[simp] theorem jP:qx3b F x (ba (y,δ)) fc=qx3c F x y (fc δ):=rfl
@[simp] theorem wM:qx3c F x y (ba (z,δ))=AJ δ (F [x,y,z]):=rfl
@[simp high] theorem call3:cE 3 [] F (aE fa (aE fb (aE fc cK))) δ=qx3 F (fa δ) fb fc:=by
 rw[M6,FE];cases fa δ with
 |none=>rfl
 |some p=>
  rw[qa_s,FE,sE];cases fb p.2 with
  |none=>rfl
  |some q=>
   rw[qa_s,FE,jP];cases fc q.2 with
   |none=>rfl
   |some s=>exact DF (as:=[.d p.1,.d q.1,.d s.1]) rfl rfl rfl rfl
noncomputable def qw3(j:Nat)(δ:Ev):Option (cZ×List cZ)->Option (cZ×Ev)
 |some (r,[o])=>ba (r,δ.set j (.ow o))
 |_=>bb
def qw2(F:bR)(j:Nat)(x y:cZ)(δ:Ev):Option Sl->Option (cZ×Ev)
 |some (.ow d)=>qw3 j δ (F [x,d,y])
 |_=>bb
def qwb(F:bR)(j:Nat)(x:cZ)(r:Option (cZ×Ev)):Option (cZ×Ev):=r.bind λq=>qw2 F j x q.1 q.2 q.2[j]?
def qwa(F:bR)(j:Nat)(x:cZ)(δ:Ev)(fb:VF)(s:Option cZ):Option (cZ×Ev):=s.bind λ_=>qwb F j x (fb δ)
def qw(F:bR)(j:Nat)(r:Option (cZ×Ev))(fb:VF):Option (cZ×Ev):=r.bind λp=>qwa F j p.1 p.2 fb (slot p.2 j)
@[simp] theorem vB:qw3 j δ (ba (x,[o]))=ba (x,δ.set j (.ow o)):=rfl
@[simp] theorem vL:qw2 F j x y δ (ba (.ow d))=qw3 j δ (F [x,d,y]):=rfl
@[simp] theorem kF:qwb F j x (ba (y,δ))=qw2 F j x y δ δ[j]? :=rfl
@[simp] theorem tK:qwa F j x δ fb (ba d)=qwb F j x (fb δ):=rfl
@[simp] theorem qw_s:qw F j (ba (x,δ)) fb=qwa F j x δ fb (slot δ j):=rfl
@[simp high] theorem callO:cE 3 [1] F (aE fa (aO j (aE fb cK))) δ=qw F j (fa δ) fb:=by
 rw[M6,FE];cases fa δ with
 |none=>rfl
 |some p=>
  obtain⟨x,a⟩:=p;rw[qa_s,aO_e,qw_s];cases h:slot a j with
  |none=>rfl
  |some f=>
   rw[kE,FE,tK];cases fb a with
   |none=>rfl
   |some q=>
    obtain⟨y,c⟩:=q;rw[kF,qa_s,dD,Wc,Wc,Wc,mD];cases b:c[j]? with
    |none=>simp[b,qsl,qCb,qw2]
    |some s=>
     cases s with
     |no=>simp[b,qsl,qCb,qw2]
     |va d=>simp[b,qw2]
     |ow d=>
      simp[b];cases F [x,d,y]with
      |none=>rfl
      |some r=>
       obtain⟨v,os⟩:=r;cases os with
       |nil=>simp[qw3]
       |cons o os=>
        cases os with
        |nil=>simp
        |cons e os=>simp[qw3]
end
def SJ:cZ:=.int 999
def BI:cZ:=.tup [.str "plus",.str "minus",.str "times",.str "least",.str "most",.str "less",.str "over"]
def NL:cZ:=.int 64
def NK:cZ:=.int 40
def PH:cZ:=.int 63
def PD:cZ:=.tup [.str "row",.str "row"]
def RB:cZ:=.dct [.inr "number",.inr "pick",.inr "load",.inr "take",.inr "store",.inr "put"] [.tup [.str "word"],.tup [.str "row",.str "row",.str "row"],.tup [.str "place"],.tup [.str "place",.str "row",.str "row"],.tup [.str "place",.str "row"],.tup [.str "place",.str "row",.str "row"]]
def JM:cZ:=.tup [.str "load",.str "take"]
def RX:cZ:=.tup [.str "store",.str "put"]
def RA:cZ:=.int 2
def PF:cZ:=.int 4
def WQ:cZ:=.int 64
def JL:cZ:=.str "abcdefghijklmnopqrstuvwxyz"
def SI:cZ:=.int 8
noncomputable abbrev MU:List Uq:=["NoBlock","NoCells","NoLanes","NoName","NoPlan","NotValid","Nothing"]
noncomputable abbrev TL:List Uq:=["NoBlock","NoCells","NoRow","NoLanes","NoPlan","NoProgram","NoTree","NoLoop","NoText","NoName","TooMany","TooLong","NotValid","Nothing"]
def LR:VS:=
   (cH (ZU (NJ (fB (f2 UD (fV 0) (fC (.ty "bool")))) (Z7 (fB (f2 UD (fV 0) (fC (.ty "int"))))))
   (cD (fC (.bl be)))
   bO)
   (cD (f3 oLe oLe (fV 1) (fV 0) (fV 2))))
def bD:bR:=bC 3 [] LR
def LW:VS:=
   (cH (ZU (fB (f2 (K4 be) (fV 0) (fC BI)))
   (cD (fC PD))
   bO)
   (cD (f2 Wg (fC RB) (fV 0))))
def X1:bR:=bC 1 [] LW
def PU:VS:=
   (cD (f2 (K4 bc) (f2 aL (fV 0) (fC (.int 0))) (fC RX)))
def WF:bR:=bC 1 [] PU
def LX:VS:=
   (cD (fIf (NJ (fB (f2 (K4 be) (f2 aL (fV 0) (fC (.int 0))) (fC JM))) (fB (f2 (K4 be) (f2 aL (fV 0) (fC (.int 0))) (fC RX)))) (f2 aL (fV 0) (fC (.int 1))) (fC .non)))
def Z4:bR:=bC 1 [] LX
def LU:VS:=
   (cH (CP 1 2 (fV 0))
   (cD (X7 [] 2 (iZip (cE 1 [] X1 (aE (fV 1) cK)) (fV 2)) (gTp 2 (ZG (gN 0) (ZG (gN 1) P1))) (fB (f2 X8 (fV 0) (fC (.str "row")))) (fV 1))))
def X0:bR:=bC 3 [] LU
def LS:VS:=
   (cD (RN (cE 3 [] bD (aE (fV 0) (aE (fC (.int 0)) (aE (f2 oSub (f1 ZC (fV 1)) (fC (.int 1))) cK)))) (f2 aL (fV 1) (fV 0))))
def T5:bR:=bC 2 [] LS
def Ym:VS:=
   (cH (ZU (fB (f2 X8 (fV 0) (fC (.str "word"))))
   (cD (cE 3 [] bD (aE (fV 1) (aE (fC (.int 0)) (aE (fC SJ) cK)))))
   bO)
   (cH (ZU (fB (f2 X8 (fV 0) (fC (.str "place"))))
   (cD (cE 3 [] bD (aE (fV 1) (aE (fC (.int 0)) (aE (fC PH) cK)))))
   bO)
   (cD (cE 2 [] T5 (aE (fV 1) (aE (fV 2) cK))))))
def HB:bR:=bC 3 [] Ym
def FQ:VS:=
   (cH (ZU (NJ (Z7 (fB (f2 UD (fV 0) (fC (.ty "tuple"))))) (fB (f2 X8 (f1 ZC (fV 0)) (fC (.int 0)))))
   (cD (fC (.bl be)))
   bO)
   (cH (CP 2 3 (fV 0))
   (cH (aN 4 (xV (fIf (fB (f2 UD (fV 2) (fC (.ty "str")))) (cE 1 [] X1 (aE (fV 2) cK)) (fC .non))))
   (cH (ZU (NJ (fB (f2 OQ (fV 4) (fC .non))) (fB (f2 RP (f1 ZC (fV 4)) (f1 ZC (fV 3)))))
   (cD (fC (.bl be)))
   bO)
   (cD (f1 F4 (X7 [1] 2 (iZip (fV 4) (fV 3)) (gTp 2 (ZG (gN 1) (ZG (gN 2) P1))) T9 (cE 3 [] HB (aE (fV 1) (aE (fV 2) (aE (fV 0) cK)))))))))))
def O8:bR:=bC 5 [] FQ
def HG:VS:=
   (cH (ZU (Z7 (fB (cE 2 [] O8 (aE (fV 4) (aO 3 cK)))))
   (cD (fC (.bl be)))
   bO)
   (GH 3 mApp (cT (cE 1 [] WF (aE (fV 4) cK)) bY)))
def LN:VS:=
   (cH (ZU (NJ (Z7 (fB (f2 UD (fV 0) (fC (.ty "tuple"))))) (fB (f2 RP (f1 ZC (fV 0)) (fC (.int 2)))))
   (cD (fC (.bl be)))
   bO)
   (cH (AO (fV 0) (gTp 2 (ZG (gN 1) (ZG (gN 2) P1))))
   (cH (ZU (Z7 (fB (cE 3 [] bD (aE (fV 1) (aE (fC (.int 0)) (aE (fC NL) cK))))))
   (cD (fC (.bl be)))
   bO)
   (cH (ZU (NJ (Z7 (fB (f2 UD (fV 2) (fC (.ty "tuple"))))) (fB (f2 oGt (f1 ZC (fV 2)) (fC NK))))
   (cD (fC (.bl be)))
   bO)
   (cH (aN 3 (xO (aQ bY)))
   (cH (RS (YJ (fV 2)) (gN 4)
   HG)
   (cD (fC (.bl bc)))))))))
def aH:bR:=bC 5 [] LN
def FR:VS:=
   (cD (f2 (K4 be) (f2 aL (fV 0) (fC (.int 0))) (fC RX)))
def XO:bR:=bC 1 [] FR
def UQ:VS:=
   (cD (RN (f2 X8 (f2 aL (fV 0) (fC (.int 0))) (fC (.str "number"))) (f2 RP (f2 aL (fV 0) (fC (.int 1))) (fC (.int 0)))))
def Y8:bR:=bC 1 [] UQ
def NR:VS:=
   (cH (AO (fV 0) (gTp 2 (ZG (gN 2) (ZG (gN 3) P1))))
   (cH (aN 4 (xV (f2 aL (fV 3) (fV 1))))
   (cH (ZU (fB (f2 X8 (f2 aL (fV 4) (fC (.int 0))) (fC (.str "over"))))
   (cD (fNot (cE 1 [] Y8 (aE (f2 aL (fV 3) (f2 aL (fV 4) (fC (.int 2)))) cK))))
   bO)
   (cH (aN 5 (xV (cE 1 [] Z4 (aE (fV 4) cK))))
   (cD (RN (f2 QB (fV 5) (fC .non)) (f2 oGe (fV 5) (fV 2))))))))
def XN:bR:=bC 6 [] NR
def XT:VS:=
   (cD (RN (f2 X8 (cE 1 [] Z4 (aE (fV 0) cK)) (cE 1 [] Z4 (aE (fV 1) cK))) (fOr (cE 1 [] XO (aE (fV 0) cK)) (cE 1 [] XO (aE (fV 1) cK)))))
def Z6:bR:=bC 2 [] XT
def NU:VS:=
   (cH (aN 3 (xV (f2 aL (fV 0) (fC (.int 1)))))
   (cH (ZU (NJ (fB (f2 (K4 be) (fV 1) (cE 1 [] X0 (aE (f2 aL (fV 3) (fV 2)) cK)))) (fB (cE 2 [] Z6 (aE (f2 aL (fV 3) (fV 1)) (aE (f2 aL (fV 3) (fV 2)) cK)))))
   (cD (fC (.bl bc)))
   bO)
   (cH (CO 4 5 (xV (cE 2 [] XN (aE (fV 0) (aE (fV 1) cK)))) (xV (cE 2 [] XN (aE (fV 0) (aE (fV 2) cK)))))
   (cH (ZU (FG (fB (fV 4)) (fB (fV 5)))
   (cD (fC (.bl bc)))
   bO)
   (cD (fOr (RN (fV 4) (cE 1 [] XO (aE (f2 aL (fV 3) (fV 2)) cK))) (RN (fV 5) (cE 1 [] XO (aE (f2 aL (fV 3) (fV 1)) cK)))))))))
def VH:bR:=bC 6 [] NU
def PX:VS:=
   (cH (aN 1 (xV (f1 ZC (f2 aL (fV 0) (fC (.int 1))))))
   (cH (aN 2 (xV (SM [1] 2 (iR1 (fV 1)) (gN 1) T9 (iR2 (f2 Y0 (fV 1) (fC (.int 1))) (fV 0)) (gN 2) T9 (aJ (cT (fV 1) (cT (fV 2) bY))))))
   (cD (X7 [0] 2 (YJ (fV 2)) (gTp 2 (ZG (gN 1) (ZG (gN 2) P1))) (fB (cE 3 [] VH (aE (fV 0) (aE (fV 1) (aE (fV 2) cK))))) (aJ (cT (fV 1) (cT (fV 2) bY)))))))
def YB:bR:=bC 3 [] PX
def LQ:VS:=
   (cD (cE 3 [] bD (aE (fV 0) (aE (fC RA) (aE (fC PF) cK)))))
def XY:bR:=bC 1 [] LQ
def PV:VS:=
   (cH (aN 3 (xV (f2 aL (f2 aL (fV 0) (fV 1)) (fC (.int 0)))))
   (cH (ZU (NJ (fB (f2 oGe (fV 1) (fV 2))) (NJ (fB (f2 X8 (fV 3) (fC (.str "number")))) (fB (f2 RP (f2 aL (f2 aL (fV 0) (fV 2)) (fC (.int 0))) (fV 3)))))
   (cD (fC (.bl be)))
   bO)
   (cH (aN 4 (xV (cE 1 [] Z4 (aE (f2 aL (fV 0) (fV 1)) cK))))
   (cD (fOr (f2 OQ (fV 4) (fC .non)) (f2 X8 (cE 1 [] Z4 (aE (f2 aL (fV 0) (fV 2)) cK)) (f2 Y0 (fV 4) (fC (.int 1)))))))))
def WG:bR:=bC 5 [] PV
def JS:VS:=
   (cH (aN 3 (xV (f2 aL (fV 0) (fC (.int 1)))))
   (cH (ZU (NJ (Z7 (fB (f2 UD (fV 2) (fC (.ty "tuple"))))) (fB (f2 RP (f1 ZC (fV 2)) (fV 1))))
   (cD (fC (.bl be)))
   bO)
   (cH (ZU (Z7 (fB (f1 F4 (X7 [3] 1 (YJ (fV 2)) (gN 1) T9 (cE 3 [] bD (aE (fV 1) (aE (fC (.int 0)) (aE (f2 oSub (f1 ZC (fV 0)) (fC (.int 1))) cK))))))))
   (cD (fC (.bl be)))
   bO)
   (cH (ZU (Z7 (fB (f1 F4 (X7 [3] 2 (iZip (fV 2) (fSl (fV 2) (pSo (fC (.int 1))) pNo)) (gTp 2 (ZG (gN 1) (ZG (gN 2) P1))) T9 (cE 3 [] WG (aE (fV 0) (aE (fV 1) (aE (fV 2) cK))))))))
   (cD (fC (.bl be)))
   bO)
   (cD (fNot (f1 oAny (SM [2,3] 2 (YJ (fV 2)) (gN 2) T9 (YJ (cE 1 [] X0 (aE (f2 aL (fV 1) (fV 2)) cK))) (gN 3) T9 (f2 (K4 be) (fV 3) (fV 0))))))))))
def RU:bR:=bC 4 [] JS
def RG:VS:=
   (cD (SM [] 2 (YJ (fV 0)) (gN 0) T9 (YJ (fV 0)) (gN 1) T9 (fV 1)))
def ZK:bR:=bC 1 [] RG
def NS:VS:=
   (cH (ZU (NJ (Z7 (fB (f2 UD (fV 2) (fC (.ty "tuple"))))) (Z7 (fB (f1 F4 (X7 [0,1] 1 (YJ (fV 2)) (gN 2) T9 (cE 3 [] RU (aE (fV 0) (aE (fV 1) (aE (fV 2) cK)))))))))
   (cD (fC (.bl be)))
   bO)
   (cH (aN 3 (xV (cE 1 [] ZK (aE (fV 2) cK))))
   (cD (RN (f2 X8 (f1 B7 (fV 3)) (f1 ZC (fV 3))) (f2 X8 (f1 QA (fV 2)) (f1 D5 (fV 2)))))))
def YL:bR:=bC 4 [] NS
def RF:VS:=
   (cH (ZU (Z7 (fB (cE 1 [] aH (aE (fV 0) cK))))
   (λ_=>bb)
   bO)
   (ZU (Z7 (fB (cE 1 [] XY (aE (fV 1) cK))))
   (λ_=>bb)
   bO))
def ZJ:bR:=bC 2 [] RF
def RL:VZ:=
   (VD (O6 (Z7 (fB (cE 1 [] aH (aE (fV 0) cK)))) (λa=>ba (("NoBlock",bb),a)) K6)
   (WC (ZU (Z7 (fB (cE 1 [] aH (aE (fV 0) cK))))
   (λ_=>bb)
   bO)
   (O6 (Z7 (fB (cE 1 [] XY (aE (fV 1) cK)))) (λa=>ba (("NoLanes",bb),a)) K6)))
def XV:List cZ->Option Xw:=UY 2 RL
def PR:VS:=
   (cH (UZ (cE 2 [] ZJ (aE (fV 0) (aE (fV 1) cK))))
   (ZU (Z7 (fB (cE 3 [] YL (aE (fV 0) (aE (fV 1) (aE (fV 2) cK))))))
   (λ_=>bb)
   bO))
def WE:bR:=bC 3 [] PR
def QO:VZ:=
   (VD (MV 2 XV (aE (fV 0) (aE (fV 1) cK)))
   (WC (UZ (cE 2 [] ZJ (aE (fV 0) (aE (fV 1) cK))))
   (O6 (Z7 (fB (cE 3 [] YL (aE (fV 0) (aE (fV 1) (aE (fV 2) cK)))))) (λa=>ba (("NoPlan",bb),a)) K6)))
def WO:List cZ->Option Xw:=UY 3 QO
def PY:VS:=
   (cH (aN 2 (xV (cE 1 [] ZK (aE (fV 1) cK))))
   (cD (X7 [2] 1 (iR1 (f1 ZC (f2 aL (fV 0) (fC (.int 1))))) (gN 1) (fB (f2 (K4 bc) (fV 1) (fV 0))) (fV 1))))
def WH:bR:=bC 3 [] PY
def LV:VS:=
   (cD (f1 D5 (f2 Y0 (f1 QA (fV 1)) (X7 [] 1 (YJ (cE 2 [] WH (aE (fV 0) (aE (fV 1) cK)))) (gN 0) T9 (aJ (cT (fV 0) bY))))))
def VU:bR:=bC 2 [] LV
def LY:VS:=
   (cH (aN 2 (xO (fNO (YJ (fV 1)))))
   (cH (sWt 3 4 5 (YJ (fV 1)) (YJ (fV 0)) (fB (f2 RP (f2 aL (fO 2) (fV 4)) (f2 aL (fO 2) (fV 5)))) (f2 aL (fO 2) (fV 5)) (f2 aL (fO 2) (fV 4)))
   (cD (fO 3))))
def VV:bR:=bC 6 [] LY
def KZ:VS:=
   (ZU (FG (fB (f2 (oInT bc) (fV 3) (fV 2))) (fB (f1 F4 (X7 [2] 1 (YJ (f2 oIxT (fV 1) (fV 3))) (gN 1) T9 (f2 (oInT be) (fV 1) (fV 0))))))
   (cD (fV 3))
   bO)
def NV:VS:=
   (cH (RS (YJ (fV 0)) (gN 3)
   KZ)
   (cD (fC .non)))
def VJ:bR:=bC 4 [] NV
def SH:VS:=
   (cH (aN 4 (xV (cE 3 [] VJ (aE (fV 1) (aE (fV 2) (aO 3 cK))))))
   (cH (ZU (fB (f2 OQ (fV 4) (fC .non)))
   (cD (fC .non))
   bO)
   (EI 3 (fV 4) (fC (.bl bc)))))
def UC:VS:=
   (cH (aN 2 (xV (cE 2 [] VV (aE (fV 0) (aE (fV 1) cK)))))
   (cH (aN 3 (xO (fC (.dcn [] []))))
   (cH (Q5 (fB (f2 oLt (f1 Vz (fO 3)) (f1 ZC (fV 1))))
   SH)
   (cD (f1 Wz (fO 3))))))
def Y9:bR:=bC 5 [] UC
def OJ:VS:=
   (cD (cE 2 [] Y9 (aE (cE 1 [] YB (aE (fV 0) cK)) (aE (cE 2 [] VU (aE (fV 0) (aE (fV 1) cK))) cK))))
def WD:bR:=bC 2 [] OJ
def LP:VS:=
   (cH (ZU (NJ (Z7 (fB (f2 UD (fV 0) (fC (.ty "list"))))) (Z7 (fB (f3 oLe oLe (fV 1) (f1 ZC (fV 0)) (fC WQ)))))
   (cD (fC (.bl be)))
   bO)
   (cD (f1 F4 (X7 [] 1 (YJ (fV 0)) (gN 0) T9 (cE 3 [] bD (aE (fV 0) (aE (fC (.int 0)) (aE (fC SJ) cK))))))))
def Z3:bR:=bC 2 [] LP
def JR:VS:=
   (cH (ZU (NJ (Z7 (fB (f2 UD (fV 0) (fC (.ty "str"))))) (Z7 (fB (f3 oLe oLe (fC (.int 1)) (f1 ZC (fV 0)) (fC SI)))))
   (cD (fC (.bl be)))
   bO)
   (cD (f1 F4 (X7 [] 1 (iStr (fV 0)) (gN 0) T9 (f2 oInS (fV 0) (fC JL))))))
def ZV:bR:=bC 1 [] JR
def PZ:VS:=
   (cH (aN 3 (xO (f1 D2 (fV 0))))
   (cH (CN 3 (fV 1) (fV 2))
   (cD (fO 3))))
def WI:bR:=bC 4 [] PZ
def T3:VS:=
   (cD (fDcE (fV 0)))
def YW:bR:=bC 2 [] T3
def T2:VS:=
   (aN 2 (xV (f2 B3 (fV 2) (fC (.int 1000003)))))
def U6:VS:=
   (cH (ZU (fB (f2 oLt (fV 1) (f1 ZC (fV 0))))
   (cD (f2 aL (fV 0) (fV 1)))
   bO)
   (cH (ZU (fB (f2 X8 (fV 0) (aQ bY)))
   (cD (fC (.int 0)))
   bO)
   (cH (aN 2 (xV (f2 aL (fV 0) (f2 D3 (fV 1) (f1 ZC (fV 0))))))
   (cH (RS (iR1 (f2 oMin (f2 B3 (fV 1) (f1 ZC (fV 0))) (fC (.int 60)))) (gN 3)
   T2)
   (cD (f2 Y0 (f2 Y0 (f2 MB (f2 aL (fV 0) (f2 D3 (fV 1) (f1 ZC (fV 0)))) (fC (.int 31))) (fV 1)) (f2 MB (fV 2) (fC (.int 101)))))))))
def aM:bR:=bC 4 [] U6
def SN:VS:=
   (cH (aN 3 (xV (f2 D3 (f2 Y0 (f2 Y0 (f2 MB (cE 2 [] aM (aE (fV 0) (aE (fV 1) cK))) (fC (.int 1103515245))) (f2 MB (fC (.int 7919)) (fV 1))) (fC (.int 12345))) (fC (.int 2147483647)))))
   (cD (f2 D3 (f2 D3 (f2 D3 (f2 oPow (fV 3) (fC (.int 5))) (fC (.int 2147483647))) (fC (.int 999983))) (fV 2))))
def YM:bR:=bC 4 [] SN
def QY:VS:=
   (cH (GH 1 mApp (cT (fC (.int 0)) bY))
   (cD (cE 3 [] YM (aE (fV 0) (aE (f1 ZC (fO 1)) (aE (fV 2) cK))))))
def ZM:bR:=bC 3 [1] QY
def Q0:VS:=
   (cD (f2 aL (fV 2) (cE 3 [1] ZM (aE (fV 0) (aO 1 (aE (f1 ZC (fV 2)) cK))))))
def YS:bR:=bC 3 [1] Q0
def NT:VS:=
   (cH (aN 1 (xO (aQ (cT (f2 (SX MU TL) (fV 0) (fC (.fn "NoBlock"))) (cT (f2 (SX MU TL) (fV 0) (fC (.fn "NoCells"))) (cT (f2 (SX MU TL) (fV 0) (fC (.fn "NoRow"))) (cT (f2 (SX MU TL) (fV 0) (fC (.fn "NoLanes"))) bY)))))))
   (cH (GH 1 mExt (cT (aQ (cT (f2 (SX MU TL) (fV 0) (fC (.fn "NoPlan"))) (cT (f2 (SX MU TL) (fV 0) (fC (.fn "NoProgram"))) (cT (f2 (SX MU TL) (fV 0) (fC (.fn "NoTree"))) (cT (f2 (SX MU TL) (fV 0) (fC (.fn "NoLoop"))) bY))))) bY))
   (cH (GH 1 mExt (cT (aQ (cT (f2 (SX MU TL) (fV 0) (fC (.fn "NoText"))) (cT (f2 (SX MU TL) (fV 0) (fC (.fn "NoName"))) (cT (f2 (SX MU TL) (fV 0) (fC (.fn "TooMany"))) (cT (f2 (SX MU TL) (fV 0) (fC (.fn "TooLong"))) bY))))) bY))
   (cH (GH 1 mExt (cT (aQ (cT (f2 (SX MU TL) (fV 0) (fC (.fn "NotValid"))) (cT (f2 (SX MU TL) (fV 0) (fC (.fn "Nothing"))) bY))) bY))
   (cH (ZU (NJ (fB (f2 RP (f2 HZ (fO 1) (fC (.bl bc))) (fC (.int 1)))) (Z7 (fB (f2 (SX MU TL) (fV 0) (fC (.ty "ValueError"))))))
   (cD (aJ (cT (fC (.str "refused")) (cT (f1 oNeg (fC (.int 1))) bY))))
   bO)
   (cD (aJ (cT (fC (.str "refused")) (cT (f2 IA (fO 1) (fC (.bl bc))) bY)))))))))
def VE:bR:=bC 2 [] NT
def QZ:VS:=
   (cH (aN 2 (xV (fC (.lst [.non,.int 5,.tup [],.tup [.int 0],.tup [.int 0,.lst []],.lst [.int 0,.tup []],.tup [.int (-1),.tup []],.tup [.int 65,.tup []],.tup [.bl bc,.tup []],.tup [.str "0",.tup []],.tup [.int 0,.tup [],.tup []],.tup [.int 0,.tup [.tup []]]]))))
   (cH (aN 2 (xV (f2 Y0 (fV 2) (fC (.lst [.tup [.int 0,.tup [.tup [.str "number"]]],.tup [.int 0,.tup [.tup [.str "number",.int 1000]]],.tup [.int 0,.tup [.tup [.str "plus",.int 0,.int 0]]],.tup [.int 0,.tup [.lst [.str "load",.int 0]]]])))))
   (cH (aN 2 (xV (f2 Y0 (fV 2) (fC (.lst [.tup [.int 0,.tup [.tup [.str "load",.int 64]]],.tup [.int 0,.tup [.tup [.str "load",.int (-1)]]],.tup [.int 0,.tup [.tup [.str "halve",.int 0]]],.tup [.int 0,.tup [.tup [.int 5,.int 0]]]])))))
   (cH (aN 2 (xV (f2 Y0 (fV 2) (aQ (cT (fC (.tup [.int 0,.tup [.tup [.str "number",.int 1],.tup [.str "store",.int 0,.int 0],.tup [.str "plus",.int 0,.int 1]]])) (cT (aJ (cT (fC (.int 0)) (cT (f2 W3 (fC (.tup [.tup [.str "number",.int 1]])) (fC (.int 41))) bY))) bY))))))
   (cH (aN 2 (xV (f2 Y0 (fV 2) (fC (.lst [.tup [.int 0,.tup [.tup [.str "number",.int 1],.tup [.str "plus",.int 0,.int 1]]]])))))
   (cD (cE 3 [1] YS (aE (fV 0) (aO 1 (aE (fV 2) cK))))))))))
def YR:bR:=bC 3 [1] QZ
def U3:VZ:=
   (O6 (NJ (Z7 (fB (f2 B4 (fV 1) (aJ (cT (fC (.ty "list")) (cT (fC (.ty "tuple")) bY)))))) (Z7 (fB (cE 2 [] Z3 (aE (f1 QA (fV 1)) (aE (fC (.int 0)) cK)))))) (λa=>ba (("NoCells",bb),a)) K6)
def ZA:List cZ->Option Xw:=UY 2 U3
def QM:VZ:=
   (VD (O6 (Z7 (fB (cE 1 [] ZV (aE (fV 1) cK)))) (UK "NoName" "name" (aE (fV 1) cK)) K6)
   (WC (ZU (Z7 (fB (cE 1 [] ZV (aE (fV 1) cK))))
   (λ_=>bb)
   bO)
   (O6 (Z7 (fB (cE 1 [] aH (aE (fV 2) cK)))) (λa=>ba (("NoBlock",bb),a)) K6)))
def WN:List cZ->Option Xw:=UY 4 QM
def PP:VS:=
   (cH (ZU (NJ (Z7 (fB (cE 1 [] ZV (aE (fV 1) cK)))) (fB (f2 B8 (fV 1) (f1 (V6 "Shop" "kept") (fV 0)))))
   (λ_=>bb)
   bO)
   (cD (f2 aL (f1 (V6 "Shop" "kept") (fV 0)) (fV 1))))
def bJ:bR:=bC 2 [] PP
def QN:VZ:=
   (O6 (NJ (Z7 (fB (cE 1 [] ZV (aE (fV 1) cK)))) (fB (f2 B8 (fV 1) (f1 (V6 "Shop" "kept") (fV 0))))) (UK "NoName" "name" (aE (fV 1) cK)) K6)
def bF:List cZ->Option Xw:=UY 2 QN
def TR:VZ:=
   (VD (aB "Shop" "known" 0 2 bF (aE (fV 1) cK))
   (WC (aN 4 (xV (a8 "Shop" "known" 0 2 [] bJ (aE (fV 1) cK))))
   (VD (MV 3 WO (aE (fV 4) (aE (fV 3) (aE (fV 2) cK))))
   (WC (UZ (cE 3 [] WE (aE (fV 4) (aE (fV 3) (aE (fV 2) cK)))))
   (O6 (fB (f2 OQ (cE 2 [] WD (aE (fV 4) (aE (fV 2) cK))) (fC .non))) (UK "NotValid" "packs" (aE (fV 2) cK)) K6)))))
def YN:List cZ->Option Xw:=UY 5 TR
def TQ:VZ:=
   (VD (aB "Shop" "known" 0 2 bF (aE (fV 1) cK))
   (WC (aN 4 (xV (a8 "Shop" "known" 0 2 [] bJ (aE (fV 1) cK))))
   (VD (O6 (fB (f2 oLt (f1 ZC (fV 3)) (f2 aL (fV 4) (fC (.int 0))))) (λa=>ba (("NoCells",bb),a)) K6)
   (WC (ZU (fB (f2 oLt (f1 ZC (fV 3)) (f2 aL (fV 4) (fC (.int 0)))))
   (λ_=>bb)
   bO)
   (WC (ZU (Z7 (fB (fV 2)))
   (λ_=>bb)
   bO)
   (O6 (fB (f2 B8 (fV 1) (f1 (V6 "Shop" "sided") (fV 0)))) (λa=>ba (("NoPlan",bb),a)) K6))))))
def ZW:List cZ->Option Xw:=UY 12 TQ
def MW:VZ:=
   (aB "Shop" "outcome" 0 4 ZW (aE (fV 1) (aE (fV 2) (aE (f1 (V6 "Shop" "held") (fV 0)) cK))))
def T8:List cZ->Option Xw:=UY 5 MW
def T4:VZ:=
   (VD (O6 (Z7 (fB (f2 UD (fV 1) (fC (.ty "list"))))) (UK "NoName" "name" (aE (fV 1) cK)) K6)
   (WC (ZU (Z7 (fB (f2 UD (fV 1) (fC (.ty "list")))))
   (λ_=>bb)
   bO)
   (WC (aN 3 (xV (f1 (V6 "Shop" "held") (fV 0))))
   (WC (aN 4 (xV (aQ bY)))
   (Vy (YJ (fV 1)) (gN 5) (aB "Shop" "outcome" 0 4 ZW (aE (fV 5) (aE (fV 2) (aE (fV 3) cK)))))))))
def YX:List cZ->Option Xw:=UY 7 T4
def N3:VZ:=
   (aB "Shop" "known" 0 2 bF (aE (fV 1) cK))
def VL:List cZ->Option Xw:=UY 3 N3
def QL:VZ:=
   (O6 (NJ (Z7 (fB (cE 2 [] Z3 (aE (fV 1) (aE (fC (.int 0)) cK))))) (fB (f2 oGt (f2 Y0 (f1 ZC (f1 (V6 "Shop" "held") (fV 0))) (f1 ZC (fV 1))) (fC WQ)))) (λa=>ba (("NoCells",bb),a)) K6)
def WM:List cZ->Option Xw:=UY 2 QL
def QJ:VZ:=
   (O6 (fB (f2 X8 (f1 (B6 "Shop" "history") (fV 0)) (fC (.int 0)))) (λa=>ba (("Nothing",bb),a)) K6)
def WK:List cZ->Option Xw:=UY 5 QJ
def PL:VS:=
   (cD (a8 "Shop" "known" 0 2 [] bJ (aE (fV 1) cK)))
def Y6:bR:=bC 2 [] PL
def QK:VZ:=
   (aB "Shop" "known" 0 2 bF (aE (fV 1) cK))
def WL:List cZ->Option Xw:=UY 2 QK
def NQ:VS:=
   (cH (UZ (a8 "Shop" "known" 0 2 [] bJ (aE (fV 1) cK)))
   (cD (f2 Wg (f1 (V6 "Shop" "sided") (fV 0)) (fV 1))))
def YK:bR:=bC 2 [] NQ
def N4:VZ:=
   (aB "Shop" "known" 0 2 bF (aE (fV 1) cK))
def VM:List cZ->Option Xw:=UY 2 N4
def OI:VS:=
   (Wd (cH (ZU (fB (f2 X8 (fV 0) (fC (.int 0))))
   (cD (λ_=>bb))
   bO)
   (cH (ZU (fB (f2 X8 (fV 0) (fC (.int 1))))
   (cD (λ_=>bb))
   bO)
   (cH (ZU (fB (f2 X8 (fV 0) (fC (.int 2))))
   (cD (λ_=>bb))
   bO)
   (cH (ZU (fB (f2 X8 (fV 0) (fC (.int 3))))
   (cD (λ_=>bb))
   bO)
   (cH (ZU (fB (f2 X8 (fV 0) (fC (.int 4))))
   (cD (λ_=>bb))
   bO)
   (cH (ZU (fB (f2 X8 (fV 0) (fC (.int 5))))
   (cD (λ_=>bb))
   bO)
   (cH (ZU (fB (f2 oLt (fV 0) (fC (.int 8))))
   (cD (fIf (fB (f2 X8 (fV 0) (fC (.int 6)))) (λ_=>bb) (λ_=>bb)))
   bO)
   (cD (fIf (fB (f2 X8 (fV 0) (fC (.int 8)))) (λ_=>bb) (λ_=>bb))))))))))
   (VD (O6 (fB (f2 X8 (fV 0) (fC (.int 0)))) (Wi "Shop" 2 ZA (aE (fV 2) cK)) K6)
   (WC (ZU (fB (f2 X8 (fV 0) (fC (.int 0))))
   (cD (λ_=>bb))
   bO)
   (VD (O6 (fB (f2 X8 (fV 0) (fC (.int 1)))) (aB "Shop" "keep" 1 3 WN (aE (fV 2) (aE (fV 3) cK))) K6)
   (WC (ZU (fB (f2 X8 (fV 0) (fC (.int 1))))
   (cD (λ_=>bb))
   bO)
   (VD (O6 (fB (f2 X8 (fV 0) (fC (.int 2)))) (aB "Shop" "pack" 1 4 YN (aK (aE (fV 2) (aE (fV 3) cK)) (fV 4))) K6)
   (WC (ZU (fB (f2 X8 (fV 0) (fC (.int 2))))
   (cD (λ_=>bb))
   bO)
   (VD (O6 (fB (f2 X8 (fV 0) (fC (.int 3)))) (aB "Shop" "run" 1 3 T8 (aK (aE (fV 2) cK) (fV 3))) K6)
   (WC (ZU (fB (f2 X8 (fV 0) (fC (.int 3))))
   (cD (λ_=>bb))
   bO)
   (VD (O6 (fB (f2 X8 (fV 0) (fC (.int 4)))) (aB "Shop" "together" 1 3 YX (aK (aE (fV 2) cK) (fV 3))) K6)
   (WC (ZU (fB (f2 X8 (fV 0) (fC (.int 4))))
   (cD (λ_=>bb))
   bO)
   (VD (O6 (fB (f2 X8 (fV 0) (fC (.int 5)))) (aB "Shop" "drop" 1 2 VL (aE (fV 2) cK)) K6)
   (WC (ZU (fB (f2 X8 (fV 0) (fC (.int 5))))
   (cD (λ_=>bb))
   bO)
   (VD (O6 (fB (f2 oLt (fV 0) (fC (.int 8)))) (O6 (fB (f2 X8 (fV 0) (fC (.int 6)))) (aB "Shop" "grow" 1 2 WM (aE (fV 2) cK)) (aB "Shop" "back" 1 1 WK cK)) K6)
   (WC (ZU (fB (f2 oLt (fV 0) (fC (.int 8))))
   (cD (fIf (fB (f2 X8 (fV 0) (fC (.int 6)))) (λ_=>bb) (λ_=>bb)))
   bO)
   (O6 (fB (f2 X8 (fV 0) (fC (.int 8)))) (aB "Shop" "block" 1 2 WL (aE (fV 2) cK)) (aB "Shop" "plan" 1 2 VM (aE (fV 2) cK)))))))))))))))))
   5 MU "NoName" "NotValid" (cD (aJ (cT (fC (.str "name")) (cT (f1 (MA ["NoName"] "name") (fV 5)) bY)))) (cD (aJ (cT (fC (.str "not")) (cT (f1 (MA ["NotValid"] "packs") (fV 5)) bY)))) (cD (cE 1 [] VE (aE (fV 5) cK))))
def b9:bR:=bC 6 [] OI
def RE:VS:=
   (cH (Vw "Shop" "history" 0 (cT (aJ (cT (fV 1) (cT (f1 (V6 "Shop" "held") (fO 0)) (cT (f1 (V6 "Shop" "kept") (fO 0)) (cT (f1 (V6 "Shop" "sided") (fO 0)) bY))))) bY))
   (cH (S9 "Shop" "held" 0 (fV 2))
   (cH (S9 "Shop" "kept" 0 (fV 3))
   (S9 "Shop" "sided" 0 (fV 4)))))
def ZI:bR:=bC 5 [0] RE
def NP:VS:=
   (cH (ZU (Z7 (fB (cE 1 [] ZV (aE (fV 1) cK))))
   (λ_=>bb)
   bO)
   (cH (ZU (Z7 (fB (cE 1 [] aH (aE (fV 2) cK))))
   (λ_=>bb)
   bO)
   (cH (aN 3 (xV (cE 3 [] WI (aE (f1 (V6 "Shop" "kept") (fO 0)) (aE (fV 1) (aE (fV 2) cK))))))
   (UZ (a8 "Shop" "settle" 0 5 [0] ZI (aE (aJ (cT (fC (.str "keep")) (cT (fV 1) bY))) (aE (f1 (V6 "Shop" "held") (fO 0)) (aE (fV 3) (aE (cE 2 [] YW (aE (f1 (V6 "Shop" "sided") (fO 0)) (aE (fV 1) cK))) cK)))))))))
def ZR:bR:=bC 4 [0] NP
def NN:VS:=
   (cH (ZU (fB (f2 X8 (f1 (B6 "Shop" "history") (fO 0)) (fC (.int 0))))
   (λ_=>bb)
   bO)
   (cH (AO (Wa "Shop" "history" 0) (gTp 4 (ZG (gN 1) (ZG (gN 2) (ZG (gN 3) (ZG (gN 4) P1))))))
   (cH (S9 "Shop" "held" 0 (fV 2))
   (cH (S9 "Shop" "kept" 0 (fV 3))
   (cH (S9 "Shop" "sided" 0 (fV 4))
   (cD (fV 1)))))))
def XJ:bR:=bC 5 [0] NN
def PQ:VS:=
   (cD (f1 D4 (f1 (V6 "Shop" "kept") (fV 0))))
def Y7:bR:=bC 1 [] PQ
def UO:VS:=
   (ZU (fB (f2 RP (bB 5 b9 (aE (fC (.int 1)) (aO 2 (aE (fV 3) (aE (fC .non) (aE (fC .non) cK)))))) (aJ (cT (fC (.str "name")) (cT (fV 3) bY)))))
   (cD (fC (.bl be)))
   bO)
def UP:VS:=
   (ZU (fB (f2 RP (bB 5 b9 (aE (fC (.int 0)) (aE (fC .non) (aE (fV 3) (aE (fC .non) (aE (fC .non) cK)))))) (aJ (cT (fC (.str "refused")) (cT (fC (.int 1)) bY)))))
   (cD (fC (.bl be)))
   bO)
def V3:VS:=
   (cH (RS (YJ (aQ (cT (fC .non) (cT (fC (.int 5)) (cT (fC (.str "12")) (cT (aQ (cT (fC (.int 1000)) bY)) (cT (aQ (cT (f1 oNeg (fC (.int 1))) bY)) (cT (aQ (cT (fC (.bl bc)) bY)) (cT (aQ (cT (fC (.str "1")) bY)) (cT (f2 W3 (aQ (cT (fC (.int 0)) bY)) (fC (.int 65))) (cT (aJ (cT (fC .non) bY)) bY))))))))))) (gN 3)
   UP)
   (cH (ZU (fB (f2 RP (bB 5 b9 (aE (fC (.int 7)) (aO 2 (aE (fC .non) (aE (fC .non) (aE (fC .non) cK)))))) (aJ (cT (fC (.str "refused")) (cT (fC (.int 13)) bY)))))
   (cD (fC (.bl be)))
   bO)
   (cH (RS (YJ (fC (.lst [.non,.int 5,.str "",.str "A",.str "ninesigns",.str "a b",.lst [.str "a"],.str "1",.bl bc]))) (gN 3)
   UO)
   (cH (ZU (NJ (fB (f2 QB (a8 "Shop" "keep" 2 3 [0] ZR (aE (fC (.str "eightsig")) (aE (fC (.tup [.int 0,.tup []])) cK))) (fC .non))) (fB (f2 RP (a8 "Shop" "back" 2 1 [0] XJ cK) (aJ (cT (fC (.str "keep")) (cT (fC (.str "eightsig")) bY))))))
   (cD (fC (.bl be)))
   bO)
   (cD (RN (f2 X8 (bB 5 b9 (aE (fC (.int 1)) (aO 2 (aE (fC (.str "a")) (aE (cE 2 [1] YR (aE (fV 0) (aO 1 cK))) (aE (fC .non) cK)))))) (aJ (cT (fC (.str "refused")) (cT (fC (.int 0)) bY)))) (f2 X8 (a8 "Shop" "names" 2 1 [] Y7 cK) (aQ bY))))))))
def aI:bR:=bC 4 [1,2] V3
def RD:VS:=
   (cH (ZU (NJ (Z7 (fB (f2 B4 (fV 1) (aJ (cT (fC (.ty "list")) (cT (fC (.ty "tuple")) bY)))))) (Z7 (fB (cE 2 [] Z3 (aE (f1 QA (fV 1)) (aE (fC (.int 0)) cK))))))
   (λ_=>bb)
   bO)
   (cH (S9 "Shop" "held" 0 (f1 QA (fV 1)))
   (cH (S9 "Shop" "kept" 0 (fC (.dct [] [])))
   (cH (S9 "Shop" "sided" 0 (fC (.dct [] [])))
   (EJ "Shop" "history" 0)))))
def ZH:bR:=bC 2 [0] RD
def NO:VS:=
   (cH (ZU (NJ (Z7 (fB (cE 2 [] Z3 (aE (fV 1) (aE (fC (.int 0)) cK))))) (fB (f2 oGt (f2 Y0 (f1 ZC (f1 (V6 "Shop" "held") (fO 0))) (f1 ZC (fV 1))) (fC WQ))))
   (λ_=>bb)
   bO)
   (cH (UZ (a8 "Shop" "settle" 0 5 [0] ZI (aE (aJ (cT (fC (.str "grow")) (cT (f1 ZC (fV 1)) bY))) (aE (f2 Y0 (f1 (V6 "Shop" "held") (fO 0)) (fV 1)) (aE (f1 (V6 "Shop" "kept") (fO 0)) (aE (f1 (V6 "Shop" "sided") (fO 0)) cK))))))
   (cD (f1 ZC (f1 (V6 "Shop" "held") (fO 0))))))
def XM:bR:=bC 2 [0] NO
def PN:VS:=
   (cD (f1 QA (f1 (V6 "Shop" "held") (fV 0))))
def YA:bR:=bC 1 [] PN
def LM:VS:=
   (cD (X7 [] 1 (Wk "Shop" "history" (fV 0)) (gN 0) T9 (f2 aL (fV 0) (fC (.int 0)))))
def VT:bR:=bC 1 [] LM
def BE:VS:=
   (ZU (fB (f2 RP (bB 5 b9 (aE (fC (.int 6)) (aO 2 (aE (fV 5) (aE (fC .non) (aE (fC .non) cK)))))) (aJ (cT (fC (.str "refused")) (cT (fC (.int 1)) bY)))))
   (cD (fC (.bl be)))
   bO)
def BF:VS:=
   (ZU (fB (f2 RP (bB 5 b9 (aE (fC (.int 2)) (aO 2 (aE (fC (.str "a")) (aE (fC .non) (aE (fV 5) cK)))))) (aJ (cT (fC (.str "refused")) (cT (fC (.int 3)) bY)))))
   (cD (fC (.bl be)))
   bO)
def BG:VS:=
   (ZU (fB (f2 RP (X7 [2,5] 1 (YJ (aJ (cT (fC (.int 2)) (cT (fC (.int 3)) (cT (fC (.int 5)) (cT (fC (.int 8)) (cT (fC (.int 9)) bY))))))) (gN 2) T9 (bB 5 b9 (aE (fV 2) (aO 0 (aE (fV 1) (aE (fC .non) (aE (fC .non) cK))))))) (f2 W3 (aQ (cT (aJ (cT (fC (.str "name")) (cT (fV 5) bY))) bY)) (fC (.int 5)))))
   (cD (fC (.bl be)))
   bO)
def Wh:VS:=
   (cH (aN 1 (xO (aQ bY)))
   (cH (aN 2 (xO (FP "Shop" 2 ZH (aE (f2 W3 (aQ (cT (fC (.int 1)) bY)) (cE 3 [1] ZM (aE (fV 0) (aO 1 (aE (fC (.int 9)) cK))))) cK))))
   (cH (ZU (Z7 (fB (cE 3 [1,2] aI (aE (fV 0) (aO 1 (aO 2 cK))))))
   (cD (fC (.bl be)))
   bO)
   (cH (aN 3 (xV (fC (.tup [.tup [.str "load",.int 0],.tup [.str "load",.int 1],.tup [.str "store",.int 5,.int 0],.tup [.str "load",.int 5],.tup [.str "store",.int 6,.int 3]]))))
   (cH (aN 4 (xV (aJ (cT (fC (.int 9)) (cT (fV 3) bY)))))
   (cH (UZ (a8 "Shop" "keep" 2 3 [0] ZR (aE (fC (.str "a")) (aE (fV 4) cK))))
   (cH (RS (YJ (fC (.lst [.non,.int 5,.str "",.str "b",.lst [.str "a"],.str "A",.bl bc]))) (gN 5)
   BG)
   (cH (aN 6 (xV (f2 oLt (f1 ZC (a8 "Shop" "cells" 2 1 [] YA cK)) (fC (.int 9)))))
   (cH (ZU (fB (f2 RP (bB 5 b9 (aE (fC (.int 4)) (aO 2 (aE (fC (.str "a")) (aE (fC (.bl be)) (aE (fC .non) cK)))))) (aJ (cT (fC (.str "name")) (cT (fC (.str "a")) bY)))))
   (cD (fC (.bl be)))
   bO)
   (cH (ZU (fB (f2 RP (bB 5 b9 (aE (fC (.int 4)) (aO 2 (aE (aQ (cT (fC (.str "a")) (cT (fC (.int 5)) bY))) (aE (fC (.bl be)) (aE (fC .non) cK)))))) (fIf (fB (fV 6)) (aJ (cT (fC (.str "refused")) (cT (fC (.int 1)) bY))) (aJ (cT (fC (.str "name")) (cT (fC (.int 5)) bY))))))
   (cD (fC (.bl be)))
   bO)
   (cH (RS (YJ (aQ (cT (fC .non) (cT (fC (.int 1)) (cT (fC (.int 5)) (cT (fC (.str "2")) (cT (fC (.bl bc)) bY))))))) (gN 5)
   BF)
   (cH (ZU (fB (f2 RP (bB 5 b9 (aE (fC (.int 2)) (aO 2 (aE (fC (.str "a")) (aE (fC (.tup [.tup [.int 0,.int 9]])) (aE (fC (.int 2)) cK)))))) (aJ (cT (fC (.str "refused")) (cT (fC (.int 4)) bY)))))
   (cD (fC (.bl be)))
   bO)
   (cH (ZU (fB (f2 RP (bB 5 b9 (aE (fC (.int 2)) (aO 2 (aE (fC (.str "a")) (aE (fC (.tup [.tup [.int 2,.int 4]])) (aE (fC (.int 2)) cK)))))) (fC (.tup [.str "not",.tup [.tup [.int 2,.int 4]]]))))
   (cD (fC (.bl be)))
   bO)
   (cH (ZU (FG (fB (fV 6)) (fB (f2 RP (bB 5 b9 (aE (fC (.int 3)) (aO 2 (aE (fC (.str "a")) (aE (fC (.bl bc)) (aE (fC .non) cK)))))) (aJ (cT (fC (.str "refused")) (cT (fC (.int 1)) bY))))))
   (cD (fC (.bl be)))
   bO)
   (cH (RS (YJ (aQ (cT (fC .non) (cT (aJ (cT (fC (.int 1)) bY)) (cT (aQ (cT (fC (.int 1000)) bY)) (cT (f2 W3 (aQ (cT (fC (.int 0)) bY)) (fC (.int 65))) (cT (aQ (cT (fC (.str "0")) bY)) (cT (aQ (cT (fC (.bl bc)) bY)) bY)))))))) (gN 5)
   BE)
   (cH (UZ (a8 "Shop" "grow" 2 2 [0] XM (aE (f2 W3 (aQ (cT (fC (.int 1)) bY)) (fC (.int 9))) cK)))
   (cH (ZU (fB (f2 RP (bB 5 b9 (aE (fC (.int 3)) (aO 2 (aE (fC (.str "a")) (aE (fC (.bl bc)) (aE (fC .non) cK)))))) (aJ (cT (fC (.str "refused")) (cT (fC (.int 4)) bY)))))
   (cD (fC (.bl be)))
   bO)
   (cH (ZU (fB (f2 RP (bB 5 b9 (aE (fC (.int 4)) (aO 2 (aE (aQ (cT (fC (.str "a")) (cT (fC (.str "a")) bY))) (aE (fC (.bl bc)) (aE (fC .non) cK)))))) (aJ (cT (fC (.str "refused")) (cT (fC (.int 4)) bY)))))
   (cD (fC (.bl be)))
   bO)
   (cD (RN (f2 X8 (a8 "Shop" "log" 2 1 [] VT cK) (fC (.lst [.tup [.str "keep",.str "a"],.tup [.str "grow",.int 9]]))) (RN (f2 OQ (a8 "Shop" "plan" 2 2 [] YK (aE (fC (.str "a")) cK)) (fC .non)) (f2 X8 (a8 "Shop" "block" 2 2 [] Y6 (aE (fC (.str "a")) cK)) (fV 4)))))))))))))))))))))))
def JD:bR:=bC 7 [] Wh
end L2
namespace RR
open PySem L2
structure Txt(K:Ag)(mg:Uq->Option Uo):Prop where
 fnm:∀x a,Cq K Ur x=ba (ba (.ref a))->mg x=ba (.ref a)
 n_len:mg "len"=bb
 n_range:mg "range"=bb
 n_min:mg "min"=bb
 ZO:mg "list"=bb
 n_tuple:mg "tuple"=bb
 n_sorted:mg "sorted"=bb
 n_isinstance:mg "isinstance"=bb
 n_bool:mg "bool"=bb
 n_int:mg "int"=bb
 n_str:mg "str"=bb
 n_zip:mg "zip"=bb
 n_all:mg "all"=bb
 n_any:mg "any"=bb
 n_dict:mg "dict"=bb
 n_ValueError:mg "ValueError"=bb
 n_set:mg "set"=bb
 v_DEEDS:∃u v,mg "DEEDS"=ba u/\b3 v u/\∀N H M,bV K N H M v BI
 v_DEED_PARTS:∃u v,mg "DEED_PARTS"=ba u/\b3 v u/\∀N H M,bV K N H M v PD
 v_LEAST_LANES:∃u v,mg "LEAST_LANES"=ba u/\b3 v u/\∀N H M,bV K N H M v RA
 v_LETTERS:∃u v,mg "LETTERS"=ba u/\b3 v u/\∀N H M,bV K N H M v JL
 v_MOST_CELLS:∃u v,mg "MOST_CELLS"=ba u/\b3 v u/\∀N H M,bV K N H M v WQ
 v_MOST_LANES:∃u v,mg "MOST_LANES"=ba u/\b3 v u/\∀N H M,bV K N H M v PF
 v_MOST_LETTERS:∃u v,mg "MOST_LETTERS"=ba u/\b3 v u/\∀N H M,bV K N H M v SI
 v_MOST_PLACE:∃u v,mg "MOST_PLACE"=ba u/\b3 v u/\∀N H M,bV K N H M v PH
 v_MOST_ROWS:∃u v,mg "MOST_ROWS"=ba u/\b3 v u/\∀N H M,bV K N H M v NK
 v_MOST_SURE:∃u v,mg "MOST_SURE"=ba u/\b3 v u/\∀N H M,bV K N H M v NL
 v_MOST_WORD:∃u v,mg "MOST_WORD"=ba u/\b3 v u/\∀N H M,bV K N H M v SJ
 v_OTHER_PARTS:∃u v,mg "OTHER_PARTS"=ba u/\b3 v u/\∀N H M,bV K N H M v RB
 v_READERS:∃u v,mg "READERS"=ba u/\b3 v u/\∀N H M,bV K N H M v JM
 v_WRITERS:∃u v,mg "WRITERS"=ba u/\b3 v u/\∀N H M,bV K N H M v RX
 v_Nothing:∃u v,mg "Nothing"=ba u/\b3 v u/\∀N H M,bV K N H M v (.fn "Nothing")
 v_NotValid:∃u v,mg "NotValid"=ba u/\b3 v u/\∀N H M,bV K N H M v (.fn "NotValid")
 v_TooLong:∃u v,mg "TooLong"=ba u/\b3 v u/\∀N H M,bV K N H M v (.fn "TooLong")
 v_TooMany:∃u v,mg "TooMany"=ba u/\b3 v u/\∀N H M,bV K N H M v (.fn "TooMany")
 v_NoName:∃u v,mg "NoName"=ba u/\b3 v u/\∀N H M,bV K N H M v (.fn "NoName")
 v_NoText:∃u v,mg "NoText"=ba u/\b3 v u/\∀N H M,bV K N H M v (.fn "NoText")
 v_NoLoop:∃u v,mg "NoLoop"=ba u/\b3 v u/\∀N H M,bV K N H M v (.fn "NoLoop")
 v_NoTree:∃u v,mg "NoTree"=ba u/\b3 v u/\∀N H M,bV K N H M v (.fn "NoTree")
 v_NoProgram:∃u v,mg "NoProgram"=ba u/\b3 v u/\∀N H M,bV K N H M v (.fn "NoProgram")
 v_NoPlan:∃u v,mg "NoPlan"=ba u/\b3 v u/\∀N H M,bV K N H M v (.fn "NoPlan")
 v_NoLanes:∃u v,mg "NoLanes"=ba u/\b3 v u/\∀N H M,bV K N H M v (.fn "NoLanes")
 v_NoRow:∃u v,mg "NoRow"=ba u/\b3 v u/\∀N H M,bV K N H M v (.fn "NoRow")
 v_NoCells:∃u v,mg "NoCells"=ba u/\b3 v u/\∀N H M,bV K N H M v (.fn "NoCells")
 v_NoBlock:∃u v,mg "NoBlock"=ba u/\b3 v u/\∀N H M,bV K N H M v (.fn "NoBlock")
 c_Shop:G9 K "Shop" ["held","kept","sided","history"]
 x_NoBlock:∃C,XE K "NoBlock" C/\mg "NoBlock"=ba (.ref C)
 x_NoCells:∃C,XE K "NoCells" C/\mg "NoCells"=ba (.ref C)
 x_NoLanes:∃C,XE K "NoLanes" C/\mg "NoLanes"=ba (.ref C)
 x_NoName:∃C,XZ K "NoName" "name" C/\mg "NoName"=ba (.ref C)
 q_NoName:∃Cy,mg "NoName"=ba (.ref Cy)/\∀x∈MU,∀C,Cq K Ur x=ba (ba (.ref C))->XQ K C Cy (decide (x= "NoName"))
 x_NoPlan:∃C,XE K "NoPlan" C/\mg "NoPlan"=ba (.ref C)
 x_NotValid:∃C,XZ K "NotValid" "packs" C/\mg "NotValid"=ba (.ref C)
 q_NotValid:∃Cy,mg "NotValid"=ba (.ref Cy)/\∀x∈MU,∀C,Cq K Ur x=ba (ba (.ref C))->XQ K C Cy (decide (x= "NotValid"))
 x_Nothing:∃C,XE K "Nothing" C/\mg "Nothing"=ba (.ref C)
 xi:XI K MU TL
section
variable{P:Ao}{w:Uw}{K:Ag}{mg:Uq->Option Uo}{base:Uy}{f:Up}{fd:Bq}
abbrev Nx0:List Uq:=["thing","low","high"]
abbrev Qx0:List Uq:=["thing","low","high"]
def hZ:cO Nx0 Qx0 (c7 (top 20)):=bE
def mZ(F:aC K "is_whole" "is_whole" (top 20) f fd)(T:Txt K mg):bZ P w K mg base CX0 1 f fd Qx0 (spV K [] 3 bD):=
 W7 P w K mg base Nx0 Qx0 0 LR [] F hZ λ_ _ _ _ _ _ c b a=>by
  refine cX ?_ ?_;exact(b6 (WB (Y3 (bW (NH T.n_isinstance (vv 0) (G3 T.n_bool pM))) (Z0 (bP (bW (NH T.n_isinstance (vv 0) (G3 T.n_int eP)))))))
  (cW (cP bG))
  cN)
  exact cW (cP (tF J5 J5 AR AR (vv 1) (vv 0) (vv 2)))
abbrev Nx1:List Uq:=["deed"]
abbrev Qx1:List Uq:=["deed"]
def eZ:cO Nx1 Qx1 (c7 (top 39)):=bE
def nZ(F:aC K "parts_of" "parts_of" (top 39) f fd)(T:Txt K mg):bZ P w K mg base CX0 1 f fd Qx1 (spV K [] 1 X1):=
 W7 P w K mg base Nx1 Qx1 0 LW [] F eZ λ_ _ _ _ _ _ c b a=>by
  refine cX ?_ ?_;exact (b6 (bU (kInD b) (NZ (neg := be)) (vv 0) (b4 (by rfl) T.v_DEEDS) (by with_unfolding_all rfl))
  (cW (cP (b4 (by rfl) T.v_DEED_PARTS)))
  cN)
  exact cW (cP (C3 rfl a (b4 (by rfl) T.v_OTHER_PARTS) (vv 0) ⟨rfl,rfl,rfl,rfl⟩))
abbrev Nx2:List Uq:=["row"]
abbrev Qx2:List Uq:=["row"]
def uP:cO Nx2 Qx2 (c7 (top 40)):=bE
def pG(F:aC K "makes_word" "makes_word" (top 40) f fd)(T:Txt K mg):bZ P w K mg base CX0 1 f fd Qx2 (spV K [] 1 WF):=
 W7 P w K mg base Nx2 Qx2 0 PU [] F uP λ_ _ _ _ _ _ c b a=>by exact(cW (cP (XB (BV b) (NZ (neg:=bc)) (UM a (vv 0) cS) (b4 (by rfl) T.v_WRITERS) (by with_unfolding_all rfl))))
abbrev Nx3:List Uq:=["row"]
abbrev Qx3:List Uq:=["row"]
def mK:cO Nx3 Qx3 (c7 (top 41)):=bE
def dZ(F:aC K "place_of" "place_of" (top 41) f fd)(T:Txt K mg):bZ P w K mg base CX0 1 f fd Qx3 (spV K [] 1 Z4):=
 W7 P w K mg base Nx3 Qx3 0 LX [] F mK λ_ _ _ _ _ _ c b a=>by exact(cW (cP (KO (WB (Y3 (bU (kInD b) (NZ (neg:=be)) (UM a (vv 0) cS) (b4 (by rfl) T.v_READERS) (by with_unfolding_all rfl)) (Z0 (bU (kInD b) (NZ (neg:=be)) (UM a (vv 0) cS) (b4 (by rfl) T.v_WRITERS) (by with_unfolding_all rfl))))) (UM a (vv 0) cS) bM)))
abbrev Nx4:List Uq:=["row","deed","rest"]
abbrev Qx4:List Uq:=["row"]
def zHI:cO Nx4 Qx4 (c7 (top 42)):=bE
def hW(F:aC K "names_of" "names_of" (top 42) f fd)(T:Txt K mg)(b:b7 P w K mg base "parts_of" 1 Qx1 [] X1 f_x1):bZ P w K mg base CX0 2 f fd Qx4 (spV K [] 1 X0):=
 W7 P w K mg base Nx4 Qx4 1 LU [] F zHI λ_ _ _ _ _ _ e d c=>by
  refine cX ?_ ?_;exact(C7 (i:=1) (j:=2) rfl rfl zHI.nd rfl rfl (by decide) (Fj rfl) (Fj rfl) (vv 0));exact cW (cP (cA (ZY ["part","given"] [] 2 (E3 rfl (by rfl) T.n_zip (cQ (bL b e (cY (vv 1) cU))) (vv 2)) (λa _ _ _ _=>⟨(Q7 (K:=K) rfl rfl (aR (b5 a) (aR (b5 a) UI))),(E1 (Y2 d (vv 0) bX)),(vv 1)⟩))))
abbrev Nx5:List Uq:=["thing","able"]
abbrev Qx5:List Uq:=["thing","able"]
def qQ:cO Nx5 Qx5 (c7 (top 44)):=bE
def pJ(F:aC K "may_name" "may_name" (top 44) f fd)(T:Txt K mg)(c:b7 P w K mg base "is_whole" 1 Qx0 [] bD f_x0):bZ P w K mg base CX0 2 f fd Qx5 (spV K [] 2 T5):=
 W7 P w K mg base Nx5 Qx5 1 LS [] F qQ λ_ _ _ _ _ _ b d a=>by exact(cW (cP (VC (bL c b (cY (vv 0) (cY cS (cY (cQ (TH Yb Yg (YH T.n_len (vv 1)) cS)) cU)))) (XD (UM a (vv 1) (vv 0))))))
abbrev Nx6:List Uq:=["part","thing","able"]
abbrev Qx6:List Uq:=["part","thing","able"]
def nO:cO Nx6 Qx6 (c7 (top 45)):=bE
def lR(F:aC K "fits" "fits" (top 45) f fd)(T:Txt K mg)(c:b7 P w K mg base "is_whole" 1 Qx0 [] bD f_x0)(d:b7 P w K mg base "may_name" 2 Qx5 [] T5 f_x5):bZ P w K mg base CX0 3 f fd Qx6 (spV K [] 3 HB):=
 W7 P w K mg base Nx6 Qx6 2 Ym [] F nO λ_ _ _ _ _ _ a b e=>by
  refine cX ?_ ?_;exact(b6 (Y2 b (vv 0) bX)
  (cW (cP (bL c a (cY (vv 1) (cY cS (cY (cQ (b4 (by rfl) T.v_MOST_WORD)) cU))))))
  cN)
  refine cX ?_ ?_;exact(b6 (Y2 b (vv 0) bX)
  (cW (cP (bL c a (cY (vv 1) (cY cS (cY (cQ (b4 (by rfl) T.v_MOST_PLACE)) cU))))))
  cN)
  exact cW (cP (bL d a (cY (vv 1) (cY (vv 2) cU))))
abbrev Nx7:List Uq:=["thing","able","deed","rest","parts"]
abbrev Qx7:List Uq:=["thing","able"]
def zBW:cO Nx7 Qx7 (c7 (top 46)):=bE
def mG(F:aC K "is_row" "is_row" (top 46) f fd)(T:Txt K mg)(e:b7 P w K mg base "parts_of" 1 Qx1 [] X1 f_x1)(d:b7 P w K mg base "fits" 3 Qx6 [] HB f_x6):bZ P w K mg base CX0 4 f fd Qx7 (spV K [] 2 O8):=
 W7 P w K mg base Nx7 Qx7 3 FQ [] F zBW λ_ _ _ _ _ _ b a g=>by
  refine cX ?_ ?_;exact(b6 (WB (Y3 (bP (bW (NH T.n_isinstance (vv 0) (G3 T.n_tuple V1)))) (Z0 (Y2 a (YH T.n_len (vv 0)) cS))))
  (cW (cP bG))
  cN)
  refine cX ?_ ?_;exact(C7 (i:=2) (j:=3) rfl rfl zBW.nd rfl rfl (by decide) (Fj rfl) (Fj rfl) (vv 0));refine cX ?_ ?_;exact(bK zBW.nd (aF (cQ (KO (bW (NH T.n_isinstance (vv 2) (G3 T.n_str Xp))) (bL e b (cY (vv 2) cU)) bM))));refine cX ?_ ?_;exact(b6 (WB (Y3 (bU MC GI (vv 4) bM) (Z0 (bU (U7 a) VA (YH T.n_len (vv 4)) (YH T.n_len (vv 3))))))
  (cW (cP bG))
  cN)
  exact cW (cP (RK (DP rfl) ML (by rfl) T.n_all QT (cA (ZY ["able","part","given"] [1] 2 (E3 rfl (by rfl) T.n_zip (vv 4) (vv 3)) (λc _ _ _ _=>⟨(Q7 (K:=K) rfl rfl (aR (b5 c) (aR (b5 c) UI))),Y5,(cQ (bL d b (cY (vv 1) (cY (vv 2) (cY (vv 0) cU)))))⟩)))))
abbrev Nx8:List Uq:=["thing","sure","rows","able","row"]
abbrev Qx8:List Uq:=["thing"]
def GK:cO Nx8 Qx8 (c7 (top 47)):=bE
def oY(F:aC K "is_block" "is_block" (top 47) f fd)(T:Txt K mg)(g:b7 P w K mg base "is_whole" 1 Qx0 [] bD f_x0)(b:b7 P w K mg base "makes_word" 1 Qx2 [] WF f_x2)(c:b7 P w K mg base "is_row" 4 Qx7 [] O8 f_x7):bZ P w K mg base CX0 5 f fd Qx8 (spV K [] 1 aH):=
 W7 P w K mg base Nx8 Qx8 4 LN [] F GK λ_ _ _ _ _ _ a e d=>by
  refine cX ?_ ?_;exact(b6 (WB (Y3 (bP (bW (NH T.n_isinstance (vv 0) (G3 T.n_tuple V1)))) (Z0 (bU (U7 e) VA (YH T.n_len (vv 0)) cS))))
  (cW (cP bG))
  cN)
  refine cX ?_ ?_;exact(E4 (vv 0) (Q7 (K:=K) rfl rfl (aR (b5 GK.nd) (aR (b5 GK.nd) UI))));refine cX ?_ ?_;exact (b6 (bP (bW (bL g a (cY (vv 1) (cY cS (cY (cQ (b4 (by rfl) T.v_MOST_SURE)) cU))))))
  (cW (cP bG))
  cN)
  refine cX ?_ ?_;exact (b6 (WB (Y3 (bP (bW (NH T.n_isinstance (vv 2) (G3 T.n_tuple V1)))) (Z0 (bU Wl s_gt (YH T.n_len (vv 2)) (b4 (by rfl) T.v_MOST_ROWS)))))
  (cW (cP bG))
  cN)
  refine cX ?_ ?_;exact(bK GK.nd (KP (aZ (bQ cF))));refine cX ?_ ?_;exact(TJ Ec rfl (aA rfl (vv 2)) (b5 GK.nd)
  (cX (b6 (bP (bW (bL c a (cY (vv 4) (Y1 (pv 3) cU)))))
  (cW (cP bG))
  cN)
  (cW (MT Fz Ga RY Xi (pv 3) (bQ (cV (bL b a (cY (vv 4) cU)) cF))))))
  exact cW (cP bG)
abbrev Nx9:List Uq:=["row"]
abbrev Qx9:List Uq:=["row"]
def lY:cO Nx9 Qx9 (c7 (top 49)):=bE
def mI(F:aC K "writes" "writes" (top 49) f fd)(T:Txt K mg):bZ P w K mg base CX0 1 f fd Qx9 (spV K [] 1 XO):=
 W7 P w K mg base Nx9 Qx9 0 FR [] F lY λ_ _ _ _ _ _ c b a=>by exact(cW (cP (XB (kInD b) (NZ (neg:=be)) (UM a (vv 0) cS) (b4 (by rfl) T.v_WRITERS) (by with_unfolding_all rfl))))
abbrev Nx10:List Uq:=["row"]
abbrev Qx10:List Uq:=["row"]
def eI:cO Nx10 Qx10 (c7 (top 50)):=bE
def mX(F:aC K "is_safe_number" "is_safe_number" (top 50) f fd)(T:Txt K mg):bZ P w K mg base CX0 1 f fd Qx10 (spV K [] 1 Y8):=
 W7 P w K mg base Nx10 Qx10 0 UQ [] F eI λ_ _ _ _ _ _ c b a=>by exact(cW (cP (VC (veq b (UM a (vv 0) cS) bX) (XD (XB (U7 b) VA (UM a (vv 0) cS) cS)))))
abbrev Nx11:List Uq:=["block","at","sure","rows","row","place"]
abbrev Qx11:List Uq:=["block","at"]
def MM:cO Nx11 Qx11 (c7 (top 51)):=bE
def dR(F:aC K "can_fault" "can_fault" (top 51) f fd)(T:Txt K mg)(e:b7 P w K mg base "place_of" 1 Qx3 [] Z4 f_x3)(c:b7 P w K mg base "is_safe_number" 1 Qx10 [] Y8 f_x10):bZ P w K mg base CX0 2 f fd Qx11 (spV K [] 2 XN):=
 W7 P w K mg base Nx11 Qx11 1 NR [] F MM λ_ _ _ _ _ _ b d a=>by
  refine cX ?_ ?_;exact(E4 (vv 0) (Q7 (K:=K) rfl rfl (aR (b5 MM.nd) (aR (b5 MM.nd) UI))));refine cX ?_ ?_;exact(bK MM.nd (aF (cQ (UM a (vv 3) (vv 1)))));refine cX ?_ ?_;exact(b6 (Y2 d (UM a (vv 4) cS) bX)
  (cW (cP (Ys (bL c b (cY (cQ (UM a (vv 3) (UM a (vv 4) cS))) cU)))))
  cN)
  refine cX ?_ ?_;exact(bK MM.nd (aF (cQ (bL e b (cY (vv 4) cU)))));exact cW (cP (VC (XB CA Yq (vv 5) bM) (XD (XB Yo s_ge (vv 5) (vv 2)))))
abbrev Nx12:List Uq:=["row","other"]
abbrev Qx12:List Uq:=["row","other"]
def gQ:cO Nx12 Qx12 (c7 (top 52)):=bE
def fG(F:aC K "share_written_cell" "share_written_cell" (top 52) f fd)(T:Txt K mg)(c:b7 P w K mg base "place_of" 1 Qx3 [] Z4 f_x3)(b:b7 P w K mg base "writes" 1 Qx9 [] XO f_x9):bZ P w K mg base CX0 2 f fd Qx12 (spV K [] 2 Z6):=
 W7 P w K mg base Nx12 Qx12 1 XT [] F gQ λ_ _ _ _ _ _ a e d=>by exact(cW (cP (VC (veq e (bL c a (cY (vv 0) cU)) (bL c a (cY (vv 1) cU))) (XD (Vt (bL b a (cY (vv 0) cU)) (XD (bL b a (cY (vv 1) cU))))))))
abbrev Nx13:List Uq:=["block","first","second","rows","first_faults","second_faults"]
abbrev Qx13:List Uq:=["block","first","second"]
def EM:cO Nx13 Qx13 (c7 (top 53)):=bE
def lT(F:aC K "must_stay" "must_stay" (top 53) f fd)(T:Txt K mg)(g:b7 P w K mg base "names_of" 2 Qx4 [] X0 f_x4)(d:b7 P w K mg base "writes" 1 Qx9 [] XO f_x9)(c:b7 P w K mg base "can_fault" 2 Qx11 [] XN f_x11)(e:b7 P w K mg base "share_written_cell" 2 Qx12 [] Z6 f_x12):bZ P w K mg base CX0 3 f fd Qx13 (spV K [] 3 VH):=
 W7 P w K mg base Nx13 Qx13 2 NU [] F EM λ_ _ _ _ _ _ b h a=>by
  refine cX ?_ ?_;exact(bK EM.nd (aF (cQ (UM a (vv 0) cS))));refine cX ?_ ?_;exact (b6 (WB (Y3 (bU (kInD h) (NZ (neg := be)) (vv 1) (bL g b (cY (cQ (UM a (vv 3) (vv 2))) cU)) (by with_unfolding_all rfl)) (Z0 (bW (bL e b (cY (cQ (UM a (vv 3) (vv 1))) (cY (cQ (UM a (vv 3) (vv 2))) cU)))))))
  (cW (cP bG))
  cN)
  refine cX ?_ ?_;exact(sG (i:=4) (j:=5) rfl EM.nd rfl rfl (by decide) rfl rfl (aF (cQ (bL c b (cY (vv 0) (cY (vv 1) cU))))) (aF (cQ (bL c b (cY (vv 0) (cY (vv 2) cU))))) rfl);refine cX ?_ ?_;exact(b6 (WB (E5 (bW (vv 4)) (JA (bW (vv 5)))))
  (cW (cP bG))
  cN)
  exact cW (cP (Vt (VC (vv 4) (XD (bL d b (cY (cQ (UM a (vv 3) (vv 2))) cU)))) (XD (VC (vv 5) (XD (bL d b (cY (cQ (UM a (vv 3) (vv 1))) cU)))))))
abbrev Nx14:List Uq:=["block","many","pairs"]
abbrev Qx14:List Uq:=["block"]
def EN:cO Nx14 Qx14 (c7 (top 54)):=bE
def mJ(F:aC K "must_pairs" "must_pairs" (top 54) f fd)(T:Txt K mg)(c:b7 P w K mg base "must_stay" 3 Qx13 [] VH f_x13):bZ P w K mg base CX0 4 f fd Qx14 (spV K [] 1 YB):=
 W7 P w K mg base Nx14 Qx14 3 PX [] F EN λ_ _ _ _ _ _ d g a=>by
  refine cX ?_ ?_;exact(bK EN.nd (aF (cQ (YH T.n_len (UM a (vv 0) cS)))));refine cX ?_ ?_;exact(rV (i:=2) be EN.nd rfl rfl (N':=["many","first","second"]) (ix:=[1]) (nl:=2) rfl rfl (by rfl) rfl (by decide) (OY (by rfl) T.n_range (vv 1)) (λj e k h=>⟨(b5 (show(["many","first","second"]:List Uq).Nodup by decide+kernel)),Y5,(A2 (by rfl) T.n_range (aP VN YD (vv 1) cS) (vv 0)),(b5 (show(["many","first","second"]:List Uq).Nodup by decide+kernel)),Y5,(cQ (bH (cV (vv 1) (cV (vv 2) cF))))⟩));exact cW (cP (cA (ZY ["block","first","second"] [0] 2 (aA rfl (vv 2)) (λb _ _ _ _=>⟨(Q7 (K:=K) rfl rfl (aR (b5 b) (aR (b5 b) UI))),(E1 (bW (bL c d (cY (vv 0) (cY (vv 1) (cY (vv 2) cU)))))),(cQ (bH (cV (vv 1) (cV (vv 2) cF))))⟩))))
abbrev Nx15:List Uq:=["thing"]
abbrev Qx15:List Uq:=["thing"]
def iT:cO Nx15 Qx15 (c7 (top 58)):=bE
def gR(F:aC K "is_lanes" "is_lanes" (top 58) f fd)(T:Txt K mg)(c:b7 P w K mg base "is_whole" 1 Qx0 [] bD f_x0):bZ P w K mg base CX0 2 f fd Qx15 (spV K [] 1 XY):=
 W7 P w K mg base Nx15 Qx15 1 LQ [] F iT λ_ _ _ _ _ _ b d a=>by exact(cW (cP (bL c b (cY (vv 0) (cY (cQ (b4 (by rfl) T.v_LEAST_LANES)) (cY (cQ (b4 (by rfl) T.v_MOST_LANES)) cU))))))
abbrev Nx16:List Uq:=["rows","first","second","deed","place"]
abbrev Qx16:List Uq:=["rows","first","second"]
def EO:cO Nx16 Qx16 (c7 (top 59)):=bE
def fF(F:aC K "may_follow" "may_follow" (top 59) f fd)(T:Txt K mg)(d:b7 P w K mg base "place_of" 1 Qx3 [] Z4 f_x3):bZ P w K mg base CX0 2 f fd Qx16 (spV K [] 3 WG):=
 W7 P w K mg base Nx16 Qx16 1 PV [] F EO λ_ _ _ _ _ _ c b a=>by
  refine cX ?_ ?_;exact(bK EO.nd (aF (cQ (UM a (UM a (vv 0) (vv 1)) cS))));refine cX ?_ ?_;exact(b6 (WB (Y3 (bU Yo s_ge (vv 1) (vv 2)) (Y3 (Y2 b (vv 3) bX) (Z0 (bU (U7 b) VA (UM a (UM a (vv 0) (vv 2)) cS) (vv 3))))))
  (cW (cP bG))
  cN)
  refine cX ?_ ?_;exact(bK EO.nd (aF (cQ (bL d c (cY (cQ (UM a (vv 0) (vv 1))) cU)))));exact cW (cP (Vt (XB MC GI (vv 4) bM) (XD (veq b (bL d c (cY (cQ (UM a (vv 0) (vv 2))) cU)) (aP VN YD (vv 4) cS)))))
abbrev Nx17:List Uq:=["block","lanes","thing","rows"]
abbrev Qx17:List Uq:=["block","lanes","thing"]
def zCC:cO Nx17 Qx17 (c7 (top 60)):=bE
def jB(F:aC K "is_pack" "is_pack" (top 60) f fd)(T:Txt K mg)(h:b7 P w K mg base "is_whole" 1 Qx0 [] bD f_x0)(g:b7 P w K mg base "names_of" 2 Qx4 [] X0 f_x4)(e:b7 P w K mg base "may_follow" 2 Qx16 [] WG f_x16):bZ P w K mg base CX0 3 f fd Qx17 (spV K [] 3 RU):=
 W7 P w K mg base Nx17 Qx17 2 JS [] F zCC λ_ _ _ _ _ _ c d a=>by
  refine cX ?_ ?_;exact(bK zCC.nd (aF (cQ (UM a (vv 0) cS))));refine cX ?_ ?_;exact(b6 (WB (Y3 (bP (bW (NH T.n_isinstance (vv 2) (G3 T.n_tuple V1)))) (Z0 (bU (U7 d) VA (YH T.n_len (vv 2)) (vv 1)))))
  (cW (cP bG))
  cN)
  refine cX ?_ ?_;exact (b6 (bP (bW (RK (DP rfl) ML (by rfl) T.n_all QT (cA (ZY ["rows","row"] [3] 1 (aA rfl (vv 2)) (λb _ _ _ _ => ⟨(b5 b),Y5,(cQ (bL h c (cY (vv 1) (cY cS (cY (cQ (TH Yb Yg (YH T.n_len (vv 0)) cS)) cU)))))⟩))))))
  (cW (cP bG))
  cN)
  refine cX ?_ ?_;exact (b6 (bP (bW (RK (DP rfl) ML (by rfl) T.n_all QT (cA (ZY ["rows","first","second"] [3] 2 (E3 rfl (by rfl) T.n_zip (vv 2) (cQ (eK rfl (vv 2) (gW cS) jW))) (λb _ _ _ _ => ⟨(Q7 (K := K) rfl rfl (aR (b5 b) (aR (b5 b) UI))),Y5,(cQ (bL e c (cY (vv 0) (cY (vv 1) (cY (vv 2) cU)))))⟩))))))
  (cW (cP bG))
  cN)
  exact cW (cP (Ys (RK (kAny rfl) uV (by rfl) T.n_any gS (cA (G0 (N':=["thing","rows","row","name"]) (ix:=[2,3]) (nl:=2) rfl rfl (by rfl) rfl (by decide) (aA rfl (vv 2)) (λk i l j=>⟨(b5 (show(["thing","rows","row","name"]:List Uq).Nodup by decide+kernel)),Y5,(aA rfl (cQ (bL g c (cY (cQ (UM a (vv 1) (vv 2))) cU)))),(b5 (show(["thing","rows","row","name"]:List Uq).Nodup by decide+kernel)),Y5,(cQ (XB (kInD d) (NZ (neg:=be)) (vv 3) (vv 0) (by with_unfolding_all rfl)))⟩))))))
abbrev Nx18:List Uq:=["tuples"]
abbrev Qx18:List Uq:=["tuples"]
def sX:cO Nx18 Qx18 (c7 (top 61)):=bE
def tL(F:aC K "rows_within" "rows_within" (top 61) f fd)(T:Txt K mg):bZ P w K mg base CX0 1 f fd Qx18 (spV K [] 1 ZK):=
 W7 P w K mg base Nx18 Qx18 0 RG [] F sX λ_ _ _ _ _ _ d c a=>by exact(cW (cP (cA (G0 (N':=["rows","row"]) (ix:=[]) (nl:=2) rfl rfl (by rfl) rfl (by decide) (aA rfl (vv 0)) (λg b h e=>⟨(b5 (show(["rows","row"]:List Uq).Nodup by decide+kernel)),Y5,(aA rfl (vv 0)),(b5 (show(["rows","row"]:List Uq).Nodup by decide+kernel)),Y5,(vv 1)⟩)))))
abbrev Nx19:List Uq:=["block","lanes","thing","packed"]
abbrev Qx19:List Uq:=["block","lanes","thing"]
def zCB:cO Nx19 Qx19 (c7 (top 62)):=bE
def eD(F:aC K "fits_plan" "fits_plan" (top 62) f fd)(T:Txt K mg)(c:b7 P w K mg base "is_pack" 3 Qx17 [] RU f_x17)(g:b7 P w K mg base "rows_within" 1 Qx18 [] ZK f_x18):bZ P w K mg base CX0 4 f fd Qx19 (spV K [] 3 YL):=
 W7 P w K mg base Nx19 Qx19 3 NS [] F zCB λ_ _ _ _ _ _ b a d=>by
  refine cX ?_ ?_;exact (b6 (WB (Y3 (bP (bW (NH T.n_isinstance (vv 2) (G3 T.n_tuple V1)))) (Z0 (bP (bW (RK (DP rfl) ML (by rfl) T.n_all QT (cA (ZY ["block","lanes","pack"] [0,1] 1 (aA rfl (vv 2)) (λe _ _ _ _ => ⟨(b5 e),Y5,(cQ (bL c b (cY (vv 0) (cY (vv 1) (cY (vv 2) cU)))))⟩)))))))))
  (cW (cP bG))
  cN)
  refine cX ?_ ?_;exact(bK zCB.nd (aF (cQ (bL g b (cY (vv 2) cU)))));exact cW (cP (VC (veq a (sM T.n_len T.n_set (vv 3)) (YH T.n_len (vv 3))) (XD (veq a (cA (MS OK ZO (by rfl) T.ZO YY (vv 2))) (cA (Zd Yn BZ (by rfl) T.n_sorted OE (vv 2)))))))
abbrev Nx20:List Uq:=["block","lanes"]
abbrev KS:List Uq:=["block","lanes"]
def Yt:cO Nx20 KS (c7 (top 63)):=bE
def rZ(F:aC K "check_lanes" "check_lanes" (top 63) f fd)(T:Txt K mg)(d:b7 P w K mg base "is_block" 5 Qx8 [] aH f_x8)(c:b7 P w K mg base "is_lanes" 2 Qx15 [] XY f_x15):bZ P w K mg base CX0 6 f fd KS (spV K [] 2 ZJ):=
 W7 P w K mg base Nx20 KS 5 RF [] F Yt λ_ _ _ _ _ _ a e b=>by
  refine cX ?_ ?_;exact(b6 (bP (bW (bL d a (cY (vv 0) cU))))
  (cW ZZ)
  cN)
  exact cW (b6 (bP (bW (bL c a (cY (vv 1) cU))))
   (cW ZZ)
   cN)
def lD(F:aC K "check_lanes" "check_lanes" (top 63) f fd)(T:Txt K mg)(b:b7 P w K mg base "is_block" 5 Qx8 [] aH f_x8)(d:b7 P w K mg base "is_lanes" 2 Qx15 [] XY f_x15):bZ P w K mg base (T1 P w) 6 f fd KS (QQ K 2 XV):=
 okZ P w K mg base Nx20 KS 5 RL F Yt λ_ _ _ _ _ _ a e c=>by
  exact(ZP (cJ (YQ (bP (bW (bL b a (cY (vv 0) cU)))) (cJ (YI rfl WV rfl (by rfl) T.x_NoBlock)) Z1))
   (aG (b6 (bP (bW (bL b a (cY (vv 0) cU))))
   (cW ZZ)
   cN)
   (cJ (YQ (bP (bW (bL d a (cY (vv 1) cU)))) (cJ (YI rfl WV rfl (by rfl) T.x_NoLanes)) Z1))))
abbrev Nx21:List Uq:=["block","lanes","plan"]
abbrev HC:List Uq:=["block","lanes","plan"]
def Ze:cO Nx21 HC (c7 (top 64)):=bE
def iC(F:aC K "check_plan" "check_plan" (top 64) f fd)(T:Txt K mg)(c:b7 P w K mg base "fits_plan" 4 Qx19 [] YL f_x19)(d:b7 P w K mg base "check_lanes" 6 KS [] ZJ f_x20):bZ P w K mg base CX0 7 f fd HC (spV K [] 3 WE):=
 W7 P w K mg base Nx21 HC 6 PR [] F Ze λ_ _ _ _ _ _ a e b=>by
  refine cX ?_ ?_;exact(VR (bL d a (cY (vv 0) (cY (vv 1) cU))));exact cW (b6 (bP (bW (bL c a (cY (vv 0) (cY (vv 1) (cY (vv 2) cU))))))
   (cW ZZ)
   cN)
def iI(F:aC K "check_plan" "check_plan" (top 64) f fd)(T:Txt K mg)(d:b7 P w K mg base "fits_plan" 4 Qx19 [] YL f_x19)(e:b7 P w K mg base "check_lanes" 6 KS [] ZJ f_x20)(c:DefX P w K mg base "check_lanes" 6 KS XV f_x20):bZ P w K mg base (T1 P w) 7 f fd HC (QQ K 3 WO):=
 okZ P w K mg base Nx21 HC 6 QO F Ze λ_ _ _ _ _ _ a g b=>by
  exact(ZP (cJ (M9 (C8 WU rfl c a (by decide) (by rfl) rfl (cY (vv 0) (cY (vv 1) cU)))))
   (aG (VR (bL e a (cY (vv 0) (cY (vv 1) cU))))
   (cJ (YQ (bP (bW (bL d a (cY (vv 0) (cY (vv 1) (cY (vv 2) cU)))))) (cJ (YI rfl WV rfl (by rfl) T.x_NoPlan)) Z1))))
abbrev Nx22:List Uq:=["block","plan","packed"]
abbrev Qx22:List Uq:=["block","plan"]
def zC8:cO Nx22 Qx22 (c7 (top 65)):=bE
def tW(F:aC K "rows_alone" "rows_alone" (top 65) f fd)(T:Txt K mg)(e:b7 P w K mg base "rows_within" 1 Qx18 [] ZK f_x18):bZ P w K mg base CX0 2 f fd Qx22 (spV K [] 2 WH):=
 W7 P w K mg base Nx22 Qx22 1 PY [] F zC8 λ_ _ _ _ _ _ c b a=>by
  refine cX ?_ ?_;exact(bK zC8.nd (aF (cQ (bL e c (cY (vv 1) cU)))));exact cW (cP (cA (ZY ["packed","row"] [2] 1 (OY (by rfl) T.n_range (YH T.n_len (UM a (vv 0) cS))) (λd _ _ _ _=>⟨(b5 d),(E1 (bU (BV b) (NZ (neg:=bc)) (vv 1) (vv 0) (by with_unfolding_all rfl))),(vv 1)⟩))))
abbrev Nx23:List Uq:=["block","plan"]
abbrev Qx23:List Uq:=["block","plan"]
def oS:cO Nx23 Qx23 (c7 (top 66)):=bE
def jO(F:aC K "nodes_of" "nodes_of" (top 66) f fd)(T:Txt K mg)(a:b7 P w K mg base "rows_alone" 2 Qx22 [] WH f_x22):bZ P w K mg base CX0 3 f fd Qx23 (spV K [] 2 VU):=
 W7 P w K mg base Nx23 Qx23 2 LV [] F oS λ_ _ _ _ _ _ c e b=>by exact(cW (cP (cA (Zd Yn BZ (by rfl) T.n_sorted OE (Vl (aP VN YD (cA (MS OK ZO (by rfl) T.ZO YY (vv 1))) (cA (ZY ["row"] [] 1 (aA rfl (cQ (bL a c (cY (vv 0) (cY (vv 1) cU))))) (λd _ _ _ _=>⟨(b5 d),Y5,(cQ (bH (cV (vv 0) cF)))⟩)))))))))
abbrev Nx24:List Uq:=["pairs","nodes","node_of","waits","first","second"]
abbrev Qx24:List Uq:=["pairs","nodes"]
def MN:cO Nx24 Qx24 (c7 (top 67)):=bE
def eR(F:aC K "waits_of" "waits_of" (top 67) f fd)(T:Txt K mg):bZ P w K mg base CX0 1 f fd Qx24 (spV K [] 2 VV):=
 W7 P w K mg base Nx24 Qx24 0 LY [] F MN λ_ _ _ _ _ _ d c a=>by
  exact(cX (gH a MN.nd ["node","row"] (aA rfl (vv 1)) (λb _ _ _ _=>⟨RZ b rfl (.inl rfl),pv 0,RZ b rfl (.inl rfl),pv 1,pv 0⟩))
   (gP (iw:=3) (i1:=4) (i2:=5) a MN.nd ["node"] (aA rfl (vv 1)) (λb _ _ _ _=>⟨RZ b rfl (.inl rfl),pv 0⟩) Ec (aA rfl (vv 0)) (Yd rfl (MF (RZ MN.nd rfl (.inl rfl)) (MF (RZ MN.nd rfl (.inl rfl)) CD))) (bU (U7 c) VA (UM a (vo 2) (vv 4)) (UM a (vo 2) (vv 5))) (pv 3) (cQ (UM a (vo 2) (vv 5))) (cQ (UM a (vo 2) (vv 4)))
   (cW (C6 (pv 3)))))
abbrev Nx25:List Uq:=["nodes","waits","settled","node"]
abbrev Qx25:List Uq:=["nodes","waits","settled"]
def zC7:cO Nx25 Qx25 (c7 (top 68)):=bE
def dG(F:aC K "next_node" "next_node" (top 68) f fd)(T:Txt K mg):bZ P w K mg base CX0 1 f fd Qx25 (spV K [] 3 VJ):=
 W7 P w K mg base Nx25 Qx25 0 NV [] F zC7 λ_ _ _ _ _ _ d c a=>by
  refine cX ?_ ?_;exact(TJ Ec rfl (aA rfl (vv 0)) (b5 zC7.nd)
  (cW (b6 (WB (E5 (bU (pC a) Wx (vv 3) (vv 2) (by with_unfolding_all rfl)) (JA (bW (RK (DP rfl) ML (by rfl) T.n_all QT (cA (ZY ["settled","other"] [2] 1 (aA rfl (cQ (vixT a (vv 1) (vv 3)))) (λb _ _ _ _=>⟨(b5 b),Y5,(cQ (XB (gD a) Wx (vv 1) (vv 0) (by with_unfolding_all rfl)))⟩))))))))
  (cW (cP (vv 3)))
  cN)))
  exact cW (cP bM)
abbrev Nx26:List Uq:=["pairs","nodes","waits","settled","node"]
abbrev Qx26:List Uq:=["pairs","nodes"]
def IL:cO Nx26 Qx26 (c7 (top 69)):=bE
def lP(F:aC K "ordered_by" "ordered_by" (top 69) f fd)(T:Txt K mg)(c:b7 P w K mg base "waits_of" 1 Qx24 [] VV f_x24)(d:b7 P w K mg base "next_node" 1 Qx25 [] VJ f_x25):bZ P w K mg base CX0 2 f fd Qx26 (spV K [] 2 Y9):=
 W7 P w K mg base Nx26 Qx26 1 UC [] F IL λ_ _ _ _ _ _ b e a=>by
  refine cX ?_ ?_;exact(bK IL.nd (aF (cQ (bL c b (cY (vv 0) (cY (vv 1) cU))))));refine cX ?_ ?_;exact(bK IL.nd (KP jC));refine cX ?_ ?_;exact (fY Ec (bU NY GJ (RK sB rQ (by rfl) T.n_len DE (vo 3)) (YH T.n_len (vv 1)))
  (cX (bK IL.nd (aF (cQ (bL d b (cY (vv 1) (cY (vv 2) (Y1 (pv 3) cU)))))))
  (cX (b6 (bU MC GI (vv 4) bM)
  (cW (cP bM))
  cN)
  (cW (oR a (pv 3) (vv 4) bG)))))
  exact cW (cP (cA (MS (sK rfl) uQ (by rfl) T.ZO YY (Vl (vo 3)))))
abbrev Nx27:List Uq:=["block","plan"]
abbrev Qx27:List Uq:=["block","plan"]
def jN:cO Nx27 Qx27 (c7 (top 70)):=bE
def sQ(F:aC K "ordered" "ordered" (top 70) f fd)(T:Txt K mg)(b:b7 P w K mg base "must_pairs" 4 Qx14 [] YB f_x14)(c:b7 P w K mg base "nodes_of" 3 Qx23 [] VU f_x23)(d:b7 P w K mg base "ordered_by" 2 Qx26 [] Y9 f_x26):bZ P w K mg base CX0 5 f fd Qx27 (spV K [] 2 WD):=
 W7 P w K mg base Nx27 Qx27 4 OJ [] F jN λ_ _ _ _ _ _ a g e=>by exact(cW (cP (bL d a (cY (cQ (bL b a (cY (vv 0) cU))) (cY (cQ (bL c a (cY (vv 0) (cY (vv 1) cU)))) cU)))))
abbrev Nx28:List Uq:=["thing","sure"]
abbrev FA:List Uq:=["thing","sure"]
def iQ:cO Nx28 FA (c7 (top 77)):=bE
def pI(F:aC K "is_cells" "is_cells" (top 77) f fd)(T:Txt K mg)(d:b7 P w K mg base "is_whole" 1 Qx0 [] bD f_x0):bZ P w K mg base CX0 2 f fd FA (spV K [] 2 Z3):=
 W7 P w K mg base Nx28 FA 1 LP [] F iQ λ_ _ _ _ _ _ b e a=>by
  refine cX ?_ ?_;exact (b6 (WB (Y3 (bP (bW (NH T.n_isinstance (vv 0) (G3 T.ZO YY)))) (Z0 (bP (G2 J5 J5 AR AR (vv 1) (YH T.n_len (vv 0)) (b4 (by rfl) T.v_MOST_CELLS))))))
  (cW (cP bG))
  cN)
  exact cW (cP (RK (DP rfl) ML (by rfl) T.n_all QT (cA (ZY ["word"] [] 1 (aA rfl (vv 0)) (λc _ _ _ _=>⟨(b5 c),Y5,(cQ (bL d b (cY (vv 0) (cY cS (cY (cQ (b4 (by rfl) T.v_MOST_WORD)) cU)))))⟩)))))
abbrev Nx29:List Uq:=["thing"]
abbrev FC:List Uq:=["thing"]
def sI:cO Nx29 FC (c7 (top 100)):=bE
def gM(F:aC K "is_name" "is_name" (top 100) f fd)(T:Txt K mg):bZ P w K mg base CX0 1 f fd FC (spV K [] 1 ZV):=
 W7 P w K mg base Nx29 FC 0 JR [] F sI λ_ _ _ _ _ _ d c a=>by
  refine cX ?_ ?_;exact (b6 (WB (Y3 (bP (bW (NH T.n_isinstance (vv 0) (G3 T.n_str Xp)))) (Z0 (bP (G2 J5 J5 AR AR cS (YH T.n_len (vv 0)) (b4 (by rfl) T.v_MOST_LETTERS))))))
  (cW (cP bG))
  cN)
  exact cW (cP (RK (DP rfl) ML (by rfl) T.n_all QT (cA (ZY ["sign"] [] 1 (dW (vv 0)) (λb _ _ _ _=>⟨(b5 b),Y5,(cQ (XB mS eY (vv 0) (b4 (by rfl) T.v_LETTERS) (by with_unfolding_all rfl)))⟩)))))
abbrev Nx30:List Uq:=["table","name","thing","grown"]
abbrev Qx30:List Uq:=["table","name","thing"]
def zC6:cO Nx30 Qx30 (c7 (top 101)):=bE
def iB(F:aC K "with_entry" "with_entry" (top 101) f fd)(T:Txt K mg):bZ P w K mg base CX0 1 f fd Qx30 (spV K [] 3 WI):=
 W7 P w K mg base Nx30 Qx30 0 PZ [] F zC6 λ_ _ _ _ _ _ c b a=>by
  refine cX ?_ ?_;exact(bK zC6.nd (KP (eE rfl (by rfl) T.n_dict oQ (vv 0))));refine cX ?_ ?_;exact(uw a (pv 3) (vv 1) (vv 2) rfl);exact cW (C6 (pv 3))
abbrev Nx31:List Uq:=["table","name"]
abbrev Qx31:List Uq:=["table","name"]
def gX:cO Nx31 Qx31 (c7 (top 102)):=bE
def uX(F:aC K "without_entry" "without_entry" (top 102) f fd)(T:Txt K mg):bZ P w K mg base CX0 1 f fd Qx31 (spV K [] 2 YW):=
 W7 P w K mg base Nx31 Qx31 0 T3 [] F gX λ_ _ _ _ _ _ c b a=>by exact(cW (cP (cA (A3 ["table","name","key"] [0,1] (vv 0)))))
abbrev Nx32:List Uq:=["_law_script","_law_k","_law_rest","_law_again"]
abbrev Qx32:List Uq:=["_law_script","_law_k"]
def IM:cO Nx32 Qx32 (c7 (top 105)):=bE
def oW(F:aC K "_law_cell_at" "_law_cell_at" (top 105) f fd)(T:Txt K mg):bZ P w K mg base CX0 1 f fd Qx32 (spV K [] 2 aM):=
 W7 P w K mg base Nx32 Qx32 0 U6 [] F IM λ_ _ _ _ _ _ c b a=>by
  refine cX ?_ ?_;exact(b6 (bU NY GJ (vv 1) (YH T.n_len (vv 0)))
  (cW (cP (UM a (vv 0) (vv 1))))
  cN)
  refine cX ?_ ?_;exact(b6 (Y2 b (vv 0) (cA (aZ (bQ cF))))
  (cW (cP cS))
  cN)
  refine cX ?_ ?_;exact(bK IM.nd (aF (cQ (UM a (vv 0) (TH OR KB (vv 1) (YH T.n_len (vv 0)))))));refine cX ?_ ?_;exact (TJ Ec rfl (OY (by rfl) T.n_range (YG (nF rfl) lG (by rfl) T.n_min jR (TH B9 Wy (vv 1) (YH T.n_len (vv 0))) cS)) (b5 IM.nd)
  (cW (bK IM.nd (aF (cQ (TH B9 Wy (vv 2) cS))))))
  exact cW (cP (aP VN YD (aP VN YD (aP HR M0 (UM a (vv 0) (TH OR KB (vv 1) (YH T.n_len (vv 0)))) cS) (vv 1)) (aP HR M0 (vv 2) cS)))
abbrev Nx33:List Uq:=["_law_script","_law_k","_law_bound","_law_drawn"]
abbrev Qx33:List Uq:=["_law_script","_law_k","_law_bound"]
def zC5:cO Nx33 Qx33 (c7 (top 106)):=bE
def rK(F:aC K "_law_mixed" "_law_mixed" (top 106) f fd)(T:Txt K mg)(a:b7 P w K mg base "_law_cell_at" 1 Qx32 [] aM f_x32):bZ P w K mg base CX0 2 f fd Qx33 (spV K [] 3 YM):=
 W7 P w K mg base Nx33 Qx33 1 SN [] F zC5 λ_ _ _ _ _ _ c d b=>by
  refine cX ?_ ?_;exact(bK zC5.nd (aF (cQ (TH OR KB (aP VN YD (aP VN YD (aP HR M0 (bL a c (cY (vv 0) (cY (vv 1) cU))) cS) (aP HR M0 cS (vv 1))) cS) cS))));exact cW (cP (TH OR KB (TH OR KB (TH OR KB (TH kO sH (vv 3) cS) cS) cS) (vv 2)))
abbrev Nx34:List Uq:=["_law_script","_law_town","_law_bound"]
abbrev Qx34:List Uq:=["_law_script","_law_town","_law_bound"]
def lJ:cO Nx34 Qx34 (c7 (top 107)):=bE
def iK(F:aC K "_law_draw" "_law_draw" (top 107) f fd)(T:Txt K mg)(a:b7 P w K mg base "_law_mixed" 2 Qx33 [] YM f_x33):bZ P w K mg base CX0 3 f fd Qx34 (spV K [1] 3 ZM):=
 W7 P w K mg base Nx34 Qx34 2 QY [1] F lJ λ_ _ _ _ _ _ c d b=>by
  refine cX ?_ ?_;exact(MT Fz Ga RY Xi (pv 1) (bQ (cV cS cF)));exact cW (cP (bL a c (cY (vv 0) (cY (cQ (YH T.n_len (vo 1))) (cY (vv 2) cU)))))
abbrev Nx35:List Uq:=["_law_script","_law_town","_law_some"]
abbrev Qx35:List Uq:=["_law_script","_law_town","_law_some"]
def fQ:cO Nx35 Qx35 (c7 (top 108)):=bE
def eM(F:aC K "_law_pick" "_law_pick" (top 108) f fd)(T:Txt K mg)(c:b7 P w K mg base "_law_draw" 3 Qx34 [1] ZM f_x34):bZ P w K mg base CX0 4 f fd Qx35 (spV K [1] 3 YS):=
 W7 P w K mg base Nx35 Qx35 3 Q0 [1] F fQ λ_ _ _ _ _ _ b d a=>by exact(cW (cP (UM a (vv 2) (bL c b (cY (vv 0) (Y1 (pv 1) (cY (cQ (YH T.n_len (vv 2))) cU)))))))
abbrev Nx36:List Uq:=["_law_e","_law_own"]
abbrev Qx36:List Uq:=["_law_e"]
def zC4:cO Nx36 Qx36 (c7 (top 109)):=bE
def jK(F:aC K "_law_which" "_law_which" (top 109) f fd)(T:Txt K mg):FnH P w K mg base 1 f fd Qx36 (spV K [] 1 VE):=
 okWH P w K mg base Nx36 Qx36 0 NT [] F zC4 λ_ _ _ _ _ c b a=>by
  refine cX ?_ ?_;exact(bK zC4.nd (KP (aZ (bQ (cV (YG Q2 (V8 T.xi) (by rfl) T.n_isinstance b8 (vv 0) (b4 (by rfl) T.v_NoBlock)) (cV (YG Q2 (V8 T.xi) (by rfl) T.n_isinstance b8 (vv 0) (b4 (by rfl) T.v_NoCells)) (cV (YG Q2 (V8 T.xi) (by rfl) T.n_isinstance b8 (vv 0) (b4 (by rfl) T.v_NoRow)) (cV (YG Q2 (V8 T.xi) (by rfl) T.n_isinstance b8 (vv 0) (b4 (by rfl) T.v_NoLanes)) cF))))))));refine cX ?_ ?_;exact(MT Hx Hy (Wf (K:=K) rfl) DU (pv 1) (bQ (cV (cA (aZ (bQ (cV (YG Q2 (V8 T.xi) (by rfl) T.n_isinstance b8 (vv 0) (b4 (by rfl) T.v_NoPlan)) (cV (YG Q2 (V8 T.xi) (by rfl) T.n_isinstance b8 (vv 0) (b4 (by rfl) T.v_NoProgram)) (cV (YG Q2 (V8 T.xi) (by rfl) T.n_isinstance b8 (vv 0) (b4 (by rfl) T.v_NoTree)) (cV (YG Q2 (V8 T.xi) (by rfl) T.n_isinstance b8 (vv 0) (b4 (by rfl) T.v_NoLoop)) cF))))))) cF)));refine cX ?_ ?_;exact(MT Hx Hy (Wf (K:=K) rfl) DU (pv 1) (bQ (cV (cA (aZ (bQ (cV (YG Q2 (V8 T.xi) (by rfl) T.n_isinstance b8 (vv 0) (b4 (by rfl) T.v_NoText)) (cV (YG Q2 (V8 T.xi) (by rfl) T.n_isinstance b8 (vv 0) (b4 (by rfl) T.v_NoName)) (cV (YG Q2 (V8 T.xi) (by rfl) T.n_isinstance b8 (vv 0) (b4 (by rfl) T.v_TooMany)) (cV (YG Q2 (V8 T.xi) (by rfl) T.n_isinstance b8 (vv 0) (b4 (by rfl) T.v_TooLong)) cF))))))) cF)));refine cX ?_ ?_;exact(MT Hx Hy (Wf (K:=K) rfl) DU (pv 1) (bQ (cV (cA (aZ (bQ (cV (YG Q2 (V8 T.xi) (by rfl) T.n_isinstance b8 (vv 0) (b4 (by rfl) T.v_NotValid)) (cV (YG Q2 (V8 T.xi) (by rfl) T.n_isinstance b8 (vv 0) (b4 (by rfl) T.v_Nothing)) cF))))) cF)));refine cX ?_ ?_;exact (b6 (WB (Y3 (bU (U7 b) VA (Yy rfl PySem.F.slot_list_count PySem.F.type_list_count iM pK (vo 1) bG) cS) (Z0 (bP (bW (YG Q2 (V8 T.xi) (by rfl) T.n_isinstance b8 (vv 0) (G3 T.n_ValueError K0)))))))
  (cW (cP (bH (cV bX (cV (E2 cS) cF)))))
  cN)
  exact cW (cP (bH (cV bX (cV (Yy rfl PySem.F.slot_list_index PySem.F.type_list_index eU tP (vo 1) bG) cF))))
abbrev Nx37:List Uq:=["_law_script","_law_town","_law_some"]
abbrev Qx37:List Uq:=["_law_script","_law_town"]
def OU:cO Nx37 Qx37 (c7 (top 110)):=bE
def mQ(F:aC K "_law_none" "_law_none" (top 110) f fd)(T:Txt K mg)(a:b7 P w K mg base "_law_pick" 4 Qx35 [1] YS f_x35):bZ P w K mg base CX0 5 f fd Qx37 (spV K [1] 2 YR):=
 W7 P w K mg base Nx37 Qx37 4 QZ [1] F OU λ_ _ _ _ _ _ c d b=>by
  refine cX ?_ ?_;exact(@bK _ _ _ _ _ _ _ _ _ OU.nd (@aF _ _ _ _ _ _ (@cA _ _ _ _ _ _ (@Q8 _ _ _ 3 _ _ _ rfl (by decide)))) rfl (by first|exact .inl rfl|exact .inr rfl) (by decide) rfl (by first|exact .inl rfl|exact .inr rfl|assumption));refine cX ?_ ?_;exact(@bK _ _ _ _ _ _ _ _ _ OU.nd (@aF _ _ _ _ _ _ (@cQ _ _ _ _ _ _ _ _ (@aP _ _ _ _ _ _ _ _ _ _ _ _ _ _ _ _ _ VN YD (@vv _ _ _ _ _ 2 rfl (by first|exact Fj rfl|exact Eg (Fj rfl)|exact Eg (Eg rfl)) (by decide) (by decide)) (@cA _ _ _ _ _ _ (@Q8 _ _ _ 3 _ _ _ rfl (by decide))) rfl) rfl)) rfl (by first|exact .inl rfl|exact .inr rfl) (by decide) rfl (by first|exact .inl rfl|exact .inr rfl|assumption));refine cX ?_ ?_;exact(@bK _ _ _ _ _ _ _ _ _ OU.nd (@aF _ _ _ _ _ _ (@cQ _ _ _ _ _ _ _ _ (@aP _ _ _ _ _ _ _ _ _ _ _ _ _ _ _ _ _ VN YD (@vv _ _ _ _ _ 2 rfl (by first|exact Fj rfl|exact Eg (Fj rfl)|exact Eg (Eg rfl)) (by decide) (by decide)) (@cA _ _ _ _ _ _ (@Q8 _ _ _ 3 _ _ _ rfl (by decide))) rfl) rfl)) rfl (by first|exact .inl rfl|exact .inr rfl) (by decide) rfl (by first|exact .inl rfl|exact .inr rfl|assumption));refine cX ?_ ?_;exact(@bK _ _ _ _ _ _ _ _ _ OU.nd (@aF _ _ _ _ _ _ (@cQ _ _ _ _ _ _ _ _ (@aP _ _ _ _ _ _ _ _ _ _ _ _ _ _ _ _ _ VN YD (@vv _ _ _ _ _ 2 rfl (by first|exact Fj rfl|exact Eg (Fj rfl)|exact Eg (Eg rfl)) (by decide) (by decide)) (@cA _ _ _ _ _ _ (@aZ _ _ _ _ _ _ _ (@bQ _ _ _ _ _ _ _ (@cV _ _ _ _ _ _ _ _ _ _ _ _ (@Q6 _ _ _ 3 _ _ rfl) (@cV _ _ _ _ _ _ _ _ _ _ _ _ (@bH _ _ _ _ _ _ _ _ _ (@cV _ _ _ _ _ _ _ _ _ _ _ _ cS (@cV _ _ _ _ _ _ _ _ _ _ _ _ (@aP _ _ _ _ _ _ _ _ _ _ _ _ _ _ _ _ _ kRep JN (@Q6 _ _ _ 2 _ _ rfl) cS rfl) cF rfl rfl rfl) rfl rfl rfl)) cF rfl rfl rfl) rfl rfl rfl) rfl))) rfl) rfl)) rfl (by first|exact .inl rfl|exact .inr rfl) (by decide) rfl (by first|exact .inl rfl|exact .inr rfl|assumption));refine cX ?_ ?_;exact(@bK _ _ _ _ _ _ _ _ _ OU.nd (@aF _ _ _ _ _ _ (@cQ _ _ _ _ _ _ _ _ (@aP _ _ _ _ _ _ _ _ _ _ _ _ _ _ _ _ _ VN YD (@vv _ _ _ _ _ 2 rfl (by first|exact Fj rfl|exact Eg (Fj rfl)|exact Eg (Eg rfl)) (by decide) (by decide)) (@cA _ _ _ _ _ _ (@Q8 _ _ _ 3 _ _ _ rfl (by decide))) rfl) rfl)) rfl (by first|exact .inl rfl|exact .inr rfl) (by decide) rfl (by first|exact .inl rfl|exact .inr rfl|assumption));exact cW (cP (bL a c (cY (vv 0) (Y1 (pv 1) (cY (vv 2) cU)))))
abbrev Nx57:List Uq:=["self","cells"]
abbrev Qx57:List Uq:=["self","cells"]
def pL:cO Nx57 Qx57 (c7 (mem 103 0)):=bE
def sO{c:Uo}(F:LA K "__init__" "Shop.__init__" (mem 103 0) c f fd)(T:Txt K mg)(d:b7 P w K mg base "is_cells" 2 FA [] Z3 f_x28):bZ P w K mg base (T1 P w) 3 f fd Qx57 (QQ K 2 ZA):=
 okZD P w K mg base Nx57 Qx57 2 U3 F pL λ_ _ _ _ _ _ b e a=>by exact(cJ (YQ (WB (Y3 (bP (bW (YG Yk Wq (by rfl) T.n_isinstance b8 (vv 1) (bH (cV (G3 T.ZO YY) (cV (G3 T.n_tuple V1) cF)))))) (Z0 (bP (bW (bL d b (cY (cA (MS OK ZO (by rfl) T.ZO YY (vv 1))) (cY cS cU)))))))) (cJ (YI rfl WV rfl (by rfl) T.x_NoCells)) Z1))
abbrev Nx58:List Uq:=["self","name","block","kept"]
abbrev Qx58:List Uq:=["self","name","block"]
def jQ:cO Nx58 Qx58 (c7 (mem 103 3)):=bE
def lO(F:aC K "keep" "Shop.keep" (mem 103 3) f fd)(T:Txt K mg)(d:b7 P w K mg base "is_block" 5 Qx8 [] aH f_x8)(b:b7 P w K mg base "is_name" 1 FC [] ZV f_x29):bZ P w K mg base (T1 P w) 6 f fd Qx58 (QQ K 3 WN):=
 okZ P w K mg base Nx58 Qx58 5 QM F jQ λ_ _ _ _ _ _ a e c=>by
  exact(ZP (cJ (YQ (bP (bW (bL b a (cY (vv 1) cU)))) (cJ (R7 rfl M8 rfl a (by rfl) T.x_NoName (λ_=>T.fnm _ _) (cY (vv 1) cU))) Z1))
   (aG (b6 (bP (bW (bL b a (cY (vv 1) cU))))
   (cW ZZ)
   cN)
   (cJ (YQ (bP (bW (bL d a (cY (vv 2) cU)))) (cJ (YI rfl WV rfl (by rfl) T.x_NoBlock)) Z1))))
abbrev Nx42:List Uq:=["self","name"]
abbrev T7:List Uq:=["self","name"]
def Xj:cO Nx42 T7 (c7 (mem 103 1)):=bE
def oF(F:aC K "known" "Shop.known" (mem 103 1) f fd)(T:Txt K mg)(c:b7 P w K mg base "is_name" 1 FC [] ZV f_x29):bZ P w K mg base CX0 2 f fd T7 (spV K [] 2 bJ):=
 W7 P w K mg base Nx42 T7 1 PP [] F Xj λ_ _ _ _ _ _ b d a=>by
  refine cX ?_ ?_;exact (b6 (WB (Y3 (bP (bW (bL c b (cY (vv 1) cU)))) (Z0 (bU (IB rfl a) EL (vv 1) (Z5 rfl T.c_Shop (vv 0)) (by with_unfolding_all rfl)))))
  (cW ZZ)
  cN)
  exact cW (cP (UM a (Z5 rfl T.c_Shop (vv 0)) (vv 1)))
def uD(F:aC K "known" "Shop.known" (mem 103 1) f fd)(T:Txt K mg)(c:b7 P w K mg base "is_name" 1 FC [] ZV f_x29):bZ P w K mg base (T1 P w) 2 f fd T7 (QQ K 2 bF):=
 okZ P w K mg base Nx42 T7 1 QN F Xj λ_ _ _ _ _ _ b d a=>by exact(cJ (YQ (WB (Y3 (bP (bW (bL c b (cY (vv 1) cU)))) (Z0 (bU (IB rfl a) EL (vv 1) (Z5 rfl T.c_Shop (vv 0)) (by with_unfolding_all rfl))))) (cJ (R7 rfl M8 rfl b (by rfl) T.x_NoName (λ_=>T.fnm _ _) (cY (vv 1) cU))) Z1))
abbrev Nx45:List Uq:=["self","name","plan","lanes","block"]
abbrev Qx45:List Uq:=["self","name","plan","lanes"]
def zC0:cO Nx45 Qx45 (c7 (mem 103 4)):=bE
def uJ(F:aC K "pack" "Shop.pack" (mem 103 4) f fd)(T:Txt K mg)(b:b7 P w K mg base "check_plan" 7 HC [] WE f_x21)(c:b7 P w K mg base "ordered" 5 Qx27 [] WD f_x27)(g:Y4 P w K mg base "Shop" "known" 2 T7 (spV K [] 2 bJ) f_x42)(e:DefX P w K mg base "check_plan" 7 HC WO f_x21)(h:ZD P w K mg base "Shop" "known" 2 T7 bF f_x42):bZ P w K mg base (T1 P w) 8 f fd Qx45 (QQ K 4 YN):=
 okZ P w K mg base Nx45 Qx45 7 TR F zC0 λ_ _ _ _ _ _ a i d=>by
  exact(ZP (cJ (JB (ZL WU rfl h a (by decide) rfl (pv 0) (cY (vv 1) cU))))
   (aG (bK zC0.nd (aF (cQ (TF g a (pv 0) (cY (vv 1) cU)))))
   (ZP (cJ (M9 (C8 WU rfl e a (by decide) (by rfl) rfl (cY (vv 4) (cY (vv 3) (cY (vv 2) cU))))))
   (aG (VR (bL b a (cY (vv 4) (cY (vv 3) (cY (vv 2) cU)))))
   (cJ (YQ (bU MC GI (bL c a (cY (vv 4) (cY (vv 2) cU))) bM) (cJ (R7 rfl M8 rfl a (by rfl) T.x_NotValid (λ_=>T.fnm _ _) (cY (vv 2) cU))) Z1))))))
noncomputable abbrev Nx46:List Uq:=["self","name","packed","cells","block","then","words","fault","lanes","plan","program","entries"]
abbrev Qx46:List Uq:=["self","name","packed","cells"]
def zBZ:cO Nx46 Qx46 (c7 (mem 103 5)):=bE
def eS(F:aC K "outcome" "Shop.outcome" (mem 103 5) f fd)(T:Txt K mg)(c:Y4 P w K mg base "Shop" "known" 2 T7 (spV K [] 2 bJ) f_x42)(d:ZD P w K mg base "Shop" "known" 2 T7 bF f_x42):bZ P w K mg base (T1 P w) 3 f fd Qx46 (QQ K 4 ZW):=
 okZ P w K mg base Nx46 Qx46 2 TQ F zBZ λ_ _ _ _ _ _ b e a=>by
  exact(ZP (cJ (JB (ZL WU rfl d b (by decide) rfl (pv 0) (cY (vv 1) cU))))
   (aG (bK zBZ.nd (aF (cQ (TF c b (pv 0) (cY (vv 1) cU)))))
   (ZP (cJ (YQ (bU NY GJ (YH T.n_len (vv 3)) (UM a (vv 4) cS)) (cJ (YI rfl WV rfl (by rfl) T.x_NoCells)) Z1))
   (aG (b6 (bU NY GJ (YH T.n_len (vv 3)) (UM a (vv 4) cS))
   (cW ZZ)
   cN)
   (aG (b6 (bP (bW (vv 2)))
   A5
   cN)
   (cJ (YQ (bU (IB rfl a) EL (vv 1) (Z5 rfl T.c_Shop (vv 0)) (by with_unfolding_all rfl)) (cJ (YI rfl WV rfl (by rfl) T.x_NoPlan)) Z1)))))))
abbrev Nx47:List Uq:=["self","name","packed","then","fault"]
abbrev Qx47:List Uq:=["self","name","packed"]
def iU:cO Nx47 Qx47 (c7 (mem 103 6)):=bE
def dY(F:aC K "run" "Shop.run" (mem 103 6) f fd)(T:Txt K mg)(c:ZD P w K mg base "Shop" "outcome" 3 Qx46 ZW f_x46):bZ P w K mg base (T1 P w) 4 f fd Qx47 (QQ K 3 T8):=
 okZ P w K mg base Nx47 Qx47 3 MW F iU λ_ _ _ _ _ _ b d a=>by exact(cJ (JB (ZL WU rfl c b (by decide) rfl (pv 0) (cY (vv 1) (cY (vv 2) (cY (cQ (Z5 rfl T.c_Shop (vv 0))) cU))))))
abbrev Nx48:List Uq:=["self","names","packed","then","faults","name","fault"]
abbrev Qx48:List Uq:=["self","names","packed"]
def IN:cO Nx48 Qx48 (c7 (mem 103 7)):=bE
def pE(F:aC K "together" "Shop.together" (mem 103 7) f fd)(T:Txt K mg)(c:ZD P w K mg base "Shop" "outcome" 3 Qx46 ZW f_x46):bZ P w K mg base (T1 P w) 4 f fd Qx48 (QQ K 3 YX):=
 okZ P w K mg base Nx48 Qx48 3 T4 F IN λ_ _ _ _ _ _ a d b=>by
  exact(ZP (cJ (YQ (bP (bW (NH T.n_isinstance (vv 1) (G3 T.ZO YY)))) (cJ (R7 rfl M8 rfl a (by rfl) T.x_NoName (λ_=>T.fnm _ _) (cY (vv 1) cU))) Z1))
   (aG (b6 (bP (bW (NH T.n_isinstance (vv 1) (G3 T.ZO YY))))
   (cW ZZ)
   cN)
   (aG (bK IN.nd (aF (cQ (Z5 rfl T.c_Shop (vv 0)))))
   (aG (bK IN.nd (aF (cA (aZ (bQ cF)))))
   (cJ (nQ PassesOwn.leaving rfl (aA rfl (vv 1)) (b5 IN.nd) (cJ (JB (ZL WU rfl c a (by decide) rfl (pv 0) (cY (vv 5) (cY (vv 2) (cY (vv 3) cU))))))))))))
abbrev Nx49:List Uq:=["self","name","kept"]
abbrev Qx49:List Uq:=["self","name"]
def qZ:cO Nx49 Qx49 (c7 (mem 103 8)):=bE
def dI(F:aC K "drop" "Shop.drop" (mem 103 8) f fd)(T:Txt K mg)(e:Y4 P w K mg base "Shop" "known" 2 T7 (spV K [] 2 bJ) f_x42)(c:ZD P w K mg base "Shop" "known" 2 T7 bF f_x42):bZ P w K mg base (T1 P w) 3 f fd Qx49 (QQ K 2 VL):=
 okZ P w K mg base Nx49 Qx49 2 N3 F qZ λ_ _ _ _ _ _ b d a=>by exact(cJ (M9 (ZL WU rfl c b (by decide) rfl (pv 0) (cY (vv 1) cU))))
abbrev Nx59:List Uq:=["self","words"]
abbrev Qx59:List Uq:=["self","words"]
def oJ:cO Nx59 Qx59 (c7 (mem 103 9)):=bE
def lQ(F:aC K "grow" "Shop.grow" (mem 103 9) f fd)(T:Txt K mg)(c:b7 P w K mg base "is_cells" 2 FA [] Z3 f_x28):bZ P w K mg base (T1 P w) 3 f fd Qx59 (QQ K 2 WM):=
 okZ P w K mg base Nx59 Qx59 2 QL F oJ λ_ _ _ _ _ _ b d a=>by exact(cJ (YQ (WB (Y3 (bP (bW (bL c b (cY (vv 1) (cY cS cU))))) (Z0 (bU Wl s_gt (aP VN YD (YH T.n_len (Z5 rfl T.c_Shop (vv 0))) (YH T.n_len (vv 1))) (b4 (by rfl) T.v_MOST_CELLS))))) (cJ (YI rfl WV rfl (by rfl) T.x_NoCells)) Z1))
abbrev Nx60:List Uq:=["self","call","held","kept","sided"]
abbrev Qx60:List Uq:=["self"]
def nU:cO Nx60 Qx60 (c7 (mem 103 10)):=bE
def mU(F:aC K "back" "Shop.back" (mem 103 10) f fd)(T:Txt K mg):bZ P w K mg base (T1 P w) 1 f fd Qx60 (QQ K 1 WK):=
 okZ P w K mg base Nx60 Qx60 0 QJ F nU λ_ _ _ _ _ _ c b a=>by exact(cJ (YQ (Y2 b (C5 rfl T.c_Shop (by rfl) T.n_len (vv 0)) cS) (cJ (YI rfl WV rfl (by rfl) T.x_Nothing)) Z1))
abbrev Nx54:List Uq:=["self","name"]
abbrev KU:List Uq:=["self","name"]
def Xo:cO Nx54 KU (c7 (mem 103 13)):=bE
def Zs(F:aC K "block" "Shop.block" (mem 103 13) f fd)(T:Txt K mg)(c:Y4 P w K mg base "Shop" "known" 2 T7 (spV K [] 2 bJ) f_x42):bZ P w K mg base CX0 3 f fd KU (spV K [] 2 Y6):=
 W7 P w K mg base Nx54 KU 2 PL [] F Xo λ_ _ _ _ _ _ b d a=>by exact(cW (cP (TF c b (pv 0) (cY (vv 1) cU))))
def iV(F:aC K "block" "Shop.block" (mem 103 13) f fd)(T:Txt K mg)(e:Y4 P w K mg base "Shop" "known" 2 T7 (spV K [] 2 bJ) f_x42)(c:ZD P w K mg base "Shop" "known" 2 T7 bF f_x42):bZ P w K mg base (T1 P w) 3 f fd KU (QQ K 2 WL):=
 okZ P w K mg base Nx54 KU 2 QK F Xo λ_ _ _ _ _ _ b d a=>by exact(cJ (UJ (ZL WU rfl c b (by decide) rfl (pv 0) (cY (vv 1) cU))))
abbrev Nx55:List Uq:=["self","name"]
abbrev KW:List Uq:=["self","name"]
def Xs:cO Nx55 KW (c7 (mem 103 14)):=bE
def tJ(F:aC K "plan" "Shop.plan" (mem 103 14) f fd)(T:Txt K mg)(c:Y4 P w K mg base "Shop" "known" 2 T7 (spV K [] 2 bJ) f_x42):bZ P w K mg base CX0 3 f fd KW (spV K [] 2 YK):=
 W7 P w K mg base Nx55 KW 2 NQ [] F Xs λ_ _ _ _ _ _ b d a=>by
  refine cX ?_ ?_;exact(VR (TF c b (pv 0) (cY (vv 1) cU)));exact cW (cP (C3 rfl a (Z5 rfl T.c_Shop (vv 0)) (vv 1) ⟨rfl,rfl,rfl,rfl⟩))
def ut(F:aC K "plan" "Shop.plan" (mem 103 14) f fd)(T:Txt K mg)(e:Y4 P w K mg base "Shop" "known" 2 T7 (spV K [] 2 bJ) f_x42)(c:ZD P w K mg base "Shop" "known" 2 T7 bF f_x42):bZ P w K mg base (T1 P w) 3 f fd KW (QQ K 2 VM):=
 okZ P w K mg base Nx55 KW 2 N4 F Xs λ_ _ _ _ _ _ b d a=>by exact(cJ (M9 (ZL WU rfl c b (by decide) rfl (pv 0) (cY (vv 1) cU))))
abbrev Nx38:List Uq:=["_law_what","_law_shop","_law_one","_law_two","_law_three","_law_e"]
abbrev Qx38:List Uq:=["_law_what","_law_shop","_law_one","_law_two","_law_three"]
def zC3:cO Nx38 Qx38 (c7 (top 111)):=bE
def iL(F:aC K "_law_ask" "_law_ask" (top 111) f fd)(T:Txt K mg)(s:Y4 P w K mg base "Shop" "block" 3 KU (spV K [] 2 Y6) f_x54)(t:Y4 P w K mg base "Shop" "plan" 3 KW (spV K [] 2 YK) f_x55)(e:DefH P w K mg base "_law_which" 1 Qx36 (spV K [] 1 VE) f_x36)(l:NewX P w K mg base "Shop" 3 2 ZA)(m:ZD P w K mg base "Shop" "keep" 6 Qx58 WN f_x58)(p:SA P w K mg base "Shop" "pack" 8 Qx45 "lanes" YN f_x45)(q:SA P w K mg base "Shop" "run" 4 Qx47 "packed" T8 f_x47)(r:SA P w K mg base "Shop" "together" 4 Qx48 "packed" YX f_x48)(g:ZD P w K mg base "Shop" "drop" 3 Qx49 VL f_x49)(n:ZD P w K mg base "Shop" "grow" 3 Qx59 WM f_x59)(o:ZD P w K mg base "Shop" "back" 1 Qx60 WK f_x60)(j:ZD P w K mg base "Shop" "block" 3 KU WL f_x54)(k:ZD P w K mg base "Shop" "plan" 3 KW VM f_x55):bZ P w K mg base CX0 9 f fd Qx38 (spV K [] 5 b9):=
 W7 P w K mg base Nx38 Qx38 8 OI [] F zC3 λ_ _ _ _ _ _ b a d=>by
  exact(cW (iE (i:=5) (cs:=MU) rfl rfl rfl zC3.nd rfl rfl (by decide) (by rfl) (λ_=>T.fnm _ _) (by rfl) (by decide) T.q_NoName (by rfl) (by decide) T.q_NotValid
   (cX (b6 (Y2 a (vv 0) cS)
   (cW (cP aY))
   cN)
   (cX (b6 (Y2 a (vv 0) cS)
   (cW (cP aY))
   cN)
   (cX (b6 (Y2 a (vv 0) cS)
   (cW (cP aY))
   cN)
   (cX (b6 (Y2 a (vv 0) cS)
   (cW (cP aY))
   cN)
   (cX (b6 (Y2 a (vv 0) cS)
   (cW (cP aY))
   cN)
   (cX (b6 (Y2 a (vv 0) cS)
   (cW (cP aY))
   cN)
   (cX (b6 (bU NY GJ (vv 0) cS)
   (cW (cP (KO (Y2 a (vv 0) cS) aY aY)))
   cN)
   (cW (cP (KO (Y2 a (vv 0) cS) aY aY))))))))))
   (λ_ _ _ c=>(ZP (cJ (YQ (Y2 a (vv 0) cS) (cJ (UJ (rJ c rfl l b (by decide) (by rfl) rfl (cY (vv 2) cU)))) Z1))
   (aG (b6 (Y2 a (vv 0) cS)
   (cW (cP aY))
   cN)
   (ZP (cJ (YQ (Y2 a (vv 0) cS) (cJ (UJ (ZL c rfl m b (by decide) rfl (pv 1) (cY (vv 2) (cY (vv 3) cU))))) Z1))
   (aG (b6 (Y2 a (vv 0) cS)
   (cW (cP aY))
   cN)
   (ZP (cJ (YQ (Y2 a (vv 0) cS) (cJ (UJ (OZ c rfl p b (by decide) rfl (pv 1) (cY (vv 2) (cY (vv 3) cU)) (vv 4) rfl))) Z1))
   (aG (b6 (Y2 a (vv 0) cS)
   (cW (cP aY))
   cN)
   (ZP (cJ (YQ (Y2 a (vv 0) cS) (cJ (UJ (OZ c rfl q b (by decide) rfl (pv 1) (cY (vv 2) cU) (vv 3) rfl))) Z1))
   (aG (b6 (Y2 a (vv 0) cS)
   (cW (cP aY))
   cN)
   (ZP (cJ (YQ (Y2 a (vv 0) cS) (cJ (UJ (OZ c rfl r b (by decide) rfl (pv 1) (cY (vv 2) cU) (vv 3) rfl))) Z1))
   (aG (b6 (Y2 a (vv 0) cS)
   (cW (cP aY))
   cN)
   (ZP (cJ (YQ (Y2 a (vv 0) cS) (cJ (UJ (ZL c rfl g b (by decide) rfl (pv 1) (cY (vv 2) cU)))) Z1))
   (aG (b6 (Y2 a (vv 0) cS)
   (cW (cP aY))
   cN)
   (ZP (cJ (YQ (bU NY GJ (vv 0) cS) (cJ (UJ (Xh (Y2 a (vv 0) cS) (ZL c rfl n b (by decide) rfl (pv 1) (cY (vv 2) cU)) (A6 c rfl o b (by decide) rfl (pv 1))))) Z1))
   (aG (b6 (bU NY GJ (vv 0) cS)
   (cW (cP (KO (Y2 a (vv 0) cS) aY aY)))
   cN)
   (cJ (UJ (Xh (Y2 a (vv 0) cS) (ZL c rfl j b (by decide) rfl (pv 1) (cY (vv 2) cU)) (ZL c rfl k b (by decide) rfl (pv 1) (cY (vv 2) cU))))))))))))))))))))
   (λ_=>(cW (cP (bH (cV bX (cV (C4 rfl (BW T.x_NoName) (vv 5)) cF))))))
   (λ_=>(cW (cP (bH (cV bX (cV (C4 rfl (BW T.x_NotValid) (vv 5)) cF))))))
   λ_=>(cW (cP (fR e (b.h.mark _) (cY (vv 5) cU))))))
abbrev Nx43:List Uq:=["self","call","held","kept","sided"]
abbrev Qx43:List Uq:=["self","call","held","kept","sided"]
def Zz:cO Nx43 Qx43 (c7 (mem 103 2)):=bE
def rO(F:aC K "settle" "Shop.settle" (mem 103 2) f fd)(T:Txt K mg):bZ P w K mg base CX0 1 f fd Qx43 (spV K [0] 5 ZI):=
 W7 P w K mg base Nx43 Qx43 0 RE [0] F Zz λ_ _ _ _ _ _ c b a=>by
  refine cX ?_ ?_;exact(mO rfl T.c_Shop (pv 0) (bQ (cV (bH (cV (vv 1) (cV (Z5 rfl T.c_Shop (vo 0)) (cV (Z5 rfl T.c_Shop (vo 0)) (cV (Z5 rfl T.c_Shop (vo 0)) cF))))) cF)));refine cX ?_ ?_;exact(WY rfl T.c_Shop (pv 0) (vv 2));refine cX ?_ ?_;exact(WY rfl T.c_Shop (pv 0) (vv 3));exact cW (WY rfl T.c_Shop (pv 0) (vv 4))
abbrev Nx44:List Uq:=["self","name","block","kept"]
abbrev Qx44:List Uq:=["self","name","block"]
def zC1:cO Nx44 Qx44 (c7 (mem 103 3)):=bE
def lF(F:aC K "keep" "Shop.keep" (mem 103 3) f fd)(T:Txt K mg)(g:b7 P w K mg base "is_block" 5 Qx8 [] aH f_x8)(h:b7 P w K mg base "is_name" 1 FC [] ZV f_x29)(b:b7 P w K mg base "with_entry" 1 Qx30 [] WI f_x30)(c:b7 P w K mg base "without_entry" 1 Qx31 [] YW f_x31)(e:Y4 P w K mg base "Shop" "settle" 1 Qx43 (spV K [0] 5 ZI) f_x43):bZ P w K mg base CX0 6 f fd Qx44 (spV K [0] 3 ZR):=
 W7 P w K mg base Nx44 Qx44 5 NP [0] F zC1 λ_ _ _ _ _ _ a i d=>by
  refine cX ?_ ?_;exact(b6 (bP (bW (bL h a (cY (vv 1) cU))))
  (cW ZZ)
  cN)
  refine cX ?_ ?_;exact(b6 (bP (bW (bL g a (cY (vv 2) cU))))
  (cW ZZ)
  cN)
  refine cX ?_ ?_;exact(bK zC1.nd (aF (cQ (bL b a (cY (cQ (Z5 rfl T.c_Shop (vo 0))) (cY (vv 1) (cY (vv 2) cU)))))));exact cW (VR (TF e a (pv 0) (cY (cQ (bH (cV bX (cV (vv 1) cF)))) (cY (cQ (Z5 rfl T.c_Shop (vo 0))) (cY (vv 3) (cY (cQ (bL c a (cY (cQ (Z5 rfl T.c_Shop (vo 0))) (cY (vv 1) cU)))) cU))))))
abbrev Nx51:List Uq:=["self","call","held","kept","sided"]
abbrev Qx51:List Uq:=["self"]
def MO:cO Nx51 Qx51 (c7 (mem 103 10)):=bE
def mR(F:aC K "back" "Shop.back" (mem 103 10) f fd)(T:Txt K mg):bZ P w K mg base CX0 1 f fd Qx51 (spV K [0] 1 XJ):=
 W7 P w K mg base Nx51 Qx51 0 NN [0] F MO λ_ _ _ _ _ _ c b a=>by
  refine cX ?_ ?_;exact (b6 (Y2 b (C5 rfl T.c_Shop (by rfl) T.n_len (vo 0)) cS)
  (cW ZZ)
  cN)
  refine cX ?_ ?_;exact(E4 (cQ (lE rfl T.c_Shop (pv 0))) (Q7 (K:=K) rfl rfl (aR (b5 MO.nd) (aR (b5 MO.nd) (aR (b5 MO.nd) (aR (b5 MO.nd) UI))))));refine cX ?_ ?_;exact(WY rfl T.c_Shop (pv 0) (vv 2));refine cX ?_ ?_;exact(WY rfl T.c_Shop (pv 0) (vv 3));refine cX ?_ ?_;exact(WY rfl T.c_Shop (pv 0) (vv 4));exact cW (cP (vv 1))
abbrev Nx53:List Uq:=["self"]
abbrev Qx53:List Uq:=["self"]
def kI:cO Nx53 Qx53 (c7 (mem 103 12)):=bE
def oX(F:aC K "names" "Shop.names" (mem 103 12) f fd)(T:Txt K mg):bZ P w K mg base CX0 1 f fd Qx53 (spV K [] 1 Y7):=
 W7 P w K mg base Nx53 Qx53 0 PQ [] F kI λ_ _ _ _ _ _ c b a=>by exact(cW (cP (cA (uZ rfl rfl (by rfl) T.n_sorted OE (Z5 rfl T.c_Shop (vv 0))))))
abbrev Nx39:List Uq:=["_law_script","_law_town","_law_shop","_law_bad"]
abbrev Qx39:List Uq:=["_law_script","_law_town","_law_shop"]
def EQ:cO Nx39 Qx39 (c7 (top 112)):=bE
def sV(F:aC K "_law_at_first" "_law_at_first" (top 112) f fd)(T:Txt K mg)(i:Y4 P w K mg base "Shop" "keep" 6 Qx44 (spV K [0] 3 ZR) f_x44)(e:Y4 P w K mg base "Shop" "back" 1 Qx51 (spV K [0] 1 XJ) f_x51)(g:Y4 P w K mg base "Shop" "names" 1 Qx53 (spV K [] 1 Y7) f_x53)(d:b7 P w K mg base "_law_none" 5 Qx37 [1] YR f_x37)(c:b7 P w K mg base "_law_ask" 9 Qx38 [] b9 f_x38):bZ P w K mg base CX0 10 f fd Qx39 (spV K [1,2] 3 aI):=
 W7 P w K mg base Nx39 Qx39 9 V3 [1,2] F EQ λ_ _ _ _ _ _ a b h=>by
  refine cX ?_ ?_;exact(TJ Ec rfl (aA rfl (cA (aZ (bQ (cV bM (cV cS (cV bX (cV (cA (aZ (bQ (cV cS cF)))) (cV (cA (aZ (bQ (cV (E2 cS) cF)))) (cV (cA (aZ (bQ (cV bG cF)))) (cV (cA (aZ (bQ (cV bX cF)))) (cV (aP kRep JN (cA (aZ (bQ (cV cS cF)))) cS) (cV (bH (cV bM cF)) cF))))))))))))) (b5 EQ.nd)
  (cW (b6 (bU (U7 b) VA (VQ c a (cY cS (cY bM (cY (vv 3) (cY bM (cY bM cU)))))) (bH (cV bX (cV cS cF))))
  (cW (cP bG))
  cN)))
  refine cX ?_ ?_;exact(b6 (bU (U7 b) VA (VQ c a (cY cS (Y1 (pv 2) (cY bM (cY bM (cY bM cU)))))) (bH (cV bX (cV cS cF))))
  (cW (cP bG))
  cN)
  refine cX ?_ ?_;exact(@TJ _ _ _ _ _ _ _ _ _ _ _ Ec rfl (@aA _ _ _ _ _ _ _ rfl (@cA _ _ _ _ _ _ (@Q8 _ _ _ 1 _ _ _ rfl (by decide)))) (@b5 _ _ _ _ _ _ EQ.nd rfl (by first|exact .inl rfl|exact .inr rfl) (by decide) (by first|exact .inl rfl|exact .inr rfl|assumption)) (@cW _ _ _ _ _ (@b6 _ _ _ _ _ _ _ _ _ _ _ (@bU _ _ _ _ _ _ _ _ _ _ _ _ _ _ _ _ _ (U7 b) VA (VQ c a (@cY _ _ _ _ _ _ _ _ _ cS (@Y1 _ _ _ _ _ _ _ _ (pv 2) (@cY _ _ _ _ _ _ _ _ _ (@vv _ _ _ _ _ 3 rfl (by first|exact Fj rfl|exact Eg (Fj rfl)|exact Eg (Eg rfl)) (by decide) (by decide)) (@cY _ _ _ _ _ _ _ _ _ bM (@cY _ _ _ _ _ _ _ _ _ bM cU rfl) rfl) rfl) rfl) rfl)) (@bH _ _ _ _ _ _ _ _ _ (@cV _ _ _ _ _ _ _ _ _ _ _ _ bX (@cV _ _ _ _ _ _ _ _ _ _ _ _ (@vv _ _ _ _ _ 3 rfl (by first|exact Fj rfl|exact Eg (Fj rfl)|exact Eg (Eg rfl)) (by decide) (by decide)) cF rfl rfl rfl) rfl rfl rfl)) (V5 _) rfl) (@cW _ _ _ _ _ (@cP _ _ _ _ _ _ _ _ _ bG rfl)) cN)) (by intro _;rfl));refine cX ?_ ?_;exact(@b6 _ _ _ _ _ _ _ _ _ _ _ (@WB _ _ _ _ _ _ (@Y3 _ _ _ _ _ _ _ _ _ _ _ (@bU _ _ _ _ _ _ _ _ _ _ _ _ _ _ _ _ _ CA Yq (TF i a (pv 2) (@cY _ _ _ _ _ _ _ _ _ bX (@cY _ _ _ _ _ _ _ _ _ (@cQ _ _ _ _ _ _ _ _ (@Q6 _ _ _ 2 _ _ rfl) rfl) cU rfl) rfl)) bM (V5 _) rfl) (@Z0 _ _ _ _ _ _ _ (@bU _ _ _ _ _ _ _ _ _ _ _ _ _ _ _ _ _ (U7 b) VA (IZ e a (pv 2)) (@bH _ _ _ _ _ _ _ _ _ (@cV _ _ _ _ _ _ _ _ _ _ _ _ bX (@cV _ _ _ _ _ _ _ _ _ _ _ _ bX cF rfl rfl rfl) rfl rfl rfl)) (V5 _) rfl)))) (@cW _ _ _ _ _ (@cP _ _ _ _ _ _ _ _ _ bG rfl)) cN);exact cW (cP (VC (veq b (VQ c a (cY cS (Y1 (pv 2) (cY bX (cY (cQ (bL d a (cY (vv 0) (Y1 (pv 1) cU)))) (cY bM cU)))))) (bH (cV bX (cV cS cF)))) (XD (veq b (IZ g a (pv 2)) (cA (aZ (bQ cF)))))))
abbrev Nx41:List Uq:=["self","cells"]
abbrev Qx41:List Uq:=["self","cells"]
def iR:cO Nx41 Qx41 (c7 (mem 103 0)):=bE
def jG{h:Up}(F:LA K "__init__" "Shop.__init__" (mem 103 0) (.ref h) f fd)(T:Txt K mg)(e:b7 P w K mg base "is_cells" 2 FA [] Z3 f_x28):bZ P w K mg base CX0 3 f fd Qx41 (spV K [0] 2 ZH):=
 LA.okV (P:=P) (w:=w) (mg:=mg) (base:=base) (K:=K) (N:=Nx41) (ps:=Qx41) (k:=2) (g:=RD) (ml:=[0]) F iR (by decide) λd A a s H E b=>by
  have i:=b.units;have c:=BR b;refine cX ?_ ?_;exact (b6 (WB (Y3 (bP (bW (YG Yk Wq (by rfl) T.n_isinstance b8 (vv 1) (bH (cV (G3 T.ZO YY) (cV (G3 T.n_tuple V1) cF)))))) (Z0 (bP (bW (bL e b (cY (cA (MS OK ZO (by rfl) T.ZO YY (vv 1))) (cY cS cU))))))))
  (cW ZZ)
  cN)
  refine cX ?_ ?_;exact(WY rfl T.c_Shop (pv 0) (cA (MS OK ZO (by rfl) T.ZO YY (vv 1))));refine cX ?_ ?_;exact(WY rfl T.c_Shop (pv 0) (cA G1));refine cX ?_ ?_;exact(WY rfl T.c_Shop (pv 0) (cA G1));exact cW (nW rfl T.c_Shop (pv 0))
abbrev Nx50:List Uq:=["self","words"]
abbrev Qx50:List Uq:=["self","words"]
def gB:cO Nx50 Qx50 (c7 (mem 103 9)):=bE
def mY(F:aC K "grow" "Shop.grow" (mem 103 9) f fd)(T:Txt K mg)(d:b7 P w K mg base "is_cells" 2 FA [] Z3 f_x28)(c:Y4 P w K mg base "Shop" "settle" 1 Qx43 (spV K [0] 5 ZI) f_x43):bZ P w K mg base CX0 3 f fd Qx50 (spV K [0] 2 XM):=
 W7 P w K mg base Nx50 Qx50 2 NO [0] F gB λ_ _ _ _ _ _ a e b=>by
  refine cX ?_ ?_;exact (b6 (WB (Y3 (bP (bW (bL d a (cY (vv 1) (cY cS cU))))) (Z0 (bU Wl s_gt (aP VN YD (YH T.n_len (Z5 rfl T.c_Shop (vo 0))) (YH T.n_len (vv 1))) (b4 (by rfl) T.v_MOST_CELLS)))))
  (cW ZZ)
  cN)
  refine cX ?_ ?_;exact(VR (TF c a (pv 0) (cY (cQ (bH (cV bX (cV (YH T.n_len (vv 1)) cF)))) (cY (cQ (aP VN YD (Z5 rfl T.c_Shop (vo 0)) (vv 1))) (cY (cQ (Z5 rfl T.c_Shop (vo 0))) (cY (cQ (Z5 rfl T.c_Shop (vo 0))) cU))))));exact cW (cP (YH T.n_len (Z5 rfl T.c_Shop (vo 0))))
abbrev Nx52:List Uq:=["self"]
abbrev Qx52:List Uq:=["self"]
def kL:cO Nx52 Qx52 (c7 (mem 103 11)):=bE
def mB(F:aC K "cells" "Shop.cells" (mem 103 11) f fd)(T:Txt K mg):bZ P w K mg base CX0 1 f fd Qx52 (spV K [] 1 YA):=
 W7 P w K mg base Nx52 Qx52 0 PN [] F kL λ_ _ _ _ _ _ c b a=>by exact(cW (cP (cA (MS OK ZO (by rfl) T.ZO YY (Vl (Z5 rfl T.c_Shop (vv 0)))))))
abbrev Nx56:List Uq:=["self"]
abbrev Qx56:List Uq:=["self"]
def tH:cO Nx56 Qx56 (c7 (mem 103 15)):=bE
def qE(F:aC K "log" "Shop.log" (mem 103 15) f fd)(T:Txt K mg):bZ P w K mg base CX0 1 f fd Qx56 (spV K [] 1 VT):=
 W7 P w K mg base Nx56 Qx56 0 LM [] F tH λ_ _ _ _ _ _ d c a=>by exact(cW (cP (cA (ZY ["past"] [] 1 (qY rfl T.c_Shop (vv 0)) (λb _ _ _ _=>⟨(b5 b),Y5,(cQ (UM a (vv 0) cS))⟩)))))
abbrev Nx40:List Uq:=["_law_script","_law_town","_law_shop","_law_rows","_law_knot","_law_bad","_law_few"]
abbrev Qx40:List Uq:=["_law_script"]
def UG:cO Nx40 Qx40 (c7 (top 113)):=bE
def sA(F:aC K "law" "law" (top 113) f fd)(T:Txt K mg)(e:NewS P w K mg base "Shop" 3 2 ZH)(o:Y4 P w K mg base "Shop" "keep" 6 Qx44 (spV K [0] 3 ZR) f_x44)(g:Y4 P w K mg base "Shop" "grow" 3 Qx50 (spV K [0] 2 XM) f_x50)(h:Y4 P w K mg base "Shop" "cells" 1 Qx52 (spV K [] 1 YA) f_x52)(l:Y4 P w K mg base "Shop" "block" 3 KU (spV K [] 2 Y6) f_x54)(m:Y4 P w K mg base "Shop" "plan" 3 KW (spV K [] 2 YK) f_x55)(i:Y4 P w K mg base "Shop" "log" 1 Qx56 (spV K [] 1 VT) f_x56)(n:b7 P w K mg base "_law_draw" 3 Qx34 [1] ZM f_x34)(c:b7 P w K mg base "_law_ask" 9 Qx38 [] b9 f_x38)(d:b7 P w K mg base "_law_at_first" 10 Qx39 [1,2] aI f_x39):bZ P w K mg base CX0 11 f fd Qx40 (spV K [] 1 JD):=
 W7 P w K mg base Nx40 Qx40 10 Wh [] F UG λ_ _ _ _ _ _ a b j=>by
  refine cX ?_ ?_;exact(bK UG.nd (KP (aZ (bQ cF))));refine cX ?_ ?_;exact(bK UG.nd (KP (tU e a (cY (cQ (aP kRep JN (cA (aZ (bQ (cV cS cF)))) (bL n a (cY (vv 0) (Y1 (pv 1) (cY cS cU)))))) cU))));refine cX ?_ ?_;exact(b6 (bP (bW (bL d a (cY (vv 0) (Y1 (pv 1) (Y1 (pv 2) cU))))))
  (cW (cP bG))
  cN)
  refine cX ?_ ?_;exact(@bK _ _ _ _ _ _ _ _ _ UG.nd (@aF _ _ _ _ _ _ (@cQ _ _ _ _ _ _ _ _ (@Q6 _ _ _ 2 _ _ rfl) rfl)) rfl (by first|exact .inl rfl|exact .inr rfl) (by decide) rfl (by first|exact .inl rfl|exact .inr rfl|assumption));refine cX ?_ ?_;exact(bK UG.nd (aF (cQ (bH (cV cS (cV (vv 3) cF))))));refine cX ?_ ?_;exact(VR (TF o a (pv 2) (cY bX (cY (vv 4) cU))));refine cX ?_ ?_;exact(@TJ _ _ _ _ _ _ _ _ _ _ _ Ec rfl (@aA _ _ _ _ _ _ _ rfl (@cA _ _ _ _ _ _ (@Q8 _ _ _ 1 _ _ _ rfl (by decide)))) (@b5 _ _ _ _ _ _ UG.nd rfl (by first|exact .inl rfl|exact .inr rfl) (by decide) (by first|exact .inl rfl|exact .inr rfl|assumption)) (@cW _ _ _ _ _ (@b6 _ _ _ _ _ _ _ _ _ _ _ (@bU _ _ _ _ _ _ _ _ _ _ _ _ _ _ _ _ _ (U7 b) VA (@cA _ _ _ _ _ _ (ZY ["_law_shop","_law_bad","_law_what"] [2,5] 1 (@aA _ _ _ _ _ _ _ rfl (@cQ _ _ _ _ _ _ _ _ (@bH _ _ _ _ _ _ _ _ _ (@cV _ _ _ _ _ _ _ _ _ _ _ _ cS (@cV _ _ _ _ _ _ _ _ _ _ _ _ cS (@cV _ _ _ _ _ _ _ _ _ _ _ _ cS (@cV _ _ _ _ _ _ _ _ _ _ _ _ cS (@cV _ _ _ _ _ _ _ _ _ _ _ _ cS cF rfl rfl rfl) rfl rfl rfl) rfl rfl rfl) rfl rfl rfl) rfl rfl rfl)) rfl)) (λk _ _ _ _=>⟨(@b5 _ _ _ _ _ _ k rfl (by first|exact .inl rfl|exact .inr rfl) (by decide) (by first|exact .inl rfl|exact .inr rfl|assumption)),Y5,(@cQ _ _ _ _ _ _ _ _ (VQ c a (@cY _ _ _ _ _ _ _ _ _ (@vv _ _ _ _ _ 2 rfl (by first|exact Fj rfl|exact Eg (Fj rfl)|exact Eg (Eg rfl)) (by decide) (by decide)) (@Y1 _ _ _ _ _ _ _ _ (pv 0) (@cY _ _ _ _ _ _ _ _ _ (@vv _ _ _ _ _ 1 rfl (by first|exact Fj rfl|exact Eg (Fj rfl)|exact Eg (Eg rfl)) (by decide) (by decide)) (@cY _ _ _ _ _ _ _ _ _ bM (@cY _ _ _ _ _ _ _ _ _ bM cU rfl) rfl) rfl) rfl) rfl)) rfl)⟩))) (@aP _ _ _ _ _ _ _ _ _ _ _ _ _ _ _ _ _ kRep JN (@cA _ _ _ _ _ _ (@aZ _ _ _ _ _ _ _ (@bQ _ _ _ _ _ _ _ (@cV _ _ _ _ _ _ _ _ _ _ _ _ (@bH _ _ _ _ _ _ _ _ _ (@cV _ _ _ _ _ _ _ _ _ _ _ _ bX (@cV _ _ _ _ _ _ _ _ _ _ _ _ (@vv _ _ _ _ _ 5 rfl (by first|exact Fj rfl|exact Eg (Fj rfl)|exact Eg (Eg rfl)) (by decide) (by decide)) cF rfl rfl rfl) rfl rfl rfl)) cF rfl rfl rfl) rfl))) cS rfl) (V5 _) rfl) (@cW _ _ _ _ _ (@cP _ _ _ _ _ _ _ _ _ bG rfl)) cN)) (by intro _;rfl));refine cX ?_ ?_;exact(bK UG.nd (aF (cQ (XB NY GJ (YH T.n_len (IZ h a (pv 2))) cS))));refine cX ?_ ?_;exact(b6 (bU (U7 b) VA (VQ c a (cY cS (Y1 (pv 2) (cY bX (cY bG (cY bM cU)))))) (bH (cV bX (cV bX cF))))
  (cW (cP bG))
  cN)
  refine cX ?_ ?_;exact(b6 (bU (U7 b) VA (VQ c a (cY cS (Y1 (pv 2) (cY (cA (aZ (bQ (cV bX (cV cS cF))))) (cY bG (cY bM cU)))))) (KO (bW (vv 6)) (bH (cV bX (cV cS cF))) (bH (cV bX (cV cS cF)))))
  (cW (cP bG))
  cN)
  refine cX ?_ ?_;exact(TJ Ec rfl (aA rfl (cA (aZ (bQ (cV bM (cV cS (cV cS (cV bX (cV bG cF))))))))) (b5 UG.nd)
  (cW (b6 (bU (U7 b) VA (VQ c a (cY cS (Y1 (pv 2) (cY bX (cY bM (cY (vv 5) cU)))))) (bH (cV bX (cV cS cF))))
  (cW (cP bG))
  cN)))
  refine cX ?_ ?_;exact(@b6 _ _ _ _ _ _ _ _ _ _ _ (@bU _ _ _ _ _ _ _ _ _ _ _ _ _ _ _ _ _ (U7 b) VA (VQ c a (@cY _ _ _ _ _ _ _ _ _ cS (@Y1 _ _ _ _ _ _ _ _ (pv 2) (@cY _ _ _ _ _ _ _ _ _ bX (@cY _ _ _ _ _ _ _ _ _ (@cQ _ _ _ _ _ _ _ _ (@Q6 _ _ _ 2 _ _ rfl) rfl) (@cY _ _ _ _ _ _ _ _ _ cS cU rfl) rfl) rfl) rfl) rfl)) (@bH _ _ _ _ _ _ _ _ _ (@cV _ _ _ _ _ _ _ _ _ _ _ _ bX (@cV _ _ _ _ _ _ _ _ _ _ _ _ cS cF rfl rfl rfl) rfl rfl rfl)) (V5 _) rfl) (@cW _ _ _ _ _ (@cP _ _ _ _ _ _ _ _ _ bG rfl)) cN);refine cX ?_ ?_;exact(@b6 _ _ _ _ _ _ _ _ _ _ _ (@bU _ _ _ _ _ _ _ _ _ _ _ _ _ _ _ _ _ (U7 b) VA (VQ c a (@cY _ _ _ _ _ _ _ _ _ cS (@Y1 _ _ _ _ _ _ _ _ (pv 2) (@cY _ _ _ _ _ _ _ _ _ bX (@cY _ _ _ _ _ _ _ _ _ (@cQ _ _ _ _ _ _ _ _ (@Q6 _ _ _ 2 _ _ rfl) rfl) (@cY _ _ _ _ _ _ _ _ _ cS cU rfl) rfl) rfl) rfl) rfl)) (@Q6 _ _ _ 3 _ _ rfl) (V5 _) rfl) (@cW _ _ _ _ _ (@cP _ _ _ _ _ _ _ _ _ bG rfl)) cN);refine cX ?_ ?_;exact(b6 (WB (E5 (bW (vv 6)) (JA (bU (U7 b) VA (VQ c a (cY cS (Y1 (pv 2) (cY bX (cY bG (cY bM cU)))))) (bH (cV bX (cV cS cF)))))))
  (cW (cP bG))
  cN)
  refine cX ?_ ?_;exact(TJ Ec rfl (aA rfl (cA (aZ (bQ (cV bM (cV (bH (cV cS cF)) (cV (cA (aZ (bQ (cV cS cF)))) (cV (aP kRep JN (cA (aZ (bQ (cV cS cF)))) cS) (cV (cA (aZ (bQ (cV bX cF)))) (cV (cA (aZ (bQ (cV bG cF)))) cF)))))))))) (b5 UG.nd)
  (cW (b6 (bU (U7 b) VA (VQ c a (cY cS (Y1 (pv 2) (cY (vv 5) (cY bM (cY bM cU)))))) (bH (cV bX (cV cS cF))))
  (cW (cP bG))
  cN)))
  refine cX ?_ ?_;exact(VR (TF g a (pv 2) (cY (cQ (aP kRep JN (cA (aZ (bQ (cV cS cF)))) cS)) cU)));refine cX ?_ ?_;exact(b6 (bU (U7 b) VA (VQ c a (cY cS (Y1 (pv 2) (cY bX (cY bG (cY bM cU)))))) (bH (cV bX (cV cS cF))))
  (cW (cP bG))
  cN)
  refine cX ?_ ?_;exact(b6 (bU (U7 b) VA (VQ c a (cY cS (Y1 (pv 2) (cY (cA (aZ (bQ (cV bX (cV bX cF))))) (cY bG (cY bM cU)))))) (bH (cV bX (cV cS cF))))
  (cW (cP bG))
  cN)
  exact cW (@cP _ _ _ _ _ _ _ _ _ (@VC _ _ _ _ _ _ _ _ _ _ _ _ _ _ _ (@veq _ _ _ _ _ _ _ _ _ _ _ _ _ _ b (IZ i a (pv 2)) (@cA _ _ _ _ _ _ (@Q8 _ _ _ 1 _ _ _ rfl (by decide))) rfl rfl) (@VC _ _ _ _ _ _ _ _ _ _ _ _ _ _ _ (@XB _ _ _ _ _ _ _ _ _ _ _ _ _ _ _ _ _ MC GI (TF m a (pv 2) (@cY _ _ _ _ _ _ _ _ _ bX cU rfl)) bM (V5 _) rfl) (@XD _ _ _ _ _ _ _ _ _ _ (@veq _ _ _ _ _ _ _ _ _ _ _ _ _ _ b (TF l a (pv 2) (@cY _ _ _ _ _ _ _ _ _ bX cU rfl)) (@vv _ _ _ _ _ 4 rfl (by first|exact Fj rfl|exact Eg (Fj rfl)|exact Eg (Eg rfl)) (by decide) (by decide)) rfl rfl)))) rfl)
end
end RR
namespace L2
open PySem
def tR(a b:String):Ef a=Ef b↔a=b:=by
 refine⟨λh=>?_,λh=>by rw[h]⟩;rw[Mj,Mj]at h;injection h with h;have g:a.toList.map Qm=b.toList.map Qm:=by simpa using h
 have f:a.toList=b.toList:=by
  have inj:∀(l m:List Char),l.map Qm=m.map Qm->l=m:=by
   intro l;induction l with
   |nil=>intro m h;cases m with
    |nil=>rfl
    |cons=>cases h
   | cons c l d => intro m h;cases m with
    |nil=>cases h
    |cons e m=>
     simp only[Ch,List.cons.injEq]at h;rw[d m h.2,Char.toNat_inj.mp h.1]
  exact inj _ _ g
 exact String.toList_inj.mp f
@[simp] theorem vX{i j:Int}:eqD (.int i) (.int j)=decide (i=j):=by show(i==j)=_;rw[Bool.beq_eq_decide_eq]
@[simp] theorem xZ{i j:Int}:X8 (.int i) (.int j)=ba (.bl (decide (i=j))):=by unfold X8;simp
def O5(ns:List Int):cZ:=.lst (ns.map .int)
def QP(n:Nat):cZ:=.lst (Av n (.int 0))
theorem JV:∀ns:List Int,isDs (ns.map cZ.int)=bc
 |[]=>rfl
 |n::ns=>by simp[isDs,cZ.isD,JV ns]
theorem F7:∀ns:List Int,pds (ns.map cZ.int)=ns.map Qb
 |[]=>rfl
 |n::ns=>by simp[pds,cZ.pd,F7 ns]
def lX(ns:List Int):F5 (.lst (ns.map .int))=bc:=by unfold F5;simp only[cZ.isD,JV,cZ.pd,F7,Bool.true_and];exact GN ns
def Zb(ns:List Int):X8 (.lst (ns.map .int)) (.lst [])=ba (.bl ns.isEmpty):=by unfold X8;rw[lX,show F5 (.lst [])=bc from by decide+kernel];cases ns<;>rfl
theorem JT:∀n:Nat,P2 (Av n (.int 0))=bc
 |0=>rfl
 |n+1=>by simp[Du,P2,cZ.hard,JT n]
@[simp] theorem v7(n:Nat):P9 (QP n)=bc:=JT n
theorem JP:∀(ds:List cZ) (a b:cZ) (r:Int) (s:Sl),∃c s',RO (gN 3) (aN 2 (xV (f2 B3 (fV 2) (fC (.int 1000003))))) ds [.va a,.va b,.va (.int r),s]=ba (.nx [.va a,.va b,.va (.int c),s'])
 |[],a,b,r,s=>⟨r,s,rfl⟩
 |d::ds,a,b,r,s=>by obtain⟨c,s',h⟩:=JP ds a b (r/1000003) (.va d);exact⟨c,s',by simp[cDiv,h]⟩
def BU{ns:List Int}{i:Int}(d:0<=i)(c:i<ns.length):∃r∈ns,G8 (ns.map cZ.int) i=ba (.int r):=by obtain⟨x,a,e⟩:=Ye (xs:=ns.map cZ.int) d (by simpa using c);obtain⟨r,b,rfl⟩:=Hv.mp a;exact⟨r,b,e⟩
def kY(ns:List Int)(k:Nat)(hl:ns.length<=63)(u:k<1000000):∃r,aM [O5 ns,.int k]=ba (.int r,[]):=by
 unfold aM;rw[U9];unfold U6 T2 O5;by_cases h:(k:Int)<ns.length;obtain ⟨r,_,e⟩ := BU (ns := ns) (i := k) (by lia) h;exact⟨r,by simp[WR,h,e]⟩
 ·cases ns with
  |nil=>
   have p:¬((k:Int)<0):=by lia
   have e:X8 (.lst []) (.lst [])=ba (.bl bc):=Zb [];exact⟨0,by simp[WR,p,e]⟩
  |cons m j=>
   generalize a:m::j=ns at*;have f:(0:Int)<ns.length:=by rw[<-a];simp
   have o:=Nd (k:Int) (show(ns.length:Int)≠0 by lia);have d:=Kp (k:Int) f;obtain⟨r,_,e⟩:=BU (ns:=ns) o d;have n:ns.isEmpty=be:=by rw[<-a];rfl
   have t:0<=(k:Int)/ns.length:=Int.ediv_nonneg (by lia) (by lia);have l: -4611686018427387904<=(if(60:Int)<(k:Int)/ns.length then 60 else(k:Int)/ns.length)/\(if(60:Int)<(k:Int)/ns.length then 60 else(k:Int)/ns.length)<4611686018427387904:=by split<;>lia
   obtain⟨g,s,q⟩:=JP (RQ 0 (if(60:Int)<(k:Int)/ns.length then 60 else(k:Int)/ns.length).toNat) (.lst (ns.map .int)) (.int k) r .no;have c:0<ns.length:=by lia
   have b:(ns.length:Int)<1073741824:=by lia
   exact⟨r*31+k+g*101,by simp[WR,h,Zb,n,f,c,b,e,cDiv,l,q,cMul]⟩
noncomputable def cel(ns:List Int)(k:Nat):Int:=match aM [O5 ns,.int k]with
 |some (.int r,_)=>r
 |_=>0
def jX(ns:List Int)(k:Nat)(hl:ns.length<=63)(a:k<1000000):aM [O5 ns,.int k]=ba (.int (cel ns k),[]):=by obtain⟨r,e⟩:=kY ns k hl a;unfold cel;rw[e]
noncomputable def drw(ns:List Int)(n:Nat)(b:Int):Int:=((cel ns (n+1)*1103515245+7919*(((n+1:Nat)):Int)+12345) % 2147483647) ^ 5 % 2147483647 % 999983 % b
def Xf(ns:List Int)(n:Nat){b:Int}(h:0<b):0<=drw ns n b:=Nd _ (by lia)
def Za(ns:List Int)(n:Nat){b:Int}(h:0<b):drw ns n b<b:=Kp _ h
def sZ(ns:List Int)(n:Nat)(b:Int)(hl:ns.length<=63)(f:n<900000)(d:0<b):YM [O5 ns,.int ((n+1:Nat):Int),.int b]=ba (.int (drw ns n b),[]):=by
 have e:=jX ns (n+1) hl (by lia);unfold YM;rw[U9];unfold SN drw;have i:=Nd (cel ns (n+1)*1103515245+7919*((n+1:Nat):Int)+12345) (show(2147483647:Int)≠0 by decide);have h:=Kp (cel ns (n+1)*1103515245+7919*((n+1:Nat):Int)+12345) (show(0:Int)<2147483647 by decide);generalize c:(cel ns (n+1)*1103515245+7919*((n+1:Nat):Int)+12345) % 2147483647=z at*;have a:z.natAbs<18446744073709551616:=by lia
 generalize g:((n+1:Nat):Int)=k at*;simp[WR,e,cMul,cPow,c,a,d]
def BM(ns:List Int)(n:Nat)(b:Int)(hl:ns.length<=63)(f:n<900000)(g:0<b):ZM [O5 ns,QP n,.int b]=ba (.int (drw ns n b),[QP (n+1)]):=by
 have e:=sZ ns n b hl f g;unfold ZM;rw[U9];unfold QY;have c:QP n=.lst (Av n (.int 0)):=rfl;have a:QP (n+1)=.lst (Av n (.int 0)++[.int 0]):=by unfold QP;rw[List.replicate_succ']
 rw[a,c];have d:n<16777216:=by lia
 push_cast at e
 simp[WR,d,e]
def dH(ns:List Int)(n:Nat)(xs:List cZ)(hl:ns.length<=63)(b:n<900000)(d:0<xs.length):∃x∈xs,YS [O5 ns,QP n,.lst xs]=ba (x,[QP (n+1)]):=by
 have a:(0:Int)<xs.length:=by lia
 obtain⟨x,c,e⟩:=Ye (xs:=xs) (Xf ns n a) (Za ns n a);refine⟨x,c,?_⟩;unfold YS;rw[U9];unfold Q0;simp[WR,BM ns n _ hl b a,e]
noncomputable def J3:List cZ:=[.non,.int 5,.tup [],.tup [.int 0],.tup [.int 0,.lst []],.lst [.int 0,.tup []],.tup [.int (-1),.tup []],.tup [.int 65,.tup []],.tup [.bl bc,.tup []],.tup [.str "0",.tup []],.tup [.int 0,.tup [],.tup []],.tup [.int 0,.tup [.tup []]],.tup [.int 0,.tup [.tup [.str "number"]]],.tup [.int 0,.tup [.tup [.str "number",.int 1000]]],.tup [.int 0,.tup [.tup [.str "plus",.int 0,.int 0]]],.tup [.int 0,.tup [.lst [.str "load",.int 0]]],.tup [.int 0,.tup [.tup [.str "load",.int 64]]],.tup [.int 0,.tup [.tup [.str "load",.int (-1)]]],.tup [.int 0,.tup [.tup [.str "halve",.int 0]]],.tup [.int 0,.tup [.tup [.int 5,.int 0]]],.tup [.int 0,.tup [.tup [.str "number",.int 1],.tup [.str "store",.int 0,.int 0],.tup [.str "plus",.int 0,.int 1]]],.tup [.int 0,.tup (Av 41 (.tup [.str "number",.int 1]))],.tup [.int 0,.tup [.tup [.str "number",.int 1],.tup [.str "plus",.int 0,.int 1]]]]
def eN(a b:cZ):QZ [.va a,.ow b,.no]=cD (cE 3 [1] YS (aE (fV 0) (aO 1 (aE (fV 2) cK)))) [.va a,.ow b,.va (.lst J3)]:=by kernel_rfl
def oU(ns:List Int)(n:Nat)(hl:ns.length<=63)(b:n<900000):∃x∈J3,YR [O5 ns,QP n]=ba (x,[QP (n+1)]):=by obtain⟨x,a,c⟩:=dH ns n J3 hl b (by simp[J3]);refine⟨x,a,?_⟩;unfold YR;rw[U9,show WR [1] 3 [O5 ns,QP n]=[.va (O5 ns),.ow (QP n),.no] from rfl,eN];simp[c]
abbrev rf(k:Int):cZ:=.tup [.str "refused",.int k]
noncomputable abbrev TD(cs:List cZ)(ks:List Z2)(ds hs:List cZ):cZ:=.shp "Shop" ["held","kept","sided"] (ba ("history",bb)) (.lst cs:: .dct ks ds:: .dct [] []::hs)
def rep1(k:Nat)(d:cZ):U8 k [d]=Av k d:=by
 unfold U8;induction k with
 |zero=>rfl
 |succ k a=>rw[Du,Gb,a,Du];rfl
def oG(d:cZ)(k:Int)(a:0<=k)(b:k<=64):W3 (.lst [d]) (.int k)=ba (.lst (Av k.toNat d)):=by simp only[W3];rw[if_pos ⟨⟨a,by lia⟩,by simp;lia⟩,rep1]
def TC{b a:VS}{δ δ1:Ev}(h:b δ=ba (.nx δ1)):cH b a δ=a δ1:=by rw[rW,h,qS_n]
def DZ(cs:List cZ):J3.map (λx=>b9 [.int 1,TD cs [] [] [],.str "a",x,.non])=Av 23 (ba (rf 0,[])):=by kernel_rfl
def pH{x:cZ}{cs:List cZ}(a:x∈J3):b9 [.int 1,TD cs [] [] [],.str "a",x,.non]=ba (rf 0,[]):=
 List.eq_of_mem_replicate (DZ cs▸List.mem_map_of_mem a)
noncomputable def ga1:VS:=(RS (YJ (aQ (cT (fC .non) (cT (fC (.int 5)) (cT (fC (.str "12")) (cT (aQ (cT (fC (.int 1000)) bY)) (cT (aQ (cT (f1 oNeg (fC (.int 1))) bY)) (cT (aQ (cT (fC (.bl bc)) bY)) (cT (aQ (cT (fC (.str "1")) bY)) (cT (f2 W3 (aQ (cT (fC (.int 0)) bY)) (fC (.int 65))) (cT (aJ (cT (fC .non) bY)) bY))))))))))) (gN 3)
   UP)
noncomputable def ga2:VS:=(ZU (fB (f2 RP (bB 5 b9 (aE (fC (.int 7)) (aO 2 (aE (fC .non) (aE (fC .non) (aE (fC .non) cK)))))) (aJ (cT (fC (.str "refused")) (cT (fC (.int 13)) bY)))))
   (cD (fC (.bl be)))
   bO)
noncomputable def ga3:VS:=(RS (YJ (fC (.lst [.non,.int 5,.str "",.str "A",.str "ninesigns",.str "a b",.lst [.str "a"],.str "1",.bl bc]))) (gN 3)
   UO)
noncomputable def ga4:VS:=(ZU (NJ (fB (f2 QB (a8 "Shop" "keep" 2 3 [0] ZR (aE (fC (.str "eightsig")) (aE (fC (.tup [.int 0,.tup []])) cK))) (fC .non))) (fB (f2 RP (a8 "Shop" "back" 2 1 [0] XJ cK) (aJ (cT (fC (.str "keep")) (cT (fC (.str "eightsig")) bY))))))
   (cD (fC (.bl be)))
   bO)
noncomputable def ga5:VS:=(cD (RN (f2 X8 (bB 5 b9 (aE (fC (.int 1)) (aO 2 (aE (fC (.str "a")) (aE (cE 2 [1] YR (aE (fV 0) (aO 1 cK))) (aE (fC .non) cK)))))) (aJ (cT (fC (.str "refused")) (cT (fC (.int 0)) bY)))) (f2 X8 (a8 "Shop" "names" 2 1 [] Y7 cK) (aQ bY))))
def oE:V3=cH ga1 (cH ga2 (cH ga3 (cH ga4 ga5))):=rfl
section
variable{S T x:cZ}{cs:List cZ}{s3:Sl}
def iF:ga1 [.va S,.ow T,.ow (TD cs [] [] []),s3]=ba (.nx [.va S,.ow T,.ow (TD cs [] [] []),.va (.tup [.non])]):=by kernel_rfl
def Zw:ga2 [.va S,.ow T,.ow (TD cs [] [] []),s3]=ba (.nx [.va S,.ow T,.ow (TD cs [] [] []),s3]):=by kernel_rfl
def fA:ga3 [.va S,.ow T,.ow (TD cs [] [] []),s3]=ba (.nx [.va S,.ow T,.ow (TD cs [] [] []),.va (.bl bc)]):=by kernel_rfl
def lS:ga4 [.va S,.ow T,.ow (TD cs [] [] []),s3]=ba (.nx [.va S,.ow T,.ow (TD cs [] [] []),s3]):=by kernel_rfl
end
def eX(ns:List Int)(n:Nat)(cs:List cZ)(hl:ns.length<=63)(f:n<900000):aI [O5 ns,QP n,TD cs [] [] []]=ba (.bl bc,[QP (n+1),TD cs [] [] []]):=by
 obtain⟨x,e,g⟩:=oU ns n hl f;have a:=pH (cs:=cs) e;have h:ga5 [.va (O5 ns),.ow (QP n),.ow (TD cs [] [] []),.va (.bl bc)]=ba (.rt (.bl bc) [.va (O5 ns),.ow (QP (n+1)),.ow (TD cs [] [] []),.va (.bl bc)]):=by
  have k:X8 (rf 0) (rf 0)=ba (.bl bc):=by kernel_rfl
  have j:X8 (.lst []) (.lst [])=ba (.bl bc):=by kernel_rfl
  have i:a8 "Shop" "names" 2 1 [] Y7 cK [.va (O5 ns),.ow (QP (n+1)),.ow (TD cs [] [] []),.va (.bl bc)]=ba (.lst [],[.va (O5 ns),.ow (QP (n+1)),.ow (TD cs [] [] []),.va (.bl bc)]):=by kernel_rfl
  have c:noS (rf 0)=bc:=rfl;have b:okB [.va (O5 ns),.ow (QP (n+1)),.ow (TD cs [] [] []),.va (.bl bc)] [AV.d (.int 1),AV.o 2,AV.d (.str "a"),AV.d x,AV.d .non]=bc:=rfl;unfold ga5;generalize TD cs [] [] []=l at*;simp[g,a,k,j,i,bB,c,b]
 unfold aI;rw[U9,oE,show WR [1,2] 4 [O5 ns,QP n,TD cs [] [] []]=[.va (O5 ns),.ow (QP n),.ow (TD cs [] [] []),.no] from rfl,TC iF,TC Zw,TC fA,TC lS,h];rfl
noncomputable def gl1:VS:=(aN 1 (xO (aQ bY)))
noncomputable def gl2:VS:=(aN 2 (xO (FP "Shop" 2 ZH (aE (f2 W3 (aQ (cT (fC (.int 1)) bY)) (cE 3 [1] ZM (aE (fV 0) (aO 1 (aE (fC (.int 9)) cK))))) cK))))
noncomputable def gl3:VS:=(ZU (Z7 (fB (cE 3 [1,2] aI (aE (fV 0) (aO 1 (aO 2 cK)))))) (cD (fC (.bl be))) bO)
noncomputable def qA1(R:VS):VS:=(cH (aN 3 (xV (fC (.tup [.tup [.str "load",.int 0],.tup [.str "load",.int 1],.tup [.str "store",.int 5,.int 0],.tup [.str "load",.int 5],.tup [.str "store",.int 6,.int 3]])))) (cH (aN 4 (xV (aJ (cT (fC (.int 9)) (cT (fV 3) bY))))) (cH (UZ (a8 "Shop" "keep" 2 3 [0] ZR (aE (fC (.str "a")) (aE (fV 4) cK)))) (cH (RS (YJ (fC (.lst [.non,.int 5,.str "",.str "b",.lst [.str "a"],.str "A",.bl bc]))) (gN 5) BG) (cH (aN 6 (xV (f2 oLt (f1 ZC (a8 "Shop" "cells" 2 1 [] YA cK)) (fC (.int 9))))) (cH (ZU (fB (f2 RP (bB 5 b9 (aE (fC (.int 4)) (aO 2 (aE (fC (.str "a")) (aE (fC (.bl be)) (aE (fC .non) cK)))))) (aJ (cT (fC (.str "name")) (cT (fC (.str "a")) bY))))) (cD (fC (.bl be))) bO) (cH (ZU (fB (f2 RP (bB 5 b9 (aE (fC (.int 4)) (aO 2 (aE (aQ (cT (fC (.str "a")) (cT (fC (.int 5)) bY))) (aE (fC (.bl be)) (aE (fC .non) cK)))))) (fIf (fB (fV 6)) (aJ (cT (fC (.str "refused")) (cT (fC (.int 1)) bY))) (aJ (cT (fC (.str "name")) (cT (fC (.int 5)) bY)))))) (cD (fC (.bl be))) bO) (cH (RS (YJ (aQ (cT (fC .non) (cT (fC (.int 1)) (cT (fC (.int 5)) (cT (fC (.str "2")) (cT (fC (.bl bc)) bY))))))) (gN 5) BF) (cH (ZU (fB (f2 RP (bB 5 b9 (aE (fC (.int 2)) (aO 2 (aE (fC (.str "a")) (aE (fC (.tup [.tup [.int 0,.int 9]])) (aE (fC (.int 2)) cK)))))) (aJ (cT (fC (.str "refused")) (cT (fC (.int 4)) bY))))) (cD (fC (.bl be))) bO) R)))))))))
noncomputable def qB1:VS:=(ZU (fB (f2 RP (bB 5 b9 (aE (fC (.int 2)) (aO 2 (aE (fC (.str "a")) (aE (fC (.tup [.tup [.int 2,.int 4]])) (aE (fC (.int 2)) cK)))))) (fC (.tup [.str "not",.tup [.tup [.int 2,.int 4]]])))) (cD (fC (.bl be))) bO)
noncomputable def qC1:VS:=(cH (ZU (FG (fB (fV 6)) (fB (f2 RP (bB 5 b9 (aE (fC (.int 3)) (aO 2 (aE (fC (.str "a")) (aE (fC (.bl bc)) (aE (fC .non) cK)))))) (aJ (cT (fC (.str "refused")) (cT (fC (.int 1)) bY)))))) (cD (fC (.bl be))) bO) (cH (RS (YJ (aQ (cT (fC .non) (cT (aJ (cT (fC (.int 1)) bY)) (cT (aQ (cT (fC (.int 1000)) bY)) (cT (f2 W3 (aQ (cT (fC (.int 0)) bY)) (fC (.int 65))) (cT (aQ (cT (fC (.str "0")) bY)) (cT (aQ (cT (fC (.bl bc)) bY)) bY)))))))) (gN 5) BE) (cH (UZ (a8 "Shop" "grow" 2 2 [0] XM (aE (f2 W3 (aQ (cT (fC (.int 1)) bY)) (fC (.int 9))) cK))) (cH (ZU (fB (f2 RP (bB 5 b9 (aE (fC (.int 3)) (aO 2 (aE (fC (.str "a")) (aE (fC (.bl bc)) (aE (fC .non) cK)))))) (aJ (cT (fC (.str "refused")) (cT (fC (.int 4)) bY))))) (cD (fC (.bl be))) bO) (cH (ZU (fB (f2 RP (bB 5 b9 (aE (fC (.int 4)) (aO 2 (aE (aQ (cT (fC (.str "a")) (cT (fC (.str "a")) bY))) (aE (fC (.bl bc)) (aE (fC .non) cK)))))) (aJ (cT (fC (.str "refused")) (cT (fC (.int 4)) bY))))) (cD (fC (.bl be))) bO) (cD (RN (f2 X8 (a8 "Shop" "log" 2 1 [] VT cK) (fC (.lst [.tup [.str "keep",.str "a"],.tup [.str "grow",.int 9]]))) (RN (f2 OQ (a8 "Shop" "plan" 2 2 [] YK (aE (fC (.str "a")) cK)) (fC .non)) (f2 X8 (a8 "Shop" "block" 2 2 [] Y6 (aE (fC (.str "a")) cK)) (fV 4))))))))))
def lN:Wh=cH gl1 (cH gl2 (cH gl3 (qA1 (cH qB1 qC1)))):=rfl
noncomputable abbrev kR:List cZ:=[.tup [.str "load",.int 0],.tup [.str "load",.int 1],.tup [.str "store",.int 5,.int 0],.tup [.str "load",.int 5],.tup [.str "store",.int 6,.int 3]]
abbrev kD:cZ:=.tup [.int 9,.tup kR]
abbrev pl:cZ:=.tup [.tup [.int 2,.int 4]]
abbrev SY(c:Nat):List cZ:=Av c (.int 1)
abbrev shK(cs:List cZ):cZ:=TD cs [.inr "a"] [kD] [.tup [.tup [.str "keep",.str "a"],.lst cs,.dct [] [],.dct [] []]]
def kK{c:Nat}(hc:c<9):ZH [.shp "Shop" [] bb [],.lst (SY c)]=ba (.non,[TD (SY c) [] [] []]):=by
 match c,hc with
 |0,_|1,_|2,_|3,_|4,_|5,_|6,_|7,_|8,_=>kernel_rfl
def uz(ns:List Int)(hl:ns.length<=63):∃c:Nat,c<9/\gl2 [.va (O5 ns),.ow (QP 0),.no,.no,.no,.no,.no]=ba (.nx [.va (O5 ns),.ow (QP 1),.ow (TD (SY c) [] [] []),.no,.no,.no,.no]):=by
 have e:=Xf ns 0 (b:=9) (by decide);have f:=Za ns 0 (b:=9) (by decide);have d:=BM ns 0 9 hl (by decide) (by decide);generalize drw ns 0 9=z at*;obtain⟨c,rfl⟩:=Int.eq_ofNat_of_zero_le e;have hc:c<9:=by lia
 refine⟨c,hc,?_⟩;have r:W3 (.lst [.int 1]) (.int (c:Int))=ba (.lst (SY c)):=oG (.int 1) c (by lia) (by lia);have i:=kK hc;unfold gl2;generalize SY c=a at*;simp -implicitDefEqProofs [d,r,FP];rw[show XW [AV.d (.lst a)]=ba [.lst a] from rfl,Ar,if_pos (show[cZ.lst a].length=1 from rfl),i];rfl
def fH{S T:cZ}{R:VS}{c:Nat}(hc:c<9):qA1 R [.va S,.ow T,.ow (TD (SY c) [] [] []),.no,.no,.no,.no]=R [.va S,.ow T,.ow (shK (SY c)),.va (.tup kR),.va kD,.va (.bl bc),.va (.bl bc)]:=by
 match c,hc with
 |0,_|1,_|2,_|3,_|4,_|5,_|6,_|7,_|8,_=>kernel_rfl
def dX{S T:cZ}{c:Nat}(hc:c<9):qRun [] (qC1 [.va S,.ow T,.ow (shK (SY c)),.va (.tup kR),.va kD,.va (.bl bc),.va (.bl bc)])=ba (.bl bc,[]):=by
 match c,hc with
 |0,_|1,_|2,_|3,_|4,_|5,_|6,_|7,_|8,_=>kernel_rfl
abbrev tI(p:List Int):cZ:=.tup (p.map .int)
noncomputable abbrev kP:cZ:=.lst [tI [0,2],tI [2,3],tI [3,4]]
abbrev kZ:List (List Int):=[[0],[1],[2,4],[3]]
abbrev kN:cZ:=.lst (kZ.map tI)
noncomputable abbrev kWt:cZ:=.dcn (G5 kZ) [.lst [],.lst [],.lst [tI [0],tI [3]],.lst [tI [2,4]]]
def gI:VU [kD,pl]=ba (kN,[]):=by kernel_rfl
def ur:YB [kD]=ba (kP,[]):=by kernel_rfl
def pF:VV [kP,kN]=ba (kWt,[]):=by kernel_rfl
def qW:Q5 (fB (f2 oLt (f1 Vz (fO 3)) (f1 ZC (fV 1)))) SH [.va kP,.va kN,.va kWt,.ow (.dcn [] []),.no]=ba (.rt .non [.va kP,.va kN,.va kWt,.ow (.dcn (G5 [[0],[1]]) [.bl bc,.bl bc]),.va .non]):=AQ (n:=4) (by kernel_rfl)
def by_k:Y9 [kP,kN]=ba (.non,[]):=by unfold Y9;rw[U9];unfold UC;have w:=qW;have h:=pF;generalize kP=P at*;simp[WR,h,w]
def rT:WD [kD,pl]=ba (.non,[]):=by have d:=ur;have c:=gI;have a:=by_k;unfold WD;rw[U9];unfold OJ;generalize kD=b at*;generalize kP=P at*;simp[WR,d,c,a]
def Zj{a b:VZ}{δ:Ev}(h:a δ=bb):VD a b δ=b δ:=by unfold VD;rw[h]
def Xd{g:VS}{b:VZ}{δ δ1:Ev}(h:g δ=ba (.nx δ1)):WC g b δ=b δ1:=by unfold WC;rw[h]
def pN{cs hs:List cZ}:YN [TD cs [.inr "a"] [kD] hs,.str "a",pl,.int 2]=ba ((("NotValid":Uq),ba (("packs":Uq),pl)):Xw):=by
 have h:=rT;have i:OQ .non .non=ba (.bl bc):=by kernel_rfl
 unfold YN UY TR;rw[show WR [] 5 [TD cs [.inr "a"] [kD] hs,.str "a",pl,.int 2]=[.va (TD cs [.inr "a"] [kD] hs),.va (.str "a"),.va pl,.va (.int 2),.no] from rfl,Zj (by kernel_rfl),Xd (δ1:=[.va (TD cs [.inr "a"] [kD] hs),.va (.str "a"),.va pl,.va (.int 2),.va kD]) (by kernel_rfl),Zj (by kernel_rfl),Xd (δ1:=[.va (TD cs [.inr "a"] [kD] hs),.va (.str "a"),.va pl,.va (.int 2),.va kD]) (by kernel_rfl)];generalize kD=b at*;simp[h,i,O6,UK]
def kM:qRet bb=bb:=(rfl)
def qS_0{g:VS}:qS bb g=bb:=(rfl)
def pl4{a b c d:cZ}:XW [.d a,.d b,.d c,.d d]=ba [a,b,c,d]:=(rfl)
def qG{cs hs:List cZ}:b9 [.int 2,TD cs [.inr "a"] [kD] hs,.str "a",pl,.int 2]=ba (.tup [.str "not",pl],[]):=by have h:=pN (cs:=cs) (hs:=hs);have m:∀a b c e f,shpM "Shop" "pack" [a,.va (TD cs [.inr "a"] [kD] hs),b,c,e,f] 1=bc:=λ_ _ _ _ _=>rfl;unfold b9;rw[U9];unfold OI;generalize TD cs [.inr "a"] [kD] hs=d at*;simp[WR,Wd,CQ,aB,MV,tR,h,m,VD,WC,O6,K6,aK,qS_0,kM,pl4,DN,MA]
end L2
namespace RR
open PySem L2
def oN(ns:List Int)(hl:ns.length<=63):JD [.lst (ns.map .int)]=ba (.bl bc,[]):=by
 obtain⟨c,hc,k⟩:=uz ns hl;have j:gl3 [.va (O5 ns),.ow (QP 1),.ow (TD (SY c) [] [] []),.no,.no,.no,.no]=ba (.nx [.va (O5 ns),.ow (QP 2),.ow (TD (SY c) [] [] []),.no,.no,.no,.no]):=by have f:=eX ns 1 (SY c) hl (by decide);unfold gl3;generalize TD (SY c) [] [] []=b at*;simp[f]
 have h:qB1 [.va (O5 ns),.ow (QP 2),.ow (shK (SY c)),.va (.tup kR),.va kD,.va (.bl bc),.va (.bl bc)]=ba (.nx [.va (O5 ns),.ow (QP 2),.ow (shK (SY c)),.va (.tup kR),.va kD,.va (.bl bc),.va (.bl bc)]):=by
  have a:b9 [.int 2,shK (SY c),.str "a",pl,.int 2]=ba (.tup [.str "not",pl],[]):=qG;have n:RP (.tup [.str "not",pl]) (.tup [.str "not",pl])=ba (.bl be):=by kernel_rfl
  have g:noS (.tup [.str "not",pl])=bc:=rfl;have e:∀x y,okB [.va (O5 ns),.ow (QP 2),.ow (shK (SY c)),.va (.tup kR),.va kD,x,y] [AV.d (.int 2),AV.o 2,AV.d (.str "a"),AV.d pl,AV.d (.int 2)]=bc:=λ_ _=>rfl;unfold qB1;generalize shK (SY c)=b at*;simp[a,n,g,e,bB]
 have i:=dX (S:=O5 ns) (T:=QP 2) hc;unfold JD;rw[U9,lN,show WR [] 7 [.lst (ns.map .int)]=[.va (O5 ns),.no,.no,.no,.no,.no,.no] from rfl,TC (δ1:=[.va (O5 ns),.ow (QP 0),.no,.no,.no,.no,.no]) rfl,TC k,TC j,fH hc,TC h];exact i
end RR
namespace KK
open PySem PySem.W
abbrev g(a i:Nat)(n:Uq)(d m:Uo):Vc:=⟨.type "function",bb,.func (fnOf n n (L2.a7 (RR.top i)) (L2.bT (RR.top i)) (L2.c7 (RR.top i)) d .none .none m bb (.ref (a-1)) .none),#[]⟩
def p(P:Nq)(a i:Nat)(n:Uq)(m:Uo)(d:nsIn (K P) Ur n=ba (ba (.ref a)):=by kernel_rfl)(b:(K P).lookup a=ba (g a i n .none m):=by kernel_rfl)(c:codeIn (K P) (.ref (a-1)) n=bc:=by kernel_rfl):L2.A4 (K P) n (RR.top i) a:=L2.a4 d b c (by unfold keepIn;simp only[b])
abbrev gs(a i j:Nat)(n q:Uq)(d k m:Uo):Vc:=⟨.type "function",bb,.func (fnOf n q (L2.a7 (RR.mem i j)) (L2.bT (RR.mem i j)) (L2.c7 (RR.mem i j)) d k .none m bb (.ref (a-1)) .none),#[]⟩
def M2(P:Nq):L2.Cls (K P) 835:=⟨by kernel_rfl,by kernel_rfl,by kernel_rfl,by kernel_rfl⟩
def aX(P:Nq)(a i j:Nat)(n q:Uq)(d k m:Uo)(g:nsIn (K P) Ur "Shop"=ba (ba (.ref 835)):=by kernel_rfl)(f:findIn (K P) (.ref 835) n=ba (ba (.ref a)):=by kernel_rfl)(e:isFn (K P) (.ref a)=bc:=by kernel_rfl)(b:(K P).lookup a=ba (gs a i j n q d k m):=by kernel_rfl)(c:codeIn (K P) (.ref (a-1)) q=bc:=by kernel_rfl):L2.A4s (K P) "Shop" n q (RR.mem i j) d a:=⟨835,_,_,_,_,_,_,_,_,_,g,M2 P,f,e,b,c,by unfold keepIn;simp only[b]⟩
end KK
namespace RR
open PySem L2
abbrev Zn(K:Ag)(x:Uq):Prop:=Cq K Ur x=ba bb
abbrev Gn(K:Ag)(x:Uq)(v:Uo):Prop:=Cq K Ur x=ba (ba v)
theorem SD{b:Type}{P:List b->Prop}(z:∀a,P [a]):∀us:List b,us.length=1->P us
 |[a],_=>z a
theorem X9{c:Type}{P:List c->Prop}(z:∀a b,P [a,b]):∀us:List c,us.length=2->P us
 |[a,b],_=>z a b
theorem SG{d:Type}{P:List d->Prop}(z:∀a b c,P [a,b,c]):∀us:List d,us.length=3->P us
 |[a,b,c],_=>z a b c
theorem Len4{e:Type}{P:List e->Prop}(z:∀a b c d,P [a,b,c,d]):∀us:List e,us.length=4->P us
 |[a,b,c,d],_=>z a b c d
theorem Len5{f:Type}{P:List f->Prop}(z:∀a b c d e,P [a,b,c,d,e]):∀us:List f,us.length=5->P us
 |[a,b,c,d,e],_=>z a b c d e
def DO{K:Ag}{fd:Bq}(f:Up)(F:aC K "__init__" "NoName.__init__" (mem 12 0) f fd):LB K "NoName.__init__" (mem 12 0) "name" "there is no such name" f fd:=
 ⟨F,bE,F.binds λ_ _ _ _ _ _=>X9 λ_ _=>rfl,rfl,rfl,rfl,by decide,by decide,⟨_,_,_,_,_,_,_,_,_,_,_,_,rfl,λ_ _=>rfl,λ_ _=>rfl,λ_ _=>rfl⟩⟩
def HN{K:Ag}{fd:Bq}(f:Up)(F:aC K "__init__" "NotValid.__init__" (mem 15 0) f fd):LB K "NotValid.__init__" (mem 15 0) "packs" "the plan is not valid" f fd:=
 ⟨F,bE,F.binds λ_ _ _ _ _ _=>X9 λ_ _=>rfl,rfl,rfl,rfl,by decide,by decide,⟨_,_,_,_,_,_,_,_,_,_,_,_,rfl,λ_ _=>rfl,λ_ _=>rfl,λ_ _=>rfl⟩⟩
def zMC{l:Tz}{w:Uw}{K:Ag}{h:Uy}{mg:Uq->Option Uo}{V:Up}(X:K.In h)(G:h.Ns Ur mg)(n:mg "law"=ba (.ref V)){C_Shop T_Shop U_Shop f_x0 f_x1 f_x2 f_x3 f_x4 f_x5 f_x6 f_x7 f_x8 f_x9 f_x10 f_x11 f_x12 f_x13 f_x14 f_x15 f_x16 f_x17 f_x18 f_x19 f_x20 f_x21 f_x22 f_x23 f_x24 f_x25 f_x26 f_x27 f_x28 f_x29 f_x30 f_x31 f_x32 f_x33 f_x34 f_x35 f_x36 f_x37 f_x57 f_x58 f_x42 f_x45 f_x46 f_x47 f_x48 f_x49 f_x59 f_x60 f_x54 f_x55 f_x38 f_x43 f_x44 f_x51 f_x53 f_x39 f_x41 f_x50 f_x52 f_x56 f_x40:Up}{kV_x40 dc_x40 pm_x40 cd_x40 ct_x40:Uo}{t1 t2 t3 t4 t5 t6 t7 t8:Vi}{a9:Up}{t10 t11 t12 t13 t14:Vi}{a15:Up}{t16 t17 t18 t19 t20 t21 t22:Vi}{a23:Up}{t24 t25 t26:Vi}{a27:Up}{t28:Vi}{a29:Up}{t30 t31 t32:Vi}{a33:Up}{t34 t35:Vi}{a36:Up}{t37 t38 t39:Vi}{a40 a41:Up}{h42 h43 h44 h45 h46 h47:Int}{t48 t49:Vi}{a50:Up}{t51 t52:Vi}{a53:Up}{t54 t55 t56 t57 t58:Vi}{a59 a60 a61 a62 a63 a64 a65 a66 a67 a68 a69 a70 a71 a72:Up}(c:Cq K Ur "Shop"=ba (ba (.ref C_Shop)))(M2:Cls K C_Shop)(f7:Z9 K C_Shop "held")(f6:Z9 K C_Shop "kept")(du:Z9 K C_Shop "sided")(cu:Z9 K C_Shop "history")(I:Oz K C_Shop=bc)(H:Fh K (.ref C_Shop)=bc)(J:K.lookup T_Shop=ba ⟨.type "tuple",bb,.seq #[.ref U_Shop] 0,#[]⟩)(sr:A4 K "is_whole" (top 20) f_x0)(so:A4 K "parts_of" (top 39) f_x1)(sk:A4 K "makes_word" (top 40) f_x2)(sj:A4 K "place_of" (top 41) f_x3)(si:A4 K "names_of" (top 42) f_x4)(sg:A4 K "may_name" (top 44) f_x5)(sf:A4 K "fits" (top 45) f_x6)(rq:A4 K "is_row" (top 46) f_x7)(ro:A4 K "is_block" (top 47) f_x8)(rn:A4 K "writes" (top 49) f_x9)(om:A4 K "is_safe_number" (top 50) f_x10)(oj:A4 K "can_fault" (top 51) f_x11)(oh:A4 K "share_written_cell" (top 52) f_x12)(og:A4 K "must_stay" (top 53) f_x13)(oa:A4 K "must_pairs" (top 54) f_x14)(o9:A4 K "is_lanes" (top 58) f_x15)(o8:A4 K "may_follow" (top 59) f_x16)(o7:A4 K "is_pack" (top 60) f_x17)(o6:A4 K "rows_within" (top 61) f_x18)(ny:A4 K "fits_plan" (top 62) f_x19)(x:A4 K "check_lanes" (top 63) f_x20)(y:A4 K "check_plan" (top 64) f_x21)(nw:A4 K "rows_alone" (top 65) f_x22)(nv:A4 K "nodes_of" (top 66) f_x23)(nu:A4 K "waits_of" (top 67) f_x24)(nr:A4 K "next_node" (top 68) f_x25)(nq:A4 K "ordered_by" (top 69) f_x26)(nk:A4 K "ordered" (top 70) f_x27)(nj:A4 K "is_cells" (top 77) f_x28)(ni:A4 K "is_name" (top 100) f_x29)(nh:A4 K "with_entry" (top 101) f_x30)(ng:A4 K "without_entry" (top 102) f_x31)(n6:A4 K "_law_cell_at" (top 105) f_x32)(n5:A4 K "_law_mixed" (top 106) f_x33)(n4:A4 K "_law_draw" (top 107) f_x34)(mz:A4 K "_law_pick" (top 108) f_x35)(my:A4 K "_law_which" (top 109) f_x36)(mx:A4 K "_law_none" (top 110) f_x37)(m8:A4s K "Shop" "__init__" "Shop.__init__" (mem 103 0) (.ref T_Shop) f_x57)(m6:A4s K "Shop" "keep" "Shop.keep" (mem 103 3) (.none) f_x58)(z:A4s K "Shop" "known" "Shop.known" (mem 103 1) (.none) f_x42)(mn:A4s K "Shop" "pack" "Shop.pack" (mem 103 4) (.none) f_x45)(mm:A4s K "Shop" "outcome" "Shop.outcome" (mem 103 5) (.none) f_x46)(mj:A4s K "Shop" "run" "Shop.run" (mem 103 6) (.none) f_x47)(mi:A4s K "Shop" "together" "Shop.together" (mem 103 7) (.none) f_x48)(mh:A4s K "Shop" "drop" "Shop.drop" (mem 103 8) (.none) f_x49)(m5:A4s K "Shop" "grow" "Shop.grow" (mem 103 9) (.none) f_x59)(m4:A4s K "Shop" "back" "Shop.back" (mem 103 10) (.none) f_x60)(A:A4s K "Shop" "block" "Shop.block" (mem 103 13) (.none) f_x54)(B:A4s K "Shop" "plan" "Shop.plan" (mem 103 14) (.none) f_x55)(mw:A4 K "_law_ask" (top 111) f_x38)(mq:A4s K "Shop" "settle" "Shop.settle" (mem 103 2) (.none) f_x43)(mo:A4s K "Shop" "keep" "Shop.keep" (mem 103 3) (.none) f_x44)(me:A4s K "Shop" "back" "Shop.back" (mem 103 10) (.none) f_x51)(ma:A4s K "Shop" "names" "Shop.names" (mem 103 12) (.none) f_x53)(mv:A4 K "_law_at_first" (top 112) f_x39)(mr:A4s K "Shop" "__init__" "Shop.__init__" (mem 103 0) (.ref T_Shop) f_x41)(mf:A4s K "Shop" "grow" "Shop.grow" (mem 103 9) (.none) f_x50)(md:A4s K "Shop" "cells" "Shop.cells" (mem 103 11) (.none) f_x52)(m9:A4s K "Shop" "log" "Shop.log" (mem 103 15) (.none) f_x56)(rk:Cq K Ur "law"=ba (ba (.ref f_x40)))(qf:K.lookup f_x40=ba ⟨.type "function",bb,.func (Hi "law" "law" (a7 (top 113)) (bT (top 113)) (c7 (top 113)) .none kV_x40 dc_x40 pm_x40 bb cd_x40 ct_x40),#[]⟩)(rj:Kn K cd_x40 "law"=bc)(qh:Fh K (.ref f_x40)=bc)(lu:Zn K "len")(ka:Zn K "range")(lr:Zn K "min")(l8:Zn K "list")(k9:Zn K "tuple")(ip:Zn K "sorted")(dq:Zn K "isinstance")(la:Zn K "bool")(lw:Zn K "int")(ln:Zn K "str")(lm:Zn K "zip")(ly:Zn K "all")(lx:Zn K "any")(l9:Zn K "dict")(dt:Zn K "ValueError")(lq:Zn K "set")(g7:Gn K "MOST_WORD" (.int 999 t1))(su:K.lookup a9=ba ⟨.type "tuple",bb,.seq #[.str "plus" t2,.str "minus" t3,.str "times" t4,.str "least" t5,.str "most" t6,.str "less" t7,.str "over" t8] 0,#[]⟩)(ki:Gn K "DEEDS" (.ref a9))(g8:Gn K "MOST_SURE" (.int 64 t10))(g9:Gn K "MOST_ROWS" (.int 40 t11))(dz:Gn K "MOST_PLACE" (.int 63 t12))(q8:K.lookup a15=ba ⟨.type "tuple",bb,.seq #[.str "row" t13,.str "row" t14] 0,#[]⟩)(ef:Gn K "DEED_PARTS" (.ref a15))(pz:K.lookup a23=ba ⟨.type "tuple",bb,.seq #[.str "word" t22] 0,#[]⟩)(pw:K.lookup a27=ba ⟨.type "tuple",bb,.seq #[.str "row" t24,.str "row" t25,.str "row" t26] 0,#[]⟩)(pq:K.lookup a29=ba ⟨.type "tuple",bb,.seq #[.str "place" t28] 0,#[]⟩)(pj:K.lookup a33=ba ⟨.type "tuple",bb,.seq #[.str "place" t30,.str "row" t31,.str "row" t32] 0,#[]⟩)(ph:K.lookup a36=ba ⟨.type "tuple",bb,.seq #[.str "place" t34,.str "row" t35] 0,#[]⟩)(oz:K.lookup a40=ba ⟨.type "tuple",bb,.seq #[.str "place" t37,.str "row" t38,.str "row" t39] 0,#[]⟩)(ou:K.lookup a41=ba ⟨.type "dict",bb,.dict #[⟨h42,.str "number" t16,.ref a23⟩,⟨h43,.str "pick" t17,.ref a27⟩,⟨h44,.str "load" t18,.ref a29⟩,⟨h45,.str "take" t19,.ref a33⟩,⟨h46,.str "store" t20,.ref a36⟩,⟨h47,.str "put" t21,.ref a40⟩] 6,#[]⟩)(qb:(a41==Dv)=be)(d5:Gn K "OTHER_PARTS" (.ref a41))(oq:K.lookup a50=ba ⟨.type "tuple",bb,.seq #[.str "load" t48,.str "take" t49] 0,#[]⟩)(ik:Gn K "READERS" (.ref a50))(oo:K.lookup a53=ba ⟨.type "tuple",bb,.seq #[.str "store" t51,.str "put" t52] 0,#[]⟩)(ij:Gn K "WRITERS" (.ref a53))(d6:Gn K "LEAST_LANES" (.int 2 t54))(ed:Gn K "MOST_LANES" (.int 4 t55))(ee:Gn K "MOST_CELLS" (.int 64 t56))(il:Gn K "LETTERS" (.str "abcdefghijklmnopqrstuvwxyz" t57))(cx:Gn K "MOST_LETTERS" (.int 8 t58))(d9:Gn K "Nothing" (.ref a59))(cw:Gn K "NotValid" (.ref a60))(d8:Gn K "TooLong" (.ref a61))(d7:Gn K "TooMany" (.ref a62))(P:Gn K "NoName" (.ref a63))(R:Gn K "NoText" (.ref a64))(O:Gn K "NoLoop" (.ref a65))(S:Gn K "NoTree" (.ref a66))(cm:Gn K "NoProgram" (.ref a67))(Q:Gn K "NoPlan" (.ref a68))(da:Gn K "NoLanes" (.ref a69))(F:Gn K "NoRow" (.ref a70))(de:Gn K "NoCells" (.ref a71))(df:Gn K "NoBlock" (.ref a72))(q:XE K "NoBlock" a72)(r:XE K "NoCells" a71)(t:XE K "NoLanes" a69)(g:XZ K "NoName" "name" a63)(ig:xqOk K MU "NoName" a63=bc)(p:XE K "NoPlan" a68)(k:XZ K "NotValid" "packs" a60)(eu:xqOk K MU "NotValid" a60=bc)(u:XE K "Nothing" a59)(xk:xiOk K MU TL=bc):∃fd:Bq,(∀(s:Ad) (v:Uo),Oa s fd ⟨[v],[]⟩ [("_law_script",v)])/\∀base:Uy,K.In base->base.Ns Ur mg->bZ l.prog w K mg base CX0 11 V fd ["_law_script"] (spV K [] 1 JD):=by
 have e:=n.symm.trans (Cm X G rk);cases e;have T:Txt K mg:=⟨λ_ _ e=>Cm X G e,Dh X G lu,Dh X G ka,Dh X G lr,Dh X G l8,Dh X G k9,Dh X G ip,Dh X G dq,Dh X G la,Dh X G lw,Dh X G ln,Dh X G lm,Dh X G ly,Dh X G lx,Dh X G l9,Dh X G dt,Dh X G lq,⟨_,.ref a9,Cm X G ki,rfl,λ_ _ _=>(.tup (xs:=[.str "plus",.str "minus",.str "times",.str "least",.str "most",.str "less",.str "over"]) (.inr ⟨_,_,_,su,rfl,rfl,(by show 7<=sizeLine;decide),(.cons ⟨_,rfl⟩ (.cons ⟨_,rfl⟩ (.cons ⟨_,rfl⟩ (.cons ⟨_,rfl⟩ (.cons ⟨_,rfl⟩ (.cons ⟨_,rfl⟩ (.cons ⟨_,rfl⟩ .nil))))))),rfl⟩) (.cons (.str _) (.cons (.str _) (.cons (.str _) (.cons (.str _) (.cons (.str _) (.cons (.str _) (.cons (.str _) .nil))))))))⟩,⟨_,.ref a15,Cm X G ef,rfl,λ_ _ _=>(.tup (xs:=[.str "row",.str "row"]) (.inr ⟨_,_,_,q8,rfl,rfl,(by show 2<=sizeLine;decide),(.cons ⟨_,rfl⟩ (.cons ⟨_,rfl⟩ .nil)),rfl⟩) (.cons (.str _) (.cons (.str _) .nil)))⟩,⟨_,.int 2,Cm X G d6,⟨_,rfl⟩,λ_ _ _=>(.int _)⟩,⟨_,.str "abcdefghijklmnopqrstuvwxyz",Cm X G il,⟨_,rfl⟩,λ_ _ _=>(.str _)⟩,⟨_,.int 64,Cm X G ee,⟨_,rfl⟩,λ_ _ _=>(.int _)⟩,⟨_,.int 4,Cm X G ed,⟨_,rfl⟩,λ_ _ _=>(.int _)⟩,⟨_,.int 8,Cm X G cx,⟨_,rfl⟩,λ_ _ _=>(.int _)⟩,⟨_,.int 63,Cm X G dz,⟨_,rfl⟩,λ_ _ _=>(.int _)⟩,⟨_,.int 40,Cm X G g9,⟨_,rfl⟩,λ_ _ _=>(.int _)⟩,⟨_,.int 64,Cm X G g8,⟨_,rfl⟩,λ_ _ _=>(.int _)⟩,⟨_,.int 999,Cm X G g7,⟨_,rfl⟩,λ_ _ _=>(.int _)⟩,⟨_,.ref a41,Cm X G d5,rfl,λ_ _ _=>(.ktb (D:=[("number",.ref a23),("pick",.ref a27),("load",.ref a29),("take",.ref a33),("store",.ref a36),("put",.ref a40)]) ⟨qb,_,_,_,ou,⟨rfl,rfl,rfl⟩,rfl,(.cons rfl rfl (.cons rfl rfl (.cons rfl rfl (.cons rfl rfl (.cons rfl rfl (.cons rfl rfl .nil))))))⟩ (.cons (.tup (xs:=[.str "word"]) (.inr ⟨_,_,_,pz,rfl,rfl,(by show 1<=sizeLine;decide),(.cons ⟨_,rfl⟩ .nil),rfl⟩) (.cons (.str _) .nil)) (.cons (.tup (xs:=[.str "row",.str "row",.str "row"]) (.inr ⟨_,_,_,pw,rfl,rfl,(by show 3<=sizeLine;decide),(.cons ⟨_,rfl⟩ (.cons ⟨_,rfl⟩ (.cons ⟨_,rfl⟩ .nil))),rfl⟩) (.cons (.str _) (.cons (.str _) (.cons (.str _) .nil)))) (.cons (.tup (xs:=[.str "place"]) (.inr ⟨_,_,_,pq,rfl,rfl,(by show 1<=sizeLine;decide),(.cons ⟨_,rfl⟩ .nil),rfl⟩) (.cons (.str _) .nil)) (.cons (.tup (xs:=[.str "place",.str "row",.str "row"]) (.inr ⟨_,_,_,pj,rfl,rfl,(by show 3<=sizeLine;decide),(.cons ⟨_,rfl⟩ (.cons ⟨_,rfl⟩ (.cons ⟨_,rfl⟩ .nil))),rfl⟩) (.cons (.str _) (.cons (.str _) (.cons (.str _) .nil)))) (.cons (.tup (xs:=[.str "place",.str "row"]) (.inr ⟨_,_,_,ph,rfl,rfl,(by show 2<=sizeLine;decide),(.cons ⟨_,rfl⟩ (.cons ⟨_,rfl⟩ .nil)),rfl⟩) (.cons (.str _) (.cons (.str _) .nil))) (.cons (.tup (xs:=[.str "place",.str "row",.str "row"]) (.inr ⟨_,_,_,oz,rfl,rfl,(by show 3<=sizeLine;decide),(.cons ⟨_,rfl⟩ (.cons ⟨_,rfl⟩ (.cons ⟨_,rfl⟩ .nil))),rfl⟩) (.cons (.str _) (.cons (.str _) (.cons (.str _) .nil)))) .nil)))))))⟩,⟨_,.ref a50,Cm X G ik,rfl,λ_ _ _=>(.tup (xs:=[.str "load",.str "take"]) (.inr ⟨_,_,_,oq,rfl,rfl,(by show 2<=sizeLine;decide),(.cons ⟨_,rfl⟩ (.cons ⟨_,rfl⟩ .nil)),rfl⟩) (.cons (.str _) (.cons (.str _) .nil)))⟩,⟨_,.ref a53,Cm X G ij,rfl,λ_ _ _=>(.tup (xs:=[.str "store",.str "put"]) (.inr ⟨_,_,_,oo,rfl,rfl,(by show 2<=sizeLine;decide),(.cons ⟨_,rfl⟩ (.cons ⟨_,rfl⟩ .nil)),rfl⟩) (.cons (.str _) (.cons (.str _) .nil)))⟩,⟨_,.ref a59,Cm X G d9,rfl,λ_ _ _=>.fn d9⟩,⟨_,.ref a60,Cm X G cw,rfl,λ_ _ _=>.fn cw⟩,⟨_,.ref a61,Cm X G d8,rfl,λ_ _ _=>.fn d8⟩,⟨_,.ref a62,Cm X G d7,rfl,λ_ _ _=>.fn d7⟩,⟨_,.ref a63,Cm X G P,rfl,λ_ _ _=>.fn P⟩,⟨_,.ref a64,Cm X G R,rfl,λ_ _ _=>.fn R⟩,⟨_,.ref a65,Cm X G O,rfl,λ_ _ _=>.fn O⟩,⟨_,.ref a66,Cm X G S,rfl,λ_ _ _=>.fn S⟩,⟨_,.ref a67,Cm X G cm,rfl,λ_ _ _=>.fn cm⟩,⟨_,.ref a68,Cm X G Q,rfl,λ_ _ _=>.fn Q⟩,⟨_,.ref a69,Cm X G da,rfl,λ_ _ _=>.fn da⟩,⟨_,.ref a70,Cm X G F,rfl,λ_ _ _=>.fn F⟩,⟨_,.ref a71,Cm X G de,rfl,λ_ _ _=>.fn de⟩,⟨_,.ref a72,Cm X G df,rfl,λ_ _ _=>.fn df⟩,iG c M2 f7 f6 du cu,⟨_,q,Cm X G q.xc.at_⟩,⟨_,r,Cm X G r.xc.at_⟩,⟨_,t,Cm X G t.xc.at_⟩,⟨_,g,Cm X G g.xc.at_⟩,⟨_,Cm X G g.xc.at_,XQ.of ig⟩,⟨_,p,Cm X G p.xc.at_⟩,⟨_,k,Cm X G k.xc.at_⟩,⟨_,Cm X G k.xc.at_,XQ.of eu⟩,⟨_,u,Cm X G u.xc.at_⟩,XI.of (Ee.mpr ⟨⟨_,q.xc⟩,Ee.mpr ⟨⟨_,r.xc⟩,Ee.mpr ⟨⟨_,t.xc⟩,Ee.mpr ⟨⟨_,g.xc⟩,Ee.mpr ⟨⟨_,p.xc⟩,Ee.mpr ⟨⟨_,k.xc⟩,Ee.mpr ⟨⟨_,u.xc⟩,nofun⟩⟩⟩⟩⟩⟩⟩) xk⟩;have rl:=QX (st:=top 113) qf rj qh;refine⟨Hi "law" "law" (a7 (top 113)) (bT (top 113)) (c7 (top 113)) .none kV_x40 dc_x40 pm_x40 bb cd_x40 ct_x40,λs v=>.of_eq rfl,λbase _ _=>?_⟩;have b:b7 l.prog w K mg base "is_whole" 1 Qx0 [] bD f_x0:=ZN X G sr (λU=>mZ U T) (SG λ_ _ _=>rfl);have C:b7 l.prog w K mg base "parts_of" 1 Qx1 [] X1 f_x1:=ZN X G so (λU=>nZ U T) (SD λ_=>rfl);have ll:b7 l.prog w K mg base "makes_word" 1 Qx2 [] WF f_x2:=ZN X G sk (λU=>pG U T) (SD λ_=>rfl);have o:b7 l.prog w K mg base "place_of" 1 Qx3 [] Z4 f_x3:=ZN X G sj (λU=>dZ U T) (SD λ_=>rfl);have E:b7 l.prog w K mg base "names_of" 2 Qx4 [] X0 f_x4:=ZN X G si (λU=>hW U T C) (SD λ_=>rfl);have lj:b7 l.prog w K mg base "may_name" 2 Qx5 [] T5 f_x5:=ZN X G sg (λU=>pJ U T b) (X9 λ_ _=>rfl);have li:b7 l.prog w K mg base "fits" 3 Qx6 [] HB f_x6:=ZN X G sf (λU=>lR U T b lj) (SG λ_ _ _=>rfl);have lh:b7 l.prog w K mg base "is_row" 4 Qx7 [] O8 f_x7:=ZN X G rq (λU=>mG U T C li) (X9 λ_ _=>rfl);have f:b7 l.prog w K mg base "is_block" 5 Qx8 [] aH f_x8:=ZN X G ro (λU=>oY U T b ll lh) (SD λ_=>rfl);have N:b7 l.prog w K mg base "writes" 1 Qx9 [] XO f_x9:=ZN X G rn (λU=>mI U T) (SD λ_=>rfl);have k8:b7 l.prog w K mg base "is_safe_number" 1 Qx10 [] Y8 f_x10:=ZN X G om (λU=>mX U T) (SD λ_=>rfl);have i9:b7 l.prog w K mg base "can_fault" 2 Qx11 [] XN f_x11:=ZN X G oj (λU=>dR U T o k8) (X9 λ_ _=>rfl);have k7:b7 l.prog w K mg base "share_written_cell" 2 Qx12 [] Z6 f_x12:=ZN X G oh (λU=>fG U T o N) (X9 λ_ _=>rfl);have k6:b7 l.prog w K mg base "must_stay" 3 Qx13 [] VH f_x13:=ZN X G og (λU=>lT U T E N i9 k7) (SG λ_ _ _=>rfl);have k4:b7 l.prog w K mg base "must_pairs" 4 Qx14 [] YB f_x14:=ZN X G oa (λU=>mJ U T k6) (SD λ_=>rfl);have W:b7 l.prog w K mg base "is_lanes" 2 Qx15 [] XY f_x15:=ZN X G o9 (λU=>gR U T b) (SD λ_=>rfl);have jz:b7 l.prog w K mg base "may_follow" 2 Qx16 [] WG f_x16:=ZN X G o8 (λU=>fF U T o) (SG λ_ _ _=>rfl);have jy:b7 l.prog w K mg base "is_pack" 3 Qx17 [] RU f_x17:=ZN X G o7 (λU=>jB U T b E jz) (SG λ_ _ _=>rfl);have Y:b7 l.prog w K mg base "rows_within" 1 Qx18 [] ZK f_x18:=ZN X G o6 (λU=>tL U T) (SD λ_=>rfl);have Z:b7 l.prog w K mg base "fits_plan" 4 Qx19 [] YL f_x19:=ZN X G ny (λU=>eD U T jy Y) (SG λ_ _ _=>rfl);have gy:DefX l.prog w K mg base "check_lanes" 6 KS XV f_x20:=Xa X G x (λU=>lD U T f W) (X9 λ_ _=>rfl);have dj:b7 l.prog w K mg base "check_lanes" 6 KS [] ZJ f_x20:=ZN X G x (λU=>rZ U T f W) (X9 λ_ _=>rfl);have gw:DefX l.prog w K mg base "check_plan" 7 HC WO f_x21:=Xa X G y (λU=>iI U T Z dj gy) (SG λ_ _ _=>rfl);have jx:b7 l.prog w K mg base "check_plan" 7 HC [] WE f_x21:=ZN X G y (λU=>iC U T Z dj) (SG λ_ _ _=>rfl);have jw:b7 l.prog w K mg base "rows_alone" 2 Qx22 [] WH f_x22:=ZN X G nw (λU=>tW U T Y) (X9 λ_ _=>rfl);have jv:b7 l.prog w K mg base "nodes_of" 3 Qx23 [] VU f_x23:=ZN X G nv (λU=>jO U T jw) (X9 λ_ _=>rfl);have ju:b7 l.prog w K mg base "waits_of" 1 Qx24 [] VV f_x24:=ZN X G nu (λU=>eR U T) (X9 λ_ _=>rfl);have jt:b7 l.prog w K mg base "next_node" 1 Qx25 [] VJ f_x25:=ZN X G nr (λU=>dG U T) (SG λ_ _ _=>rfl);have js:b7 l.prog w K mg base "ordered_by" 2 Qx26 [] Y9 f_x26:=ZN X G nq (λU=>lP U T ju jt) (X9 λ_ _=>rfl);have jr:b7 l.prog w K mg base "ordered" 5 Qx27 [] WD f_x27:=ZN X G nk (λU=>sQ U T k4 jv js) (X9 λ_ _=>rfl);have i:b7 l.prog w K mg base "is_cells" 2 FA [] Z3 f_x28:=ZN X G nj (λU=>pI U T b) (X9 λ_ _=>rfl);have j:b7 l.prog w K mg base "is_name" 1 FC [] ZV f_x29:=ZN X G ni (λU=>gM U T) (SD λ_=>rfl);have jq:b7 l.prog w K mg base "with_entry" 1 Qx30 [] WI f_x30:=ZN X G nh (λU=>iB U T) (SG λ_ _ _=>rfl);have jo:b7 l.prog w K mg base "without_entry" 1 Qx31 [] YW f_x31:=ZN X G ng (λU=>uX U T) (X9 λ_ _=>rfl);have jn:b7 l.prog w K mg base "_law_cell_at" 1 Qx32 [] aM f_x32:=ZN X G n6 (λU=>oW U T) (X9 λ_ _=>rfl);have jm:b7 l.prog w K mg base "_law_mixed" 2 Qx33 [] YM f_x33:=ZN X G n5 (λU=>rK U T jn) (SG λ_ _ _=>rfl);have di:b7 l.prog w K mg base "_law_draw" 3 Qx34 [1] ZM f_x34:=ZN X G n4 (λU=>iK U T jm) (SG λ_ _ _=>rfl);have jl:b7 l.prog w K mg base "_law_pick" 4 Qx35 [1] YS f_x35:=ZN X G mz (λU=>eM U T di) (SG λ_ _ _=>rfl);have h8:DefH l.prog w K mg base "_law_which" 1 Qx36 (spV K [] 1 VE) f_x36:=iZ X G my (λU=>jK U T) (SD λ_=>rfl);have jk:b7 l.prog w K mg base "_law_none" 5 Qx37 [1] YR f_x37:=ZN X G mx (λU=>mQ U T jl) (X9 λ_ _=>rfl);have gn:NewX l.prog w K mg base "Shop" 3 2 ZA:=rD m8 c (Cm X G c) I H J rfl (ps:=Qx57) (λ_ _ _ _ _ _ m hl=>match m,hl with|[_,_],_=>⟨_,rfl,rfl⟩) (λU=>sO U T i);have gm:ZD l.prog w K mg base "Shop" "keep" 6 Qx58 WN f_x58:=SV m6 (λU=>lO U T f j) (SG λ_ _ _=>rfl);have d:ZD l.prog w K mg base "Shop" "known" 2 T7 bF f_x42:=SV z (λU=>uD U T j) (X9 λ_ _=>rfl);have a:Y4 l.prog w K mg base "Shop" "known" 2 T7 (spV K [] 2 bJ) f_x42:=RH z (λU=>oF U T j) (X9 λ_ _=>rfl);have et:SA l.prog w K mg base "Shop" "pack" 8 Qx45 "lanes" YN f_x45:=HX mn (λU=>uJ U T jx jr a gw d) (by decide) (SG λ_ _ _=>λ_=>rfl);have ci:ZD l.prog w K mg base "Shop" "outcome" 3 Qx46 ZW f_x46:=SV mm (λU=>eS U T a d) (Len4 λ_ _ _ _=>rfl);have eh:SA l.prog w K mg base "Shop" "run" 4 Qx47 "packed" T8 f_x47:=HX mj (λU=>dY U T ci) (by decide) (X9 λ_ _=>λ_=>rfl);have eg:SA l.prog w K mg base "Shop" "together" 4 Qx48 "packed" YX f_x48:=HX mi (λU=>pE U T ci) (by decide) (X9 λ_ _=>λ_=>rfl);have gv:ZD l.prog w K mg base "Shop" "drop" 3 Qx49 VL f_x49:=SV mh (λU=>dI U T a d) (X9 λ_ _=>rfl);have gl:ZD l.prog w K mg base "Shop" "grow" 3 Qx59 WM f_x59:=SV m5 (λU=>lQ U T i) (X9 λ_ _=>rfl);have gk:ZD l.prog w K mg base "Shop" "back" 1 Qx60 WK f_x60:=SV m4 (λU=>mU U T) (SD λ_=>rfl);have gu:ZD l.prog w K mg base "Shop" "block" 3 KU WL f_x54:=SV A (λU=>iV U T a d) (X9 λ_ _=>rfl);have L:Y4 l.prog w K mg base "Shop" "block" 3 KU (spV K [] 2 Y6) f_x54:=RH A (λU=>Zs U T a) (X9 λ_ _=>rfl);have gq:ZD l.prog w K mg base "Shop" "plan" 3 KW VM f_x55:=SV B (λU=>ut U T a d) (X9 λ_ _=>rfl);have M:Y4 l.prog w K mg base "Shop" "plan" 3 KW (spV K [] 2 YK) f_x55:=RH B (λU=>tJ U T a) (X9 λ_ _=>rfl);have ao:b7 l.prog w K mg base "_law_ask" 9 Qx38 [] b9 f_x38:=ZN X G mw (λU=>iL U T L M h8 gn gm et eh eg gv gl gk gu gq) (Len5 λ_ _ _ _ _=>rfl);have dh:Y4 l.prog w K mg base "Shop" "settle" 1 Qx43 (spV K [0] 5 ZI) f_x43:=RH mq (λU=>rO U T) (Len5 λ_ _ _ _ _=>rfl);have dg:Y4 l.prog w K mg base "Shop" "keep" 6 Qx44 (spV K [0] 3 ZR) f_x44:=RH mo (λU=>lF U T f j jq jo dh) (SG λ_ _ _=>rfl);have jg:Y4 l.prog w K mg base "Shop" "back" 1 Qx51 (spV K [0] 1 XJ) f_x51:=RH me (λU=>mR U T) (SD λ_=>rfl);have je:Y4 l.prog w K mg base "Shop" "names" 1 Qx53 (spV K [] 1 Y7) f_x53:=RH ma (λU=>oX U T) (SD λ_=>rfl);have jj:b7 l.prog w K mg base "_law_at_first" 10 Qx39 [1,2] aI f_x39:=ZN X G mv (λU=>sV U T dg jg je jk ao) (SG λ_ _ _=>rfl);have ji:NewS l.prog w K mg base "Shop" 3 2 ZH:=uE mr c (Cm X G c) I H J rfl (ps:=Qx41) (λ_ _ _ _ _ _ m hl=>match m,hl with|[_,_],_=>⟨_,rfl,rfl⟩) (λU=>jG U T i);have jh:Y4 l.prog w K mg base "Shop" "grow" 3 Qx50 (spV K [0] 2 XM) f_x50:=RH mf (λU=>mY U T i dh) (X9 λ_ _=>rfl);have jf:Y4 l.prog w K mg base "Shop" "cells" 1 Qx52 (spV K [] 1 YA) f_x52:=RH md (λU=>mB U T) (SD λ_=>rfl);have jd:Y4 l.prog w K mg base "Shop" "log" 1 Qx56 (spV K [] 1 VT) f_x56:=RH m9 (λU=>qE U T) (SD λ_=>rfl);exact sA rl T ji dg jh jf L M jd di ao jj
def zBT(K:Ag)(H:Hp)(a:Up)(ns:List Int)(hl:ns.length<=63)(h:W8 K H a (ns.map V.int)):spV K [] 1 JD [.ref a] H (λv _=>v=.bl bc) λ_ _ _=>False:=by
 have c:cG K (Zp (λ_=>False) [] [.ref a]) H (ns.map V.int) (ns.map cZ.int):=by
  clear h hl;induction ns with
  |nil=>exact .nil
  |cons n ns f=>exact .cons (.int n) f
 have g:∀b,¬Zp (λ_=>False) [] [V.ref a] b:=λb h=>by
  rcases h with h|⟨i,h,_⟩;exact h;cases h
 refine⟨λ_=>False,[.lst (ns.map .int)],.bl bc,[],rfl,⟨rfl,(λi h=>nomatch h),λi d k e=>?_,(λi d h=>nomatch h),(λi j b h=>nomatch h),λa h=>h.elim⟩,oN ns hl,λv l _ _ r=>by cases r;rfl⟩;cases i with
 |zero=>
  cases e;refine⟨_,rfl,?_⟩;rcases h with(h|⟨o,h⟩)|h
  exact .lst h (g a) c;exact .fzl (.inl ⟨o,h⟩) c;exact .fzl (.inr h) c
 |succ i=>cases i<;>cases e
end RR
open PySem PySem.W PyProof.Rows
set_option maxRecDepth 100000 in
set_option maxHeartbeats 0 in
theorem PySem.Challenge.cw_lanepacks_k41_shops_refused_holds : PySem.Challenge.rw_lanepacks_k41_shops_refused.Holds := by
 w_on;refine holds_law KK.said λsaid=>?_
 refine holds_open (q:=KK.view) (loose:=KK.lo) (Xt:=KK.X) (XP:=XL KK.view []) (Yf:=KK.H.obs) (Ya:=KK.H.val) (YP:=KK.H.says) (N:=14434) KK.hl (Hook.of _) (Hook.keeps _) (λs e=>xl_of s (Dn.mp e).1) XL.keeps (by rfl) (by rfl) (by rfl) (λs e=>recFacts_of (Dn.mp e).2) (by rfl) (by first|assumption|decide+kernel) (by decide+kernel) ⟨rfl,rfl,rfl,rfl,rfl,by decide+kernel⟩ ?hw ?hc
 case hw=>w_witness2
 refine L2.zB0 (l:=Kx) (n:=63) (k:=11) (x:= "_law_script") (CX:=L2.CX0) (sp:=λK=>L2.spV K [] 1 L2.JD) rfl (by decide) rfl ⟨rfl,by decide,by decide⟩ (λw h Y=>W.kIn_of (K:=KK.K) (as:=KK.A) (e:=KK.kA) Y) ?F (λK H a ns hl _ hS=>RR.zBT K H a ns hl hS) λ_ _ _ _ z=>z
 case F=>
  intro w mg fa h KX G hmg;exact RR.zMC (K:=KK.K w.params) (C_Shop:=835) (T_Shop:=692) (U_Shop:=691) (f_x0:=231) (f_x1:=312) (f_x2:=319) (f_x3:=326) (f_x4:=331) (f_x5:=345) (f_x6:=352) (f_x7:=357) (f_x8:=364) (f_x9:=371) (f_x10:=378) (f_x11:=385) (f_x12:=392) (f_x13:=399) (f_x14:=404) (f_x15:=411) (f_x16:=418) (f_x17:=423) (f_x18:=428) (f_x19:=433) (f_x20:=440) (f_x21:=447) (f_x22:=452) (f_x23:=457) (f_x24:=462) (f_x25:=467) (f_x26:=474) (f_x27:=481) (f_x28:=560) (f_x29:=671) (f_x30:=678) (f_x31:=683) (f_x32:=846) (f_x33:=853) (f_x34:=860) (f_x35:=867) (f_x36:=874) (f_x37:=881) (f_x57:=699) (f_x58:=720) (f_x42:=706) (f_x45:=727) (f_x46:=734) (f_x47:=742) (f_x48:=750) (f_x49:=757) (f_x59:=764) (f_x60:=771) (f_x54:=792) (f_x55:=799) (f_x38:=888) (f_x43:=713) (f_x44:=720) (f_x51:=771) (f_x53:=785) (f_x39:=895) (f_x41:=699) (f_x50:=764) (f_x52:=778) (f_x56:=804) (f_x40:=900) (kV_x40:=.none) (dc_x40:=.none) (pm_x40:=.str "law_lanepacks_k41_shops_refused" 1350) (cd_x40:=.ref 899) (ct_x40:=.none) (t1:=467) (t2:=469) (t3:=470) (t4:=471) (t5:=472) (t6:=473) (t7:=474) (t8:=475) (a9:=224) (t10:=577) (t11:=579) (t12:=581) (t13:=583) (t14:=584) (a15:=296) (t16:=586) (t17:=588) (t18:=592) (t19:=594) (t20:=598) (t21:=601) (t22:=587) (a23:=298) (t24:=589) (t25:=590) (t26:=591) (a27:=299) (t28:=593) (a29:=300) (t30:=595) (t31:=596) (t32:=597) (a33:=301) (t34:=599) (t35:=600) (a36:=302) (t37:=602) (t38:=603) (t39:=604) (a40:=303) (a41:=297) (h42:=Es w.params "number") (h43:=Es w.params "pick") (h44:=Es w.params "load") (h45:=Es w.params "take") (h46:=Es w.params "store") (h47:=Es w.params "put") (t48:=612) (t49:=613) (a50:=304) (t51:=615) (t52:=616) (a53:=305) (t54:=743) (t55:=745) (t56:=950) (t57:=1114) (t58:=1116) (a59:=221) (a60:=209) (a61:=190) (a62:=178) (a63:=166) (a64:=147) (a65:=135) (a66:=123) (a67:=111) (a68:=99) (a69:=87) (a70:=75) (a71:=56) (a72:=44) KX G hmg
   (by kernel_rfl)
   (KK.M2 _)
   (by unfold L2.Z9;kernel_rfl)
   (by unfold L2.Z9;kernel_rfl)
   (by unfold L2.Z9;kernel_rfl)
   (by unfold L2.Z9;kernel_rfl)
   (by kernel_rfl)
   (by kernel_rfl)
   (by kernel_rfl)
   (KK.p _ 231 20 "is_whole" (.str "lanepacks.words" 465))
   (KK.p _ 312 39 "parts_of" (.str "lanepacks.blocks" 575))
   (KK.p _ 319 40 "makes_word" (.str "lanepacks.blocks" 575))
   (KK.p _ 326 41 "place_of" (.str "lanepacks.blocks" 575))
   (KK.p _ 331 42 "names_of" (.str "lanepacks.blocks" 575))
   (KK.p _ 345 44 "may_name" (.str "lanepacks.blocks" 575))
   (KK.p _ 352 45 "fits" (.str "lanepacks.blocks" 575))
   (KK.p _ 357 46 "is_row" (.str "lanepacks.blocks" 575))
   (KK.p _ 364 47 "is_block" (.str "lanepacks.blocks" 575))
   (KK.p _ 371 49 "writes" (.str "lanepacks.orders" 687))
   (KK.p _ 378 50 "is_safe_number" (.str "lanepacks.orders" 687))
   (KK.p _ 385 51 "can_fault" (.str "lanepacks.orders" 687))
   (KK.p _ 392 52 "share_written_cell" (.str "lanepacks.orders" 687))
   (KK.p _ 399 53 "must_stay" (.str "lanepacks.orders" 687))
   (KK.p _ 404 54 "must_pairs" (.str "lanepacks.orders" 687))
   (KK.p _ 411 58 "is_lanes" (.str "lanepacks.plans" 741))
   (KK.p _ 418 59 "may_follow" (.str "lanepacks.plans" 741))
   (KK.p _ 423 60 "is_pack" (.str "lanepacks.plans" 741))
   (KK.p _ 428 61 "rows_within" (.str "lanepacks.plans" 741))
   (KK.p _ 433 62 "fits_plan" (.str "lanepacks.plans" 741))
   (KK.p _ 440 63 "check_lanes" (.str "lanepacks.plans" 741))
   (KK.p _ 447 64 "check_plan" (.str "lanepacks.plans" 741))
   (KK.p _ 452 65 "rows_alone" (.str "lanepacks.plans" 741))
   (KK.p _ 457 66 "nodes_of" (.str "lanepacks.plans" 741))
   (KK.p _ 462 67 "waits_of" (.str "lanepacks.plans" 741))
   (KK.p _ 467 68 "next_node" (.str "lanepacks.plans" 741))
   (KK.p _ 474 69 "ordered_by" (.str "lanepacks.plans" 741))
   (KK.p _ 481 70 "ordered" (.str "lanepacks.plans" 741))
   (KK.p _ 560 77 "is_cells" (.str "lanepacks.running" 948))
   (KK.p _ 671 100 "is_name" KK.m)
   (KK.p _ 678 101 "with_entry" KK.m)
   (KK.p _ 683 102 "without_entry" KK.m)
   (KK.p _ 846 105 "_law_cell_at" (.str "law_lanepacks_k41_shops_refused" 1350))
   (KK.p _ 853 106 "_law_mixed" (.str "law_lanepacks_k41_shops_refused" 1350))
   (KK.p _ 860 107 "_law_draw" (.str "law_lanepacks_k41_shops_refused" 1350))
   (KK.p _ 867 108 "_law_pick" (.str "law_lanepacks_k41_shops_refused" 1350))
   (KK.p _ 874 109 "_law_which" (.str "law_lanepacks_k41_shops_refused" 1350))
   (KK.p _ 881 110 "_law_none" (.str "law_lanepacks_k41_shops_refused" 1350))
   (KK.aX _ 699 103 0 "__init__" "Shop.__init__" (.ref 692) (.none) (.str "lanepacks.shops" 1112))
   (KK.aX _ 720 103 3 "keep" "Shop.keep" (.none) (.none) (.str "lanepacks.shops" 1112))
   (KK.aX _ 706 103 1 "known" "Shop.known" (.none) (.none) (.str "lanepacks.shops" 1112))
   (KK.aX _ 727 103 4 "pack" "Shop.pack" (.none) (.none) (.str "lanepacks.shops" 1112))
   (KK.aX _ 734 103 5 "outcome" "Shop.outcome" (.none) (.none) (.str "lanepacks.shops" 1112))
   (KK.aX _ 742 103 6 "run" "Shop.run" (.none) (.ref 735) (.str "lanepacks.shops" 1112))
   (KK.aX _ 750 103 7 "together" "Shop.together" (.none) (.ref 743) (.str "lanepacks.shops" 1112))
   (KK.aX _ 757 103 8 "drop" "Shop.drop" (.none) (.none) (.str "lanepacks.shops" 1112))
   (KK.aX _ 764 103 9 "grow" "Shop.grow" (.none) (.none) (.str "lanepacks.shops" 1112))
   (KK.aX _ 771 103 10 "back" "Shop.back" (.none) (.none) (.str "lanepacks.shops" 1112))
   (KK.aX _ 792 103 13 "block" "Shop.block" (.none) (.none) (.str "lanepacks.shops" 1112))
   (KK.aX _ 799 103 14 "plan" "Shop.plan" (.none) (.none) (.str "lanepacks.shops" 1112))
   (KK.p _ 888 111 "_law_ask" (.str "law_lanepacks_k41_shops_refused" 1350))
   (KK.aX _ 713 103 2 "settle" "Shop.settle" (.none) (.none) (.str "lanepacks.shops" 1112))
   (KK.aX _ 720 103 3 "keep" "Shop.keep" (.none) (.none) (.str "lanepacks.shops" 1112))
   (KK.aX _ 771 103 10 "back" "Shop.back" (.none) (.none) (.str "lanepacks.shops" 1112))
   (KK.aX _ 785 103 12 "names" "Shop.names" (.none) (.none) (.str "lanepacks.shops" 1112))
   (KK.p _ 895 112 "_law_at_first" (.str "law_lanepacks_k41_shops_refused" 1350))
   (KK.aX _ 699 103 0 "__init__" "Shop.__init__" (.ref 692) (.none) (.str "lanepacks.shops" 1112))
   (KK.aX _ 764 103 9 "grow" "Shop.grow" (.none) (.none) (.str "lanepacks.shops" 1112))
   (KK.aX _ 778 103 11 "cells" "Shop.cells" (.none) (.none) (.str "lanepacks.shops" 1112))
   (KK.aX _ 804 103 15 "log" "Shop.log" (.none) (.none) (.str "lanepacks.shops" 1112))
   (by kernel_rfl)
   (by kernel_rfl)
   (by kernel_rfl)
   (by kernel_rfl)
   (by kernel_rfl)
   (by kernel_rfl)
   (by kernel_rfl)
   (by kernel_rfl)
   (by kernel_rfl)
   (by kernel_rfl)
   (by kernel_rfl)
   (by kernel_rfl)
   (by kernel_rfl)
   (by kernel_rfl)
   (by kernel_rfl)
   (by kernel_rfl)
   (by kernel_rfl)
   (by kernel_rfl)
   (by kernel_rfl)
   (by kernel_rfl)
   (by kernel_rfl)
   (by kernel_rfl)
   (by kernel_rfl)
   (by kernel_rfl)
   (by kernel_rfl)
   (by kernel_rfl)
   (by kernel_rfl)
   (by kernel_rfl)
   (by kernel_rfl)
   (by kernel_rfl)
   (by kernel_rfl)
   (by kernel_rfl)
   (by kernel_rfl)
   (by kernel_rfl)
   (by kernel_rfl)
   (by decide)
   (by kernel_rfl)
   (by kernel_rfl)
   (by kernel_rfl)
   (by kernel_rfl)
   (by kernel_rfl)
   (by kernel_rfl)
   (by kernel_rfl)
   (by kernel_rfl)
   (by kernel_rfl)
   (by kernel_rfl)
   (by kernel_rfl)
   (by kernel_rfl)
   (by kernel_rfl)
   (by kernel_rfl)
   (by kernel_rfl)
   (by kernel_rfl)
   (by kernel_rfl)
   (by kernel_rfl)
   (by kernel_rfl)
   (by kernel_rfl)
   (by kernel_rfl)
   (by kernel_rfl)
   (by kernel_rfl)
   (by kernel_rfl)
   ⟨⟨by kernel_rfl,⟨by kernel_rfl,by kernel_rfl,by kernel_rfl,by kernel_rfl,by kernel_rfl,by kernel_rfl,by kernel_rfl⟩,by kernel_rfl,31,⟨by kernel_rfl,by kernel_rfl,by kernel_rfl,by kernel_rfl,by kernel_rfl⟩⟩,by kernel_rfl⟩
   ⟨⟨by kernel_rfl,⟨by kernel_rfl,by kernel_rfl,by kernel_rfl,by kernel_rfl,by kernel_rfl,by kernel_rfl,by kernel_rfl⟩,by kernel_rfl,31,⟨by kernel_rfl,by kernel_rfl,by kernel_rfl,by kernel_rfl,by kernel_rfl⟩⟩,by kernel_rfl⟩
   ⟨⟨by kernel_rfl,⟨by kernel_rfl,by kernel_rfl,by kernel_rfl,by kernel_rfl,by kernel_rfl,by kernel_rfl,by kernel_rfl⟩,by kernel_rfl,31,⟨by kernel_rfl,by kernel_rfl,by kernel_rfl,by kernel_rfl,by kernel_rfl⟩⟩,by kernel_rfl⟩
   ⟨⟨by kernel_rfl,⟨by kernel_rfl,by kernel_rfl,by kernel_rfl,by kernel_rfl,by kernel_rfl,by kernel_rfl,by kernel_rfl⟩,by kernel_rfl,31,⟨by kernel_rfl,by kernel_rfl,by kernel_rfl,by kernel_rfl,by kernel_rfl⟩⟩,31,163,"NoName.__init__",RR.mem 12 0,"there is no such name",_,by kernel_rfl,by kernel_rfl,by kernel_rfl,(RR.DO _ ⟨⟨.type "function",none,.none,.none,.str "lanepacks.errors" 194,none,.ref 162,.none,#[],rfl,by kernel_rfl,by kernel_rfl⟩,by kernel_rfl⟩),(L2.XG.of (by kernel_rfl) (by kernel_rfl) (by kernel_rfl)),⟨by kernel_rfl,by kernel_rfl,by kernel_rfl⟩⟩
   (by kernel_rfl)
   ⟨⟨by kernel_rfl,⟨by kernel_rfl,by kernel_rfl,by kernel_rfl,by kernel_rfl,by kernel_rfl,by kernel_rfl,by kernel_rfl⟩,by kernel_rfl,31,⟨by kernel_rfl,by kernel_rfl,by kernel_rfl,by kernel_rfl,by kernel_rfl⟩⟩,by kernel_rfl⟩
   ⟨⟨by kernel_rfl,⟨by kernel_rfl,by kernel_rfl,by kernel_rfl,by kernel_rfl,by kernel_rfl,by kernel_rfl,by kernel_rfl⟩,by kernel_rfl,31,⟨by kernel_rfl,by kernel_rfl,by kernel_rfl,by kernel_rfl,by kernel_rfl⟩⟩,31,206,"NotValid.__init__",RR.mem 15 0,"the plan is not valid",_,by kernel_rfl,by kernel_rfl,by kernel_rfl,(RR.HN _ ⟨⟨.type "function",none,.none,.none,.str "lanepacks.errors" 194,none,.ref 205,.none,#[],rfl,by kernel_rfl,by kernel_rfl⟩,by kernel_rfl⟩),(L2.XG.of (by kernel_rfl) (by kernel_rfl) (by kernel_rfl)),⟨by kernel_rfl,by kernel_rfl,by kernel_rfl⟩⟩
   (by kernel_rfl)
   ⟨⟨by kernel_rfl,⟨by kernel_rfl,by kernel_rfl,by kernel_rfl,by kernel_rfl,by kernel_rfl,by kernel_rfl,by kernel_rfl⟩,by kernel_rfl,31,⟨by kernel_rfl,by kernel_rfl,by kernel_rfl,by kernel_rfl,by kernel_rfl⟩⟩,by kernel_rfl⟩
   (by kernel_rfl)
end
